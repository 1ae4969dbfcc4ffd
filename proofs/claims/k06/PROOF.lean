import PyProof.Rows.All
import Wide.All
import OpenK.AllK
import Wide.FinOn
import HandS.ForMost
import HandS.Conv
import HandS.AnyAll
import HandS.Nested
import HandS.Walk
import KE.GoesEnum
import HandS.SetFor
import HandS.IsInst
import HandS.Codes
import HandS.TupAny
import HandS.SortInts
import HandS.Wide
import HandS.Zip
import HandS.Head0
import HandS.Head1
import HandS.Head2
import HandS.HeadEnd
import HandS.HeadHook1
import HandS.HeadHook2
import HandS.HeadHook3
import HandS.HeadHook4
import HandS.HeadWalk
import KE.KEqSeq
import KE.KSortedM
import PyProof.P3Eq
import HandS.Strs
import KE.KEqDeep
import HandS.Gcd
import KE.KMathGC
import KE.SortKeyHeap
import KE.KDictDisplayH
import HandS.SortKw
import HandS.Style
import HandS.Keys
import HandS.Text
import HandS.FStr
import KE.IntTextLaws
import HandS.Rev
import KE.KStateDown
import PySem.Challenge.RW_stronggens_k06_whole_roots
set_option Elab.async false
set_option linter.all false
set_option maxRecDepth 100000
set_option maxHeartbeats 4000000
namespace GA
open PySem PySem.Spec PyProof.Rows L2

/-- a def without cells called, told by its body, in the model's own terms -/
theorem lib_call {P : Program} {w : World} {A : Around} {E : Value → Shared → Prop} {K : PySem.W.Frag} {x qual : Str} {st : Stmt} {f : Addr} {fd : FuncData} {ps : List Str} {us : List Value} {s : Shared} {Q : Value → Shared → Prop}
    (F : Fun K x qual st f fd) (X : K.In s.heap) (lim : s.heap.NoLimit) (hd : A.depth < recursionLimit) (hb : Binds K fd ps []) (hlen : us.length = ps.length)
    (hk : (defScope st).kind = .function) (hco : (defScope st).isCoroutine = false) (hgen : (defScope st).isGenerator = false) (hcell : ∀ y ∈ (defScope st).names, y.2 ≠ .cell) (hloc : ∀ n ∈ ps, (defScope st).names.lookup n = some .local)
    (h : ∀ (h₀ : Heap) (env : Env) (tk : Nat), env.scope = defScope st → env.globals = mainGlobals → env.builtins = builtinsNs → h₀.Ns env.locals (fun x => (ps.zip us).reverse.lookup x) → (∀ b o, s.heap.get? b = some o → h₀.get? b = some o) →
      wpAny (model P w) (A.deeper env) (execs (defBody st) env) (fun fl s' => ∃ u, fl = .ret u ∧ Q u s') (fun _ _ => False) { s with heap := h₀, toks := tk }) :
    wpAny (model P w) A (call (.ref f) us) Q E s := by
  obtain ⟨oc, od, kV, doc, pm, an, cdv, ct, osl, rfl, lk, hcd⟩ := F.ex
  have hb1 := hb s us X (by rw [List.append_nil]; exact hlen)
  rw [List.append_nil] at hb1
  refine wpAny_call (codeAny_call_def hd (X _ _ lk) rfl lim (PySem.W.codeRec_of X hcd) rfl hb1 hcell (fun y hy => hloc _ (List.of_mem_zip hy).1) (fun h₀ hns hkeep => ?_) hco hgen hk)
  refine wpAny_mono (h h₀ _ _ rfl rfl rfl hns hkeep) (fun fl s' q => ?_) (fun e s' q => q.elim)
  obtain ⟨u, rfl, q⟩ := q
  exact q

/-- a value that is an int, or is of another built-in type -/
inductive Kd (s : Shared) (v : Value) : Option Int → Prop where
  | int {i : Int} {t : Tok} (h : v = .int i t) : Kd s v (some i)
  | oth {T : String} (h : s.TypeIs v T) (n : T ≠ "int") (nb : (Value.type T == Value.type "builtin_function_or_method") = false) : Kd s v none
def inR (lo hi : Int) : Option Int → Bool
  | some i => decide (lo ≤ i) && decide (i ≤ hi)
  | none => false

theorem typeIs_keep {s s' : Shared} {v : Value} {T : String} (k : ∀ b u, s.heap.get? b = some u → s'.heap.get? b = some u) (h : s.TypeIs v T) : s'.TypeIs v T := by
  cases v with
  | ref a => obtain ⟨o, h1, h2⟩ := h; exact ⟨o, k _ _ h1, h2⟩
  | _ => exact h
theorem kd_keep {s s' : Shared} {v : Value} {o : Option Int} (k : ∀ b u, s.heap.get? b = some u → s'.heap.get? b = some u) (h : Kd s v o) : Kd s' v o := by
  cases h with
  | int h => exact .int h
  | oth h n nb => exact .oth (typeIs_keep k h) n nb

/-- what stands around: the written part and the module's names -/
structure At (K : PySem.W.Frag) (mg : Str → Option Value) (base : Heap) (h : Heap) : Prop where
  mod : Mod K mg base
  bk : ∀ b o, base.get? b = some o → h.get? b = some o
section
variable {K : PySem.W.Frag} {mg : Str → Option Value} {base : Heap} {h h' : Heap}
theorem At.keep (a : At K mg base h) (k : ∀ b o, h.get? b = some o → h'.get? b = some o) : At K mg base h' := ⟨a.mod, fun b o e => k b o (a.bk b o e)⟩
theorem At.kin (a : At K mg base h) : K.In h := a.mod.kin.keeps a.bk
theorem At.lim (a : At K mg base h) : h.NoLimit := a.mod.nolimit.keeps a.bk
end
section
variable {M : Model} {A : Around} {E : Value → Shared → Prop} {s : Shared} {K : PySem.W.Frag} {mg : Str → Option Value} {base : Heap} {env : Env} {x : Str} {pos : Pos} {u : Value} {Q : Value → Shared → Prop}
theorem nm_loc {m : Str → Option Value} (hk : env.scope.kind = .function) (hl : env.scope.names.lookup x = some .local) (hn : s.heap.Ns env.locals m) (hv : m x = some u) (h : Q u s) (hd : (x == ("__debug__" : Str)) = false := by decide) :
    wpAny M A (eval (.Name x pos) env) Q E s := wpAny_Name (wpAny_loadName_local hk hl hn hv h) hd
theorem nm_glob (a : At K mg base s.heap) (hk : env.scope.kind = .function) (hl : env.scope.names.lookup x = some .globalImplicit) (hg : env.globals = mainGlobals) (hm : mg x = some u) (h : Q u s) (hd : (x == ("__debug__" : Str)) = false := by decide) :
    wpAny M A (eval (.Name x pos) env) Q E s := Calls.Name_function_global hk hl (Calls.loadGlobal_global (by rw [hg]; exact a.mod.glob.keeps a.bk) hm h) hd
theorem nm_blt (a : At K mg base s.heap) (hk : env.scope.kind = .function) (hl : env.scope.names.lookup x = some .globalImplicit) (hg : env.globals = mainGlobals) (hb : env.builtins = builtinsNs) (hm : mg x = none) (hv : bootBuiltins x = some u) (h : Q u s)
    (hn : x ≠ "__name__" := by decide) (hd : (x == ("__debug__" : Str)) = false := by decide) : wpAny M A (eval (.Name x pos) env) Q E s := by
  obtain ⟨mb, h1, h2⟩ := a.mod.blt
  exact Calls.Name_function_global hk hl (Calls.loadGlobal_builtin (by rw [hg]; exact a.mod.glob.keeps a.bk) hm (by rw [hb]; exact h1.keeps a.bk) ((h2 x hn).trans hv) h) hd
end

/-- def is_between(value, low, high): return type(value) is int and low <= value <= high -/
def btBody (p1 p2 p3 p4 p5 p6 p7 p8 p9 p10 p11 : Pos) : List Stmt :=
  [.Return (some (.BoolOp .And [.Compare (.Call (.Name "type" p1) [.Name "value" p2] [] p3) [.Is] [.Name "int" p4] p5, .Compare (.Name "low" p6) [.LtE, .LtE] [.Name "value" p7, .Name "high" p8] p9] p10)) p11]
structure BtDef (st : Stmt) : Prop where
  body : ∃ p1 p2 p3 p4 p5 p6 p7 p8 p9 p10 p11, defBody st = btBody p1 p2 p3 p4 p5 p6 p7 p8 p9 p10 p11
  kind : (defScope st).kind = .function
  co : (defScope st).isCoroutine = false
  gen : (defScope st).isGenerator = false
  cell : ∀ y ∈ (defScope st).names, y.2 ≠ .cell
  v : (defScope st).names.lookup ("value" : Str) = some .local
  l : (defScope st).names.lookup ("low" : Str) = some .local
  h : (defScope st).names.lookup ("high" : Str) = some .local
  t : (defScope st).names.lookup ("type" : Str) = some .globalImplicit
  i : (defScope st).names.lookup ("int" : Str) = some .globalImplicit
theorem lib_between {P : Program} {w : World} {A : Around} {E : Value → Shared → Prop} {K : PySem.W.Frag} {mg : Str → Option Value} {base : Heap} {st : Stmt} {f : Addr} {fd : FuncData} {s : Shared} {v : Value} {lo hi : Int} {t1 t2 : Tok} {o : Option Int} {q : Str}
    (F : Fun K "is_between" q st f fd) (D : BtDef st) (hb : Binds K fd ["value", "low", "high"] []) (mt : mg "type" = none) (mi : mg "int" = none) (a : At K mg base s.heap) (hd : A.depth + 1 < recursionLimit) (k : Kd s v o) :
    wpAny (model P w) A (call (.ref f) [v, .int lo t1, .int hi t2]) (fun y s' => y = .bool (inR lo hi o) ∧ Keeps s s') E s := by
  refine lib_call F a.kin a.lim (by omega) hb rfl D.kind D.co D.gen D.cell (fun n hn => ?_) (fun h₀ env tk e1 e2 e3 hns hkeep => ?_)
  · simp only [List.mem_cons, List.not_mem_nil, or_false] at hn
    rcases hn with rfl | rfl | rfl
    · exact D.v
    · exact D.l
    · exact D.h
  · obtain ⟨p1, p2, p3, p4, p5, p6, p7, p8, p9, p10, p11, eb⟩ := D.body
    rw [eb]
    have a' : At K mg base h₀ := a.keep hkeep
    have kf : env.scope.kind = .function := by rw [e1]; exact D.kind
    have lv : env.scope.names.lookup ("value" : Str) = some .local := by rw [e1]; exact D.v
    have ll : env.scope.names.lookup ("low" : Str) = some .local := by rw [e1]; exact D.l
    have lh : env.scope.names.lookup ("high" : Str) = some .local := by rw [e1]; exact D.h
    have lt : env.scope.names.lookup ("type" : Str) = some .globalImplicit := by rw [e1]; exact D.t
    have li : env.scope.names.lookup ("int" : Str) = some .globalImplicit := by rw [e1]; exact D.i
    have k' : Kd { s with heap := h₀, toks := tk } v o := kd_keep (s := s) hkeep k
    have fin : ∀ b, b = inR lo hi o → ∃ u, Flow.ret (.bool b) = .ret u ∧ u = .bool (inR lo hi o) ∧ Keeps s { s with heap := h₀, toks := tk } := fun b e => ⟨_, rfl, by rw [e], h₀, tk, rfl, hkeep⟩
    refine wpAny_execs_cons (wpAny_Return_some (BoolOp_and ?_))
    refine wpAny_Compare1 (wpAny_Call_Name_kw (nm_blt a' kf lt e2 e3 mt boot_type ?_)) (by rfl)
    refine PyProof.Rows.callWith_type1 (args_cons (nm_loc kf lv hns rfl (args_nil ?_)))
    cases k' with
    | @int v_i v_t hv =>
      subst hv
      refine call_type_of (Tx := "int") rfl (by decide +kernel) (nm_blt a' kf li e2 e3 mi boot_int (wpAny_is_self rfl (wpAny_truthy_bool ?_)))
      rw [if_pos rfl]
      refine BoolOp_one ?_
      refine Compare_chain (nm_loc kf ll hns rfl (chain_link (nm_loc kf lv hns rfl (PyProof.Rows.le_int (wpAny_truthy_bool ?_))))) (by rfl)
      by_cases c : lo ≤ v_i
      · rw [decide_eq_true c, if_pos rfl]
        refine chain_last (nm_loc kf lh hns rfl (PyProof.Rows.le_int (fin _ ?_)))
        show _ = (decide (lo ≤ _) && _)
        rw [decide_eq_true c, Bool.true_and]
      · rw [decide_eq_false c, if_neg Bool.false_ne_true]
        refine fin _ ?_
        show _ = (decide (lo ≤ _) && _)
        rw [decide_eq_false c, Bool.false_and]
    | oth ht n nb =>
      refine call_type_of ht nb (nm_blt a' kf li e2 e3 mi boot_int (wpAny_is_other rfl (fun z => n (Value.type.inj z)) (wpAny_truthy_bool ?_)))
      rw [if_neg Bool.false_ne_true]
      exact fin _ rfl

/-- def is_point(degree, value): return is_between(value, 0, degree - 1) -/
def ptBody (p1 p2 p3 p4 p5 p6 p7 p8 : Pos) (j k : Nat) : List Stmt :=
  [.Return (some (.Call (.Name "is_between" p1) [.Name "value" p2, .Constant (.int 0) j p3, .BinOp (.Name "degree" p4) .Sub (.Constant (.int 1) k p5) p6] [] p7)) p8]
structure PtDef (st : Stmt) : Prop where
  body : ∃ p1 p2 p3 p4 p5 p6 p7 p8 j k, defBody st = ptBody p1 p2 p3 p4 p5 p6 p7 p8 j k
  kind : (defScope st).kind = .function
  co : (defScope st).isCoroutine = false
  gen : (defScope st).isGenerator = false
  cell : ∀ y ∈ (defScope st).names, y.2 ≠ .cell
  v : (defScope st).names.lookup ("value" : Str) = some .local
  d : (defScope st).names.lookup ("degree" : Str) = some .local
  b : (defScope st).names.lookup ("is_between" : Str) = some .globalImplicit
theorem keeps_from {s s' : Shared} {h : Heap} {tk : Nat} (hk : ∀ b o, s.heap.get? b = some o → h.get? b = some o) (k : Keeps { s with heap := h, toks := tk } s') : Keeps s s' := by
  obtain ⟨h', tk', e, kk⟩ := k
  exact ⟨h', tk', e, fun b o q => kk b o (hk b o q)⟩
theorem lib_point {P : Program} {w : World} {A : Around} {E : Value → Shared → Prop} {K : PySem.W.Frag} {mg : Str → Option Value} {base : Heap} {st stB : Stmt} {f fB : Addr} {fd fdB : FuncData} {s : Shared} {v : Value} {n : Int} {t1 : Tok} {o : Option Int} {q qB : Str}
    (F : Fun K "is_point" q st f fd) (D : PtDef st) (hb : Binds K fd ["degree", "value"] []) (FB : Fun K "is_between" qB stB fB fdB) (DB : BtDef stB) (hbB : Binds K fdB ["value", "low", "high"] []) (gB : mg "is_between" = some (.ref fB))
    (mt : mg "type" = none) (mi : mg "int" = none) (a : At K mg base s.heap) (hd : A.depth + 2 < recursionLimit) (k : Kd s v o) :
    wpAny (model P w) A (call (.ref f) [.int n t1, v]) (fun y s' => y = .bool (inR 0 (n - 1) o) ∧ Keeps s s') E s := by
  refine lib_call F a.kin a.lim (by omega) hb rfl D.kind D.co D.gen D.cell (fun n hn => ?_) (fun h₀ env tk e1 e2 e3 hns hkeep => ?_)
  · simp only [List.mem_cons, List.not_mem_nil, or_false] at hn
    rcases hn with rfl | rfl
    · exact D.d
    · exact D.v
  · obtain ⟨p1, p2, p3, p4, p5, p6, p7, p8, j, kk, eb⟩ := D.body
    rw [eb]
    have a' : At K mg base h₀ := a.keep hkeep
    have kf : env.scope.kind = .function := by rw [e1]; exact D.kind
    have lv : env.scope.names.lookup ("value" : Str) = some .local := by rw [e1]; exact D.v
    have ld : env.scope.names.lookup ("degree" : Str) = some .local := by rw [e1]; exact D.d
    have lb : env.scope.names.lookup ("is_between" : Str) = some .globalImplicit := by rw [e1]; exact D.b
    have k' : Kd { s with heap := h₀, toks := tk } v o := kd_keep (s := s) hkeep k
    refine wpAny_execs_cons (wpAny_Return_some (wpAny_Call_Name_kw (nm_glob a' kf lb e2 gB ?_)))
    refine PySem.W.callWith_K (h₀ := base) a'.mod.kin FB.kp (args_cons ?_)
    refine nm_loc kf lv hns rfl (args_cons (wpAny_Constant_int (args_cons ?_)))
    refine wpAny_BinOp (nm_loc kf ld hns rfl (wpAny_Constant_int (PyProof.Rows.sub_int (args_nil ?_))))
    refine ⟨a'.kin, ?_⟩
    refine thn (lib_between FB DB hbB mt mi (base := base) (s := { s with heap := h₀, toks := _ }) a' (by show A.depth + 1 + 1 < recursionLimit; omega) (kd_keep (s := { s with heap := h₀, toks := tk }) (fun _ _ e => e) k')) fun y s' r => ?_
    obtain ⟨rfl, r2⟩ := r
    exact ⟨_, rfl, rfl, keeps_from (s := s) hkeep r2⟩
end GA
/-! all(test for x in t), t a tuple, the test any expression that is walked in the generator's own frame -/
namespace GA
open PySem PySem.Spec PyProof.Rows L2 GxR
/-- what the test says of the item in place j -/
def plT (pb : V → Bool) (xs : List V) (j : Nat) : Bool := (xs[j]?).any pb
theorem plT_all (pb : V → Bool) (xs : List V) : (List.range xs.length).all (plT pb xs) = xs.all pb := by
  have e : (List.range xs.length).map (plT pb xs) = xs.map pb := by
    refine List.ext_getElem (by simp) fun j h1 h2 => ?_
    have hj : j < xs.length := by simpa using h2
    simp [plT, hj]
  have q := congrArg (fun l : List Bool => l.all id) e
  simpa [List.all_map, Function.comp_def] using q
section
variable {X : Cx} {pins : List (Addr × Obj)} {σ : L2.St} {H : Hp} {s : Shared}
/-- the code object of a generator expression: told before, or made now (then its def's table has grown) -/
theorem gx_code {c T : Addr} {env : Env} {pos : Pos} {q : Str} {scope : Scope} {ps : Array Value} {A : Around} {E : Value → Shared → Prop} {P : Program} {w : World} {Post : Value → Shared → Prop}
    (hc : env.code = .ref c) (hd : PySem.W.CodeHd s.heap c T) (hT : s.heap.get? T = some { cls := .none, data := .fields ps }) (ok : TriplesOk ps.toList)
    (k : ∀ (code : Value) (g : Heap) (tk : Nat) (more : Array Value), Heap.ExtBut T s.heap g → s.heap.objs.size ≤ g.objs.size → g.get? T = some { cls := .none, data := .fields (ps ++ more) } → TriplesOk (ps ++ more).toList → Post code { s with heap := g, toks := tk }) :
    wpAny (model P w) A (genexprCode env pos q scope) Post E s := by
  cases seen : codeAmong pos ps.toList with
  | some v =>
    have q0 : ps ++ #[] = ps := by simp
    exact wpAny_genexprCode_hit hc (hd.code hT ok) seen (k v s.heap s.toks #[] (Heap.ExtBut.refl _ _) (Nat.le_refl _) (by rw [q0]; exact hT) (by rw [q0]; exact ok))
  | none =>
    refine wpAny_genexprCodeX hc (hd.code hT ok) (hd.tab hT) seen fun v g tk far big small made _ tab' _ => ?_
    obtain ⟨_, _, _, _, _, _, _, _, _, _, _, _, _, _, _, _, _, _, _, good, _⟩ := made
    exact k _ g tk _ far (Nat.le_trans big (Nat.le_of_lt small)) tab'.2 good
/-- g is the generator over the items xs, not begun -/
def Begun (X : Cx) (pins : List (Addr × Obj)) (σ : L2.St) (H1 : Hp) (T : Addr) (xs : List V) (pb : V → Bool) (g : Addr) (z : Shared) : Prop :=
  ∃ (foot wrt : List Addr) (Gs : Array GenState → Array GenState → Prop) (Fv : Nat → Value → Prop) (Sn : Nat → Shared → Prop),
    WalksS X.prog X.w X.A.in1 g foot wrt Gs xs.length Fv Sn ∧ Sn 0 z ∧ TruthOf X.prog X.w X.A.in1 Fv (plT pb xs) ∧ ∀ z', Moved wrt Gs z z' → ∃ H2, Tabbed T H1 H2 ∧ Inv X pins σ H2 z'
/-- the test of one item, in the generator's frame; s1, H1: the state in which the tuple was read -/
def EltT (X : Cx) (T : Addr) (scope : Scope) (x : Str) (elt : Expr) (s1 : Shared) (H1 : Hp) (xs : List V) (pb : V → Bool) : Prop :=
  ∀ (ge : Env) (B : Around) (E' : Value → Shared → Prop) (y : V) (v : Value) (z : Shared) (names : Str → Option Value), ge.scope = scope → ge.globals = mainGlobals → ge.builtins = builtinsNs → ge.cells = cloFrom X.env.cells scope.names [] →
    B.handled = none → B.depth ≤ X.A.depth + 1 → z.heap.Ns ge.locals names → names x = some v → RelV y v → y ∈ xs → (∀ b u, b ≠ T → s1.heap.get? b = some u → z.heap.get? b = some u) →
    wpAny (model X.prog X.w) B (eval elt ge) (fun r z' => r = .bool (pb y) ∧ Keeps z z') E' z
theorem gen_tup {c T : Addr} {elt iter : Expr} {x : Str} {px gpos : Pos} {scope : Scope} {te : TE} {k : Nat} {Q' : Value → Shared → Prop} {R : List V → (V → Bool) → Hp → Prop}
    (hr : Room k X.A) (TB : TabB X.base X.mg c T) (hcode : X.env.code = .ref c) (S : GenS X.env scope x) (hi : PE X iter te) (hs : ∀ v, genFold iter X.env v = pure v) (I : Inv X pins σ H s)
    (h : te σ H fun v H1 => ∃ a xs pb, v = .ref a ∧ SqT X.K H1 a xs ∧ TabG H1 T ∧ (∀ pins s1, Inv X pins σ H1 s1 → EltT X T scope x elt s1 H1 xs pb) ∧ R xs pb H1)
    (hQ : ∀ xs pb H1 g z, R xs pb H1 → Begun X pins σ H1 T xs pb g z → Q' (.ref g) z) :
    wpAny (model X.prog X.w) X.A (eval (.GeneratorExp elt [⟨.Name x px, iter, [], 0⟩] scope gpos) X.env) Q' X.xe s := by
  have room := hr.dp
  refine wpAny_GeneratorExp_walksQD hr.hd S.co (closure_ok S.free) S.cell S.dot S.loc S.kind (by omega) (thn (hi.run pins s σ H _ I h) fun tv s1 ⟨v, H1, J, rt, a, xs, pb, ev, hx, ⟨ps, atT, okT⟩, test, goal⟩ => ?_) hs
  subst ev
  obtain rfl : tv = .ref a := rt
  obtain ⟨its, vals, tup, _⟩ := J.tuple hx
  have isT : s1.heap.IsTuple a its.toArray := tup
  have objT : s1.heap.get? T = some { cls := .none, data := .fields ps } := J.hok T _ atT
  have ltT := Heap.lt_size objT
  have lta := tup.lt
  have apart : a ≠ T := by
    rintro rfl
    obtain ⟨ob, g1, g2, _⟩ := isT
    rw [objT] at g1
    cases g1
    cases g2
  refine wpAny_pyIter_tuple isT ⟨J.nolimit.push _, ?_⟩
  generalize ei : ({ cls := .type "tuple_iterator", data := .fields #[.ref a, .int 0 0] } : Obj) = io
  have live : io.isFreed = false := by rw [← ei]; rfl
  have wide : (s1.heap.push io).objs.size = s1.heap.objs.size + 1 := Heap.size_push ..
  refine gx_code (s := { s1 with heap := s1.heap.push io }) hcode (TB.code.keeps fun b u e => Heap.get?_push_of_some _ (J.bk b u e)) (Heap.get?_push_of_some _ objT) okT fun code g tk more far big tabg good => ?_
  -- what stood ahead of the iterator stands, but for the table
  have stay : ∀ b u, b ≠ T → s1.heap.get? b = some u → g.get? b = some u := fun b u n e => far b u n (Heap.get?_push_of_some _ e)
  have itAt : g.get? s1.heap.objs.size = some io := far _ _ (Nat.ne_of_gt ltT) (Heap.get?_push_size _ live)
  have big' : s1.heap.objs.size < g.objs.size := by
    have : s1.heap.objs.size + 1 ≤ g.objs.size := wide ▸ big
    omega
  have stat : cStatics < s1.heap.objs.size ∧ cStatics ≠ T := by
    obtain ⟨_, ns, _⟩ := J.nolimit
    refine ⟨ns.lt, ?_⟩
    rintro rfl
    obtain ⟨_, _, _, g1, g2, _⟩ := ns
    rw [objT] at g1
    cases g1
    cases g2
  obtain ⟨bm, ob, b1, b2, b3, b4, b5, b6, b7, b8⟩ := TB.bm
  refine wpAny_builtinsFor (m := X.mg) (J.ok.glob ▸ ((J.mod.glob.keeps J.bk).push io).extBut far TB.gP) b1 b2 (stay _ _ b4 (J.bk _ _ b5)) b6 b7 b8 ?_
  refine ⟨s1.heap.objs.size, [s1.heap.objs.size, a], [s1.heap.objs.size], its.toArray.size, _, _, fun _ => true, fun i y => ∃ z, xs[i]? = some z ∧ y = .bool (pb z), rfl,
    fun B hB => Walks.tuple hB _ _ (Nat.ne_of_lt lta) its.toArray, ⟨⟨io, itAt, by rw [← ei], by rw [← ei]; rfl⟩, ?_⟩, ?_, (J.nolimit.push _).extBut far stat.2, ?_, fun ref old => ?_, ?_⟩
  · obtain ⟨ot, g1, g2⟩ := isT
    exact ⟨ot, stay _ _ apart g1, g2⟩
  · simp only [List.mem_cons, List.not_mem_nil, or_false]
    rintro b (rfl | rfl)
    · exact big'
    · exact Nat.lt_trans lta big'
  · simp only [List.mem_cons, List.not_mem_nil, or_false]
    exact Nat.ne_of_lt stat.1
  · refine ⟨fun B E' i v z names _ _ _ _ _ _ _ => ?_, fun B E' i v z names hB dB _ pv _ hn hx' keep => ?_⟩
    · rw [List.forIn_nil]
      exact wpAny_pure ⟨rfl, keeps_refl _⟩
    · have hv : its[i]? = some v := by simpa using pv
      obtain ⟨li, _⟩ := List.getElem?_eq_some_iff.mp hv
      have lx : i < xs.length := vals.length ▸ li
      have gx := List.getElem?_eq_getElem lx
      obtain ⟨v', hv', rel⟩ := vals.get gx
      obtain rfl : v = v' := Option.some.inj (hv.symm.trans hv')
      refine thn (test pins s1 J _ B E' xs[i] v z names rfl J.ok.glob rfl rfl hB dB hn hx' rel (List.getElem_mem lx) fun b u n e => ?_) fun r z' t => ⟨⟨xs[i], gx, t.1⟩, t.2⟩
      have inG := stay b u n e
      refine keep b (List.mem_range.mpr (Heap.lt_size inG)) ?_ u (old b u inG)
      simp only [List.mem_cons, List.not_mem_nil, or_false]
      exact Nat.ne_of_lt (Heap.lt_size e)
  · intro ga g5 tk5 gs bare _ _ keep5 walk start
    have cnt : its.toArray.size = xs.length := by rw [vals.length]; simp
    rw [cnt] at walk start
    rw [GxR.passing_true, List.length_range] at walk
    refine hQ xs pb H1 ga _ goal ⟨_, _, _, _, _, walk.in4_1, start, fun j y sj Qj Ej hy hq => ?_, fun z' mv => ?_⟩
    · obtain ⟨i, at_i, w', hw', rfl⟩ := hy
      obtain ⟨_, same⟩ := List.getElem?_eq_some_iff.mp at_i
      rw [List.getElem_range] at same
      subst same
      have val : plT pb xs j = pb w' := by simp [plT, hw']
      exact wpAny_truthy_bool (val ▸ hq)
    · have out : ∀ b u, s1.heap.get? b = some u → b ∉ [g.objs.size, s1.heap.objs.size] := fun b u e => by
        have lb := Heap.lt_size e
        simp only [List.mem_cons, List.not_mem_nil, or_false, not_or]
        exact ⟨Nat.ne_of_lt (Nat.lt_trans lb big'), Nat.ne_of_lt lb⟩
      have N := inv_tab (more := more) (h' := z'.heap) (g' := z'.gens) (d' := z'.drawn) (t' := z'.toks) J atT (fun b u n e => mv.heap b u (out b u e) (keep5 b u (stay b u n e)))
        (mv.heap T _ (out T _ objT) (keep5 T _ tabg)) (AllBare.movedS (J.bare.push bare) mv)
      rw [sh_eta s1 z' mv.os] at N
      exact ⟨_, ⟨⟨_, upd_same, good⟩, fun b n => upd_ne n⟩, N⟩
/-- all(..): true of every item; the table may have grown -/
def tAllT (X : Cx) (T : Addr) (scope : Scope) (x : Str) (elt : Expr) (te : TE) : TE := fun σ H Q => te σ H fun v H1 => ∃ a xs pb, v = .ref a ∧ SqT X.K H1 a xs ∧ TabG H1 T ∧
  (∀ pins s1, Inv X pins σ H1 s1 → EltT X T scope x elt s1 H1 xs pb) ∧ ∀ H2, Tabbed T H1 H2 → Q (.bl (xs.all pb)) H2
theorem pe_allT {c T : Addr} {elt iter : Expr} {x : Str} {px p pos gpos : Pos} {scope : Scope} {te : TE} {k : Nat}
    (hr : Room k X.A) (hg : Gl X "all") (hm : X.mg "all" = none) (TB : TabB X.base X.mg c T) (hcode : X.env.code = .ref c) (S : GenS X.env scope x) (hi : PE X iter te)
    (hs : ∀ v, genFold iter X.env v = pure v) (hb : bootBuiltins "all" = some (.builtin "all"))
    (one : starEach [.GeneratorExp elt [⟨.Name x px, iter, [], 0⟩] scope gpos] X.env = (false, eval (.GeneratorExp elt [⟨.Name x px, iter, [], 0⟩] scope gpos) X.env) :: starEach [] X.env := by rfl) :
    PE X (.Call (.Name "all" p) [.GeneratorExp elt [⟨.Name x px, iter, [], 0⟩] scope gpos] [] pos) (tAllT X T scope x elt te) := by
  constructor
  intro pins s σ H Q I h
  refine wpAny_Call_Name_kw (ld_blt I hg hm hb (PyProof.Rows.callWith_builtin1 (args_cons ?_ one) one (by rfl)))
  refine gen_tup (R := fun xs pb H1 => ∀ H2, Tabbed T H1 H2 → Q (.bl (xs.all pb)) H2) hr TB hcode S hi hs I h fun xs pb H1 g z said ⟨foot, wrt, Gs, Fv, Sn, W, st, tr, back⟩ => args_nil ?_
  refine call_all_walkS (W.self 0 _ _ _ st ⟨g, foot, wrt, Gs, _, Fv, Sn, _, rfl, W, st, tr, fun z' mv => ?_⟩)
  obtain ⟨H2, grown, N⟩ := back z' mv
  exact ⟨.bl _, H2, N, rfl, plT_all pb xs ▸ said H2 grown⟩
end
end GA
namespace GA
open PySem PySem.Spec PyProof.Rows L2 GxR

/-- a value of a built-in kind -/
def PlainV (K : PySem.W.Frag) (H : Hp) : V → Prop
  | .ref p => (∃ xs, SqL K H p xs) ∨ (∃ xs, SqT K H p xs) ∨ (∃ kvs, H p = some (.dK kvs))
  | .ty _ => False
  | _ => True
/-- is it an int from lo to hi -/
def btV (lo hi : Int) : V → Bool
  | .int i => decide (lo ≤ i) && decide (i ≤ hi)
  | _ => false
def intO : V → Option Int
  | .int i => some i
  | _ => none
theorem btV_inR (lo hi : Int) (v : V) : inR lo hi (intO v) = btV lo hi v := by cases v <;> rfl
theorem plain_kd {X : Cx} {pins : List (Addr × Obj)} {σ : L2.St} {H : Hp} {s : Shared} {x : V} {v : Value} (I : Inv X pins σ H s) (p : PlainV X.K H x) (r : RelV x v) : Kd s v (intO x) := by
  cases x with
  | non => cases (show v = Value.none from r); exact .oth (T := "NoneType") rfl (by decide) (by decide +kernel)
  | bl y => cases (show v = Value.bool y from r); exact .oth (T := "bool") rfl (by decide) (by decide +kernel)
  | int i => obtain ⟨t, rfl⟩ := (show ∃ t, v = Value.int i t from r); exact .int rfl
  | str y => obtain ⟨t, rfl⟩ := (show ∃ t, v = Value.str y t from r); exact .oth (T := "str") rfl (by decide) (by decide +kernel)
  | byt y => obtain ⟨t, rfl⟩ := (show ∃ t, v = Value.bytes y t from r); exact .oth (T := "bytes") (PySem.W.typeIs_bytes _ _ _) (by decide) (by decide +kernel)
  | flt y => obtain ⟨t, rfl⟩ := (show ∃ t, v = Value.float y t from r); exact .oth (T := "float") rfl (by decide) (by decide +kernel)
  | ty y => exact p.elim
  | ref q =>
    cases (show v = Value.ref q from r)
    rcases p with ⟨xs, h⟩ | ⟨xs, h⟩ | ⟨kvs, h⟩
    · obtain ⟨its, rv, ⟨ob, n, g, c, _, _⟩, hz⟩ := I.list h
      exact .oth (T := "list") ⟨ob, g, c⟩ (by decide) (by decide +kernel)
    · obtain ⟨its, rv, ⟨ob, g, c, k⟩, hz⟩ := I.tuple h
      exact .oth (T := "tuple") ⟨ob, g, c⟩ (by decide) (by decide +kernel)
    · obtain ⟨z, y, vs, rr, ob, es, ep, e, c, _⟩ := I.hok q _ h
      exact .oth (T := "dict") ⟨ob, e, c.1⟩ (by decide) (by decide +kernel)

/-- what the element of all(is_point(degree, x) for x in ..) needs -/
structure PtElt (scope : Scope) : Prop where
  kind : scope.kind = .function
  x : scope.names.lookup ("x" : Str) = some .local
  d : scope.names.lookup ("degree" : Str) = some .free
  p : scope.names.lookup ("is_point" : Str) = some .globalImplicit
theorem elt_point {X : Cx} {pins : List (Addr × Obj)} {σ : L2.St} {H1 : Hp} {s1 : Shared} {P : Addr} {scope : Scope} {xs : List V} {n : Int} {i k : Nat} {p1 p2 p3 p4 : Pos} {st stB : Stmt} {f fB : Addr} {fd fdB : FuncData} {q qB : Str}
    (I : Inv X pins σ H1 s1) (hP : TabG H1 P) (S : GenS X.env scope "x") (SE : PtElt scope) (hN : X.N[i]? = some ("degree" : Str)) (hσ : σ[i]? = some (some (.int n))) (hk : X.env.scope.names.lookup ("degree" : Str) = some .cell)
    (F : Fun X.K "is_point" q st f fd) (D : PtDef st) (hb : Binds X.K fd ["degree", "value"] []) (g : X.mg "is_point" = some (.ref f)) (FB : Fun X.K "is_between" qB stB fB fdB) (DB : BtDef stB) (hbB : Binds X.K fdB ["value", "low", "high"] [])
    (gB : X.mg "is_between" = some (.ref fB)) (mt : X.mg "type" = none) (mi : X.mg "int" = none) (hr : Room (k + 2) X.A) (hx : ∀ x ∈ xs, PlainV X.K H1 x) (hbP : ∀ b o, X.base.get? b = some o → b ≠ P) :
    EltT X P scope "x" (.Call (.Name "is_point" p1) [.Name "degree" p2, .Name "x" p3] [] p4) s1 H1 xs (btV 0 (n - 1)) := by
  intro cenv A' E' y v s₂ m₂ e1 e2 e3 e4 hh hd hn hm ry hy hkp
  obtain ⟨ps, hPs, _⟩ := hP
  have hPo : s1.heap.get? P = some { cls := .none, data := .fields ps } := I.hok P _ hPs
  have a2 : At X.K X.mg X.base s₂.heap := ⟨I.ok.mod, fun b o e => hkp b o (hbP b o e) (I.bk b o e)⟩
  have kf : cenv.scope.kind = .function := by rw [e1]; exact SE.kind
  obtain ⟨m, hns, hlk⟩ := I.loc
  obtain ⟨u, ru, lk⟩ := hlk i "degree" (.int n) hN hσ (.inr (.inl hk))
  obtain ⟨t, rfl⟩ := (show ∃ t, u = Value.int n t from ru)
  have kc : X.env.kindOf ("degree" : Str) = some .cell := hk
  obtain ⟨c, hc, hcell⟩ : ∃ c, X.env.cells.lookup ("degree" : Str) = some c ∧ s1.heap.IsCell c (some (.int n t)) := by
    rcases lk with ⟨z, _⟩ | ⟨_, z⟩
    · rw [kc] at z
      cases z
    · exact z
  have hc2 : cenv.cells.lookup ("degree" : Str) = some c := by
    rw [e4]
    exact NdefX.clo_has S.free (PySem.mem_of_lookup SE.d) hc
  have hcell2 : s₂.heap.IsCell c (some (.int n t)) := by
    obtain ⟨o, h1, h2⟩ := hcell
    refine ⟨o, hkp c o (fun z => ?_) h1, h2⟩
    rw [z, hPo] at h1
    cases h1
    cases h2
  refine wpAny_Call_Name_kw (nm_glob a2 kf (by rw [e1]; exact SE.p) e2 g ?_)
  refine PySem.W.callWith_K (h₀ := X.base) a2.mod.kin F.kp (args_cons ?_)
  refine wpAny_Name (wpAny_loadName_free kf (show cenv.scope.names.lookup _ = _ by rw [e1]; exact SE.d) hc2 hcell2 (args_cons ?_)) (by decide)
  refine nm_loc kf (by rw [e1]; exact SE.x) hn hm (args_nil ⟨a2.kin, ?_⟩)
  have kd := plain_kd I (hx y hy) ry
  have kd2 : Kd s₂ v (intO y) := by
    generalize intO y = oy at kd
    cases kd with
    | int h => exact .int h
    | oth h n' nb =>
      refine .oth ?_ n' nb
      cases v with
      | ref a =>
        obtain ⟨o, h1, h2⟩ := h
        refine ⟨o, hkp a o (fun z => ?_) h1, h2⟩
        rw [z, hPo] at h1
        cases h1
        cases h2
      | _ => exact h
  have hd2 : A'.depth + 2 < recursionLimit := by have := hr.dp; omega
  refine thn (lib_point (n := n) F D hb FB DB hbB gB mt mi a2 hd2 kd2) fun y' s3 r => ?_
  rw [btV_inR] at r
  exact r
end GA
/-! for k, x in enumerate(t), t a tuple -/
namespace GA
open PySem PySem.Spec PyProof.Rows L2
theorem enum_made {v : Value} {o : Obj} {H : Heap → Prop} (B : Begins v o H) :
    Meets (Builtin.«enumerate.__new__» ⟨[.type "enumerate", v], []⟩) (fun _ R z => H z.heap ∧
      R (.ok (.ret (.ref (z.heap.push o).objs.size))) { z with heap := (z.heap.push o).push { cls := .type "enumerate", data := .fields #[.none, .bool false, .ref z.heap.objs.size, rawInt 0, .none, .none] } }) := by
  refine .of_wp fun prog w A R z hz => ?_
  obtain ⟨hp, gs, dr, tk, os⟩ := z
  obtain ⟨ready, done⟩ := hz
  have sub := sub_enumerate
  have draw : ∀ {A' : Around} {E Q : Value → Shared → Prop}, Q (.ref hp.objs.size) ⟨hp.push o, gs, dr, tk, os⟩ → wpAny (model prog w) A' (pyIter v) Q E ⟨hp, gs, dr, tk, os⟩ := fun q => B.iter prog w _ _ ⟨hp, gs, dr, tk, os⟩ _ ready q
  wp_walk using draw
  refine wpAny_stack_any fun _ => wpAny_pure ?_
  split
  case' h_1 c _ _ _ _ _ => cases (c == Value.type "enumerate")
  all_goals (wp_walk using draw; exact ⟨_, rfl, done⟩)
theorem call_enum {prog : Program} {w : World} {A : Around} {E Q : Value → Shared → Prop} {z : Shared} {v : Value} {o : Obj} {H : Heap → Prop} (B : Begins v o H) (ready : H z.heap)
    (k : ∀ g, IsEnum g (z.heap.objs.size + 1) z.heap.objs.size 0 .none → g.get? z.heap.objs.size = some o → (∀ b u, z.heap.get? b = some u → g.get? b = some u) → Q (.ref (z.heap.objs.size + 1)) { z with heap := g }) :
    wpAny (model prog w) A (call (.type "enumerate") [v]) Q E z := by
  have size : (z.heap.push o).objs.size = z.heap.objs.size + 1 := Heap.size_push ..
  refine callType_new F.called_enumerate (by decide) (F.typeCall_enumerate_1 _) (F.newCall_enumerate_1 _) (fun x => F.args_object_init_2 x _) F.entry_enumerate_new (enum_made B) ⟨ready, ?_⟩
  show _ ∧ _
  rw [size]
  have here : IsEnum ((z.heap.push o).push { cls := .type "enumerate", data := .fields #[.none, .bool false, .ref z.heap.objs.size, rawInt 0, .none, .none] }) (z.heap.objs.size + 1) z.heap.objs.size 0 .none :=
    size ▸ Heap.get?_push_size (z.heap.push o) rfl
  exact ⟨⟨_, here, rfl⟩, k _ here (Heap.get?_push_of_some _ (Heap.get?_push_size _ B.free)) fun b u e => Heap.get?_push_of_some _ (Heap.get?_push_of_some _ e)⟩

/-- what the loop gets: at turn i a new pair of i and the tuple's i-th item -/
def IteT (K : PySem.W.Frag) (a : Addr) : It where
  go i H := ∃ (xs : List V) (x : V), SqT K H a xs ∧ xs[i]? = some x
  yld i H v H' := ∃ T x, v = .ref T ∧ H T = none ∧ H' = upd H T (.tup [.int (i : Nat), x]) ∧ ∀ xs, SqT K H a xs → xs[i]? = some x
  stop i H := ∃ xs : List V, SqT K H a xs ∧ xs.length ≤ i
/-- the enumerate object at e over the tuple's iterator at it, ahead of turn i -/
def AtTurn (a e it : Addr) (i : Nat) (h : Heap) : Prop := (∃ old, IsEnum h e it ((i : Nat) : Int) old) ∧ h.IsTupleIter it a i ∧ e ≠ it
section
variable {X : Cx} {pins : List (Addr × Obj)} {σ : L2.St} {H : Hp} {s : Shared} {a e it : Addr} {i : Nat} {E : Value → Shared → Prop} {elts : List Expr} {kk : Nat} {tpos : Pos}
theorem enumT_item (calm : X.calm = true) (ea : e ≠ a) (ia : it ≠ a) (I : Inv X pins σ H s) (own : ∀ b ∈ [e, it], FpOk X pins H b) (st : AtTurn a e it i s.heap) (g : (IteT X.K a).go i H) :
    wpAny (model X.prog X.w) X.A (pyNext (.ref e)) (fun r s1 => ∃ u, r = some u ∧
      wpAny (model X.prog X.w) X.A (letOwnedTupleGo (.Tuple elts kk tpos) (.ref e) u) (fun _ s2 => ∃ x H', Inv X pins σ H' s2 ∧ RelV x u ∧ (IteT X.K a).yld i H x H' ∧ AtTurn a e it (i + 1) s2.heap ∧ ∀ b ∈ [e, it], H' b = none) E s1) E s := by
  obtain ⟨⟨old, isE⟩, isI, ne⟩ := st
  obtain ⟨xs, x, hxs, hx⟩ := g
  obtain ⟨its, vals, tup, _⟩ := I.tuple hxs
  obtain ⟨u, hu, rel⟩ := vals.get hx
  have small : i < its.toArray.size := by simpa using (List.getElem?_eq_some_iff.mp hu).1
  have lte := Heap.lt_size isE
  have lti : it < s.heap.objs.size := let ⟨_, q, _⟩ := isI; Heap.lt_size q
  have outside : e ∉ [it, a] := by simp [ne, ea]
  refine wpAny_pyNext_enum_itemD (Draws.tuple (A := X.A.in1) (I.ok.hd calm) it a (Ne.symm ia) its.toArray) isE ⟨isI, tup⟩ small ne outside fun w' g tk got out next pair _ old' => ?_
  obtain rfl : u = w' := by
    have q : its[i]? = some w' := by simpa using got
    exact Option.some.inj (hu.symm.trans q)
  refine ⟨_, rfl, wpAny_letOwnedTupleGo_enum (s := { s with heap := g, toks := tk + 1 }) out fun g2 isE2 only => ?_⟩
  have pair2 := (only.2 _ (Nat.ne_of_gt lte)).trans pair
  have told : ObjOk X.prog X.w (upd H s.heap.objs.size (.tup [.int (i : Nat), x])) g2 s.heap.objs.size (.tup [.int (i : Nat), x]) :=
    ⟨(by decide : 2 ≤ sizeLine), [.int i tk, u], .cons ⟨_, rfl⟩ (.cons rel .nil), _, pair2, rfl, _, rfl⟩
  have J := I.turnedNew (ch := [e, it]) (h' := g2) (t' := tk + 1) (fun b o hb q => by
    simp only [List.mem_cons, List.not_mem_nil, or_false, not_or] at hb
    exact (only.2 b hb.1).trans (old' b o hb.1 hb.2 q)) own (Nat.le_refl _) told
  have fresh := I.hok.fresh (Nat.le_refl s.heap.objs.size)
  refine ⟨.ref s.heap.objs.size, _, J, rfl, ⟨_, x, rfl, fresh, rfl, fun ys hy => I.tuple_inj hxs hy ▸ hx⟩, ⟨⟨u, ?_⟩, next.1.at fun o q => (only.2 it (Ne.symm ne)).trans q, ne⟩, ?_⟩
  · rw [Int.natCast_succ]
    exact isE2
  · simp only [List.mem_cons, List.not_mem_nil, or_false]
    rintro b (rfl | rfl)
    · exact (upd_ne (Nat.ne_of_lt lte)).trans (own _ (by simp)).1
    · exact (upd_ne (Nat.ne_of_lt lti)).trans (own _ (by simp)).1
theorem enumT_end (calm : X.calm = true) (I : Inv X pins σ H s) (own : ∀ b ∈ [e, it], FpOk X pins H b) (st : AtTurn a e it i s.heap) (g : (IteT X.K a).stop i H) :
    wpAny (model X.prog X.w) X.A (pyNext (.ref e)) (fun r s1 => r = none ∧ Inv X pins σ H s1) E s := by
  obtain ⟨⟨_, isE⟩, isI, _⟩ := st
  obtain ⟨xs, hxs, past⟩ := g
  obtain ⟨its, vals, tup, _⟩ := I.tuple hxs
  have far : its.toArray.size ≤ i := by rw [List.size_toArray, ← vals.length]; exact past
  have typ : s.TypeIs (.ref e) "enumerate" := ⟨_, isE, rfl⟩
  obtain ⟨f0, f1, f2, f3, f4, f5⟩ := own it (by simp)
  unfold pyNext
  refine wpAny_bind (wpAny_attempt (wpAny_callSpecial?_slot (name := Str.ofString "__next__") typ F.slot_enumerate_next (wpAny_call_entry F.slot_enumerate_next typ F.entry_enumerate_next ?_ (F.args_enumerate_next_1 _))))
  refine wpAny_bind (m := field (.ref e) 2) (wpAny_field isE rfl (x := .ref it) rfl (wpAny_bind (wpAny_nextOf_tuple_end (I.ok.hd calm) isI tup (Array.getElem?_eq_none far) fun g x kept ⟨o, ho, cls⟩ => ?_)))
  exact wpAny_bind (wpAny_isInstance (T := "StopIteration") (b := true) ⟨o, ho, cls⟩ isSubtype_stop (wpAny_pure ⟨rfl, I.turned (t' := s.toks) (fun b o n q => kept b o n q) f0 f1 f3 f4 f5⟩))
end
theorem turn_enumT {P : Program} {w : World} {K : PySem.W.Frag} {elts : List Expr} {kk : Nat} {tpos : Pos} (a e it : Addr) (ea : e ≠ a) (ia : it ≠ a) : Turn P w K (.Tuple elts kk tpos) (IteT K a) [e, it] e (AtTurn a e it) where
  mem := List.mem_cons_self ..
  obj i h st := by
    obtain ⟨⟨_, isE⟩, ⟨o, ho, _, hd⟩, _⟩ := st
    simp only [List.mem_cons, List.not_mem_nil, or_false]
    rintro b (rfl | rfl)
    · exact ⟨_, isE, fun _ q => nomatch q⟩
    · exact ⟨o, ho, fun _ q => by cases hd.symm.trans q⟩
  keep i h h' st k := ⟨st.1.imp fun _ q => k e (by simp) _ q, st.2.1.at fun o q => k it (by simp) o q, st.2.2⟩
  item X e1 e2 e3 calm i pins s σ H E I own st g := by
    subst e1 e2 e3
    exact enumT_item calm ea ia I own st g
  done X e1 e2 e3 calm i pins s σ H E I own st g := by
    subst e1 e2 e3
    exact enumT_end calm I own st g
  self A i s Q E st q := let ⟨⟨_, isE⟩, _⟩ := st; wpAny_pyIter_enum isE q
def iEnumT (K : PySem.W.Frag) (ta : TA) : TI := fun σ H R => ta σ H fun vs H1 => ∃ a xs, vs = [.ref a] ∧ SqT K H1 a xs ∧ R (IteT K a) H1
theorem pi_enumT {X : Cx} {e : Expr} {ta : TA} {p pos tpos : Pos} {elts : List Expr} {kk : Nat} (hg : Gl X "enumerate") (hm : X.mg "enumerate" = none) (ha : PA X [e] ta) (one : starEach [e] X.env = [(false, eval e X.env)] := by rfl) :
    PI X (.Tuple elts kk tpos) (.Call (.Name "enumerate" p) [e] [] pos) (iEnumT X.K ta) := by
  constructor
  intro pins s σ H R I h
  refine Call_ (ld_blt I hg hm boot_enumerate (PyProof.Rows.callWith_type1 (thn (ha.run pos pins s σ H _ I h) fun us s1 ⟨vs, H1, J, rel, a, xs, ev, hxs, go⟩ => ?_) one rfl))
  subst ev
  obtain ⟨its, vals, tup, _⟩ := J.tuple hxs
  have lta := tup.lt
  rw [Vals.ref1 rel]
  refine call_enum (begins_tuple a its.toArray) tup fun g isE isI keep => wpAny_pyIter_enum isE ?_
  refine ⟨s1.heap.objs.size + 1, [s1.heap.objs.size + 1, s1.heap.objs.size], _, _, H1, rfl, J.kept (t' := s1.toks) keep, turn_enumT a _ _ (Nat.ne_of_gt (Nat.lt_succ_of_lt lta)) (Nat.ne_of_gt lta), ⟨⟨.none, isE⟩, ⟨_, isI, rfl, rfl⟩, Nat.succ_ne_self _⟩, ?_, go⟩
  simp only [List.mem_cons, List.not_mem_nil, or_false]
  rintro b (rfl | rfl)
  · exact J.fpOk (Nat.le_succ _) (J.hok.fresh (Nat.le_succ _))
  · exact J.fpOk (Nat.le_refl _) (J.hok.fresh (Nat.le_refl _))
theorem walk_enumT {K : PySem.W.Frag} {a : Addr} {xs : List V} : Walk (IteT K a) xs.length (fun H => SqT K H a xs) (YPair (fun i => some (.int (i : Nat))) (fun i => xs[i]?)) where
  goes i H hi h := ⟨xs, xs[i], h, List.getElem?_eq_getElem hi⟩
  stops H h := ⟨xs, h, Nat.le_refl _⟩
  yields i H v H' hi h y := let ⟨T, x, e, n, e2, f⟩ := y; ⟨T, _, x, e, n, e2, rfl, f xs h⟩
end GA
namespace GA
open PySem PySem.Spec PyProof.Rows L2 GxR

/-! ### sizes of sets -/
theorem len_le_sub : ∀ {ks ns : List Int}, ks.Nodup → (∀ k ∈ ks, k ∈ ns) → ks.length ≤ ns.length
  | [], _, _, _ => Nat.zero_le _
  | k :: ks, ns, hn, hs => by
    have h1 : k ∈ ns := hs k (List.mem_cons_self ..)
    have hn' := List.nodup_cons.mp hn
    have h2 : ks.length ≤ (ns.erase k).length := len_le_sub hn'.2 fun j hj => by
      have hne : j ≠ k := fun e => hn'.1 (e ▸ hj)
      exact (List.mem_erase_of_ne hne).mpr (hs j (List.mem_cons_of_mem _ hj))
    rw [List.length_erase_of_mem h1] at h2
    have h3 : 0 < ns.length := List.length_pos_of_mem h1
    show ks.length + 1 ≤ ns.length
    omega
theorem len_nodup {ks ns : List Int} (hk : ks.Nodup) (h : ∀ k, k ∈ ks ↔ k ∈ ns) (hn : ns.Nodup) : ks.length = ns.length :=
  Nat.le_antisymm (len_le_sub hk fun k z => (h k).mp z) (len_le_sub hn fun k z => (h k).mpr z)
theorem nodup_of_len {ks ns : List Int} (hk : ks.Nodup) (h : ∀ k, k ∈ ks ↔ k ∈ ns) (he : ks.length = ns.length) : ns.Nodup := by
  apply Classical.byContradiction
  intro hn
  obtain ⟨ms, hl, hm⟩ : ∃ ms : List Int, ms.length < ns.length ∧ ∀ k ∈ ns, k ∈ ms := by
    clear hk h he
    induction ns with
    | nil => exact absurd List.nodup_nil hn
    | cons x r ih =>
      by_cases hx : x ∈ r
      · exact ⟨r, Nat.lt_succ_self _, fun k hk => by
          rcases List.mem_cons.mp hk with z | z
          · rw [z]; exact hx
          · exact z⟩
      · obtain ⟨ms, hl, hm⟩ := ih fun z => hn (List.nodup_cons.mpr ⟨hx, z⟩)
        exact ⟨x :: ms, Nat.succ_lt_succ hl, fun k hk => by
          rcases List.mem_cons.mp hk with z | z
          · rw [z]; exact List.mem_cons_self ..
          · exact List.mem_cons_of_mem _ (hm k z)⟩
  have := len_le_sub hk fun k z => hm k ((h k).mp z)
  omega
/-- len(set(t)), t a tuple of ints -/
def tLenSetT (K : PySem.W.Frag) (ta : TE) : TE := fun σ H Q => ta σ H fun x H1 => ∃ (l : Addr) (ns : List Int), x = .ref l ∧ SqT K H1 l (ns.map V.int) ∧ ns.length ≤ 4000 ∧ ∀ ks : List Int, ks.Nodup → (∀ k, k ∈ ks ↔ k ∈ ns) → Q (.int (ks.length : Nat)) H1
theorem pe_lenSetT {X : Cx} {a : Expr} {ta : TE} {p p2 q pos : Pos} (hg : Gl X "len") (hm : X.mg "len" = none) (hg2 : Gl X "set") (hm2 : X.mg "set" = none) (ha : PE X a ta) (hc : X.calm = true := by rfl)
    (na : starEach [a] X.env = (false, eval a X.env) :: starEach [] X.env := by rfl) : PE X (.Call (.Name "len" p) [.Call (.Name "set" p2) [a] [] q] [] pos) (tLenSetT X.K ta) := by
  refine ⟨fun pins s σ H Q I h => ?_⟩
  refine Call_ (ld_blt I hg hm boot_len ?_)
  refine PyProof.Rows.callWith_builtin1 (PyProof.Rows.args_cons ?_ rfl) rfl rfl
  refine Call_ (ld_blt I hg2 hm2 boot_set ?_)
  refine PyProof.Rows.callWith_type1 (PyProof.Rows.args_cons (thn (ha.run pins s σ H _ I h) fun v s1 ⟨x, H1, I1, r1, q1⟩ => PyProof.Rows.args_nil ?_) na) na rfl
  obtain ⟨l, ns, rfl, hq, hl, q1⟩ := q1
  cases r1
  obtain ⟨its, r, pl, hz⟩ := I1.tuple hq
  refine call_set_tupI ns (I1.ok.hd hc) (show s1.heap.IsTuple l its.toArray from pl) (by simpa using RZ.intsAre_vals r) (by unfold scanBound; omega) fun h' tk c hS hle hk => ?_
  refine PyProof.Rows.args_nil ?_
  obtain ⟨o, es, ep, t, ho, hex, hd, _, hnd, hmem, _, hf, hn, _⟩ := hS
  have I2 : Inv X pins σ H1 { s1 with heap := h', toks := tk } := I1.kept fun b o e => hk b o e
  have q2 := q1 (es.toList.map keyOf) hnd (fun k => by rw [← hmem k, decide_eq_true_iff])
  rw [List.length_map, Array.length_toList] at q2
  exact call_len_set ho hex hd hf (by rw [hn] <;> omega) ⟨.int es.size, H1, I2.tok _, ⟨_, rfl⟩, q2⟩

/-! ### facts by names -/
def fdK (K : PySem.W.Frag) (x : Str) : FuncData := match K.lookup (He.ga K x) with
  | some ⟨_, _, .func fd, _⟩ => fd
  | _ => PySem.W.fnOf "" "" { posonlyargs := [], args := [], vararg := none, kwonlyargs := [], kw_defaults := [], kwarg := none, defaults := [] } [] { kind := .function, names := [], isGenerator := false, isCoroutine := false } .none .none .none .none none .none .none
theorem fun_of {K : PySem.W.Frag} {x q : Str} {st : Stmt} (h : ∃ fd, FunD K x q (defArgs st) (defBody st) (defScope st) [] [] (He.ga K x) fd) : Fun K x q st (He.ga K x) (fdK K x) := by
  obtain ⟨fd, F⟩ := h
  obtain ⟨oc, od, dV, kV, doc, pm, an, cdv, ct, osl, e, lk, hcd, hD, hK⟩ := F.ex
  have ed : dV = .none := by
    rcases hD with ⟨_, z⟩ | ⟨z, _⟩
    · exact z
    · exact absurd rfl z
  subst ed
  have ef : fdK K x = fd := by
    unfold fdK
    rw [lk]
  rw [ef]
  exact ⟨⟨oc, od, kV, doc, pm, an, cdv, ct, osl, e, lk, hcd⟩, F.kp⟩
/-- THE RULE for a def whose code object is asked for -/
theorem okC {P : Program} {w : World} {K : PySem.W.Frag} {mg : Str → Option Value} {base : Heap} {x qual : Str} {st : Stmt} {fd : FuncData} {N ps : List Str} {k : Nat} {sp : Sp} (F : Fun K x qual st (He.ga K x) fd) (S : FnScope N ps (defScope st)) (len : ∀ vs H Q E, sp vs H Q E → vs.length = ps.length)
    (hbody : ∀ (cdv : Value) (A : Around) (outer : List Env) (s : Shared) (H : Hp) (vs : List V) (Q : VK) (E : XK), cdv = .ref (He.cT K (x, none)).1 → Room k (A.deeper (envOfC qual (defScope st) s.heap.objs.size (He.ga K x) cdv)) → sp vs H Q E →
      ∃ t, PSs (cxOf CX0 P w K mg base N qual (defScope st) (He.ga K x) cdv A outer s H E).nox (defBody st) t ∧ t { nx := fun _ H' => Q .non H', rt := Q } (start N vs) H) : FnOk P w K mg base CX0 (k + 1) (He.ga K x) fd ps sp := by
  obtain ⟨oc, od, kV, doc, pm, an, cdv, ct, osl, rfl, lk, hcd⟩ := F.ex
  obtain ⟨c, rfl⟩ := He.codeIn_ref hcd
  have ec : He.codeOf K (x, none) = c := He.codeOf_eq (p := (x, none)) lk rfl
  refine fn_of lk hcd S len fun A outer s H vs Q E hr hsp => ?_
  obtain ⟨t, h, q⟩ := hbody (.ref c) A outer s H vs Q E (by show _ = Value.ref (He.codeOf K (x, none)); rw [ec]) hr hsp
  exact ⟨t, h.nox, q⟩
theorem gi_ok {mg : Str → Option Value} {x : Str} {i : Int} (h : ∃ t, mg x = some (.int i t)) : ∃ u, mg x = some u ∧ RelV (.int i) u := let ⟨t, e⟩ := h; ⟨_, e, t, rfl⟩
theorem gs_ok {mg : Str → Option Value} {x z : Str} (h : ∃ t, mg x = some (.str z t)) : ∃ u, mg x = some u ∧ RelV (.str z) u := let ⟨t, e⟩ := h; ⟨_, e, t, rfl⟩
theorem deepOf {k : Nat} {A : Around} (hr : Room k A) : A.units + 64 < cLine := by have := hr.un; omega
theorem hu0 {k : Nat} {A : Around} (hr : Room k A) : A.units < cLine := by have := hr.un; omega

theorem genS_by {env : Env} {scope : Scope} {x : Str} (h1 : scope.kind = .function) (h2 : scope.isCoroutine = false) (h3 : ∀ y ∈ scope.names, y.2 ≠ .cell) (h4 : scope.names.lookup (".0" : Str) = some NameKind.local) (h5 : scope.names.lookup x = some .local)
    (h : (scope.names.all fun y => match y.2 with | .free => (env.cells.lookup y.1).isSome | _ => true) = true) : GenS env scope x := by
  refine ⟨h1, h2, h3, h4, h5, fun y hy e => ?_⟩
  have q := List.all_eq_true.mp h y hy
  rw [e] at q
  exact Option.isSome_iff_exists.mp q
theorem base_ne {X : Cx} {pins : List (Addr × Obj)} {σ : L2.St} {H : Hp} {s : Shared} {P : Addr} (I : Inv X pins σ H s) (t : TabG H P) : ∀ b o, X.base.get? b = some o → b ≠ P := fun b o e z => by
  obtain ⟨ps, h, _⟩ := t
  have q := (I.bs b o e).2
  rw [z, h] at q
  cases q
/-! ### rules with the written part told (within a comprehension it must not hang on the block) -/
section
variable {X : Cx} {K : PySem.W.Frag}
theorem ixT (h : X.K = K) : IxR X (rIxT K) := by subst h; exact ix_tup
theorem ixL (h : X.K = K) : IxR X (rIxL K) := by subst h; exact ix_list
theorem lenS (h : X.K = K) : CallR X (.builtin "len") (fun xs H Q => ∃ p ys, xs = [.ref p] ∧ (SqL K H p ys ∨ SqT K H p ys) ∧ Q (.int ys.length) H) := by subst h; exact call_len_seq
theorem inS (h : X.K = K) : OpR X (compareOp .In) (rIn K false) := by subst h; exact op_in_seq
theorem ninS (h : X.K = K) : OpR X (compareOp .NotIn) (rIn K true) := by subst h; exact op_notIn_seq
theorem eqD (h : X.K = K) {k : Nat} (hr : Room k X.A) : OpR X (compareOp .Eq) (rEqD K) := by subst h; exact op_eqD (deepOf hr)
theorem neD (h : X.K = K) {k : Nat} (hr : Room k X.A) : OpR X (compareOp .NotEq) (rNeD K) := by subst h; exact op_neD (deepOf hr)
theorem catA (h : X.K = K) : OpR X (binaryOp .Add) (rCatA K) := by subst h; exact op_catA
theorem isiK (h : X.K = K) : CallR X (.builtin "isinstance") (rIsi K) := by subst h; exact call_isi
theorem isiTK (h : X.K = K) : CallR X (.builtin "isinstance") (rIsiT K) := by subst h; exact call_isiT
theorem lstOf (h : X.K = K) : CallR X (.type "list") (fun xs H Q => ∃ p ys, xs = [.ref p] ∧ (SqL K H p ys ∨ SqT K H p ys) ∧ ∀ l, H l = none → Q (.ref l) (upd H l (.lst ys))) := by subst h; exact call_list_of
theorem slL (h : X.K = K) : SlR X (rSlL K) := by subst h; exact sl_list
theorem slA (h : X.K = K) : SlR X (rSlA K) := by subst h; exact sl_tupA
theorem pe_tupK {a : Expr} {ta : TE} {p pos : Pos} (h : X.K = K) (hg : Gl X "tuple") (hm : X.mg "tuple" = none) (ha : PE X a ta) (na : starEach [a] X.env = (false, eval a X.env) :: starEach [] X.env := by rfl) : PE X (.Call (.Name "tuple" p) [a] [] pos) (tThen ta (kTup K)) := by subst h; exact pe_tupleOf hg hm ha na
theorem piT {tg l : Expr} {tl : TE} (h : X.K = K) (hl : PE X l tl) : PI X tg l (iTup K tl) := by subst h; exact pi_tup hl
theorem piL {tg l : Expr} {tl : TE} (h : X.K = K) (hl : PE X l tl) : PI X tg l (iList K tl) := by subst h; exact pi_list hl
end
theorem yesI {σ : L2.St} {H : Hp} {A B : Hp → Prop} (h : A H) : tYes σ H (fun b H3 => if b = true then A H3 else B H3) := by
  show if true = true then A H else B H
  exact iteT h
/-! ### heaps -/
/-- a list that is a row of draws: [the script, int, int, int] -/
def RowO (o : HO) : Prop := ∃ (s : Addr) (i j k : Int), o = .lst [.ref s, .int i, .int j, .int k]
/-- what nobody changes behind its maker's back -/
def Stable : HO → Prop
  | .tbl _ => False
  | .lst xs => ¬ RowO (.lst xs)
  | _ => True
def RowAt (H : Hp) (r s : Addr) : Prop := ∃ i j k : Int, H r = some (.lst [.ref s, .int i, .int j, .int k]) ∧ 0 ≤ i ∧ 0 ≤ j ∧ j < 2147483648 ∧ 0 ≤ k
structure Ex (H H' : Hp) : Prop where
  st : ∀ a o, H a = some o → Stable o → H' a = some o
  tab : ∀ P, TabG H P → TabG H' P
  row : ∀ r s, RowAt H r s → RowAt H' r s
  no : ∀ a, H' a = none → H a = none
theorem Ex.refl (H : Hp) : Ex H H := ⟨fun _ _ h _ => h, fun _ h => h, fun _ _ h => h, fun _ h => h⟩
theorem Ex.trans {H H1 H2 : Hp} (a : Ex H H1) (b : Ex H1 H2) : Ex H H2 := ⟨fun x o h s => b.st x o (a.st x o h s) s, fun P h => b.tab P (a.tab P h), fun r s h => b.row r s (a.row r s h), fun x h => a.no x (b.no x h)⟩
theorem Ex.new {H : Hp} {p : Addr} {o : HO} (h : H p = none) : Ex H (upd H p o) := by
  refine ⟨fun a u e _ => ?_, fun P t => ?_, fun r s t => ?_, fun a e => ?_⟩
  · rw [upd_ne (ne_of_none e h)]; exact e
  · obtain ⟨ps, e, t⟩ := t
    exact ⟨ps, by rw [upd_ne (ne_of_none e h)]; exact e, t⟩
  · obtain ⟨i, j, k, e, t⟩ := t
    exact ⟨i, j, k, by rw [upd_ne (ne_of_none e h)]; exact e, t⟩
  · by_cases z : a = p
    · rw [z]; exact h
    · rw [upd_ne z] at e; exact e
/-- an object that is new behind H changes -/
theorem Ex.own {H H1 : Hp} {p : Addr} {o : HO} (x : Ex H H1) (h : H p = none) : Ex H (upd H1 p o) := by
  refine ⟨fun a u e s => ?_, fun P t => ?_, fun r s t => ?_, fun a e => ?_⟩
  · rw [upd_ne (ne_of_none e h)]; exact x.st a u e s
  · obtain ⟨ps, e, _⟩ := id t
    obtain ⟨ps', e', t'⟩ := x.tab P t
    exact ⟨ps', by rw [upd_ne (ne_of_none e h)]; exact e', t'⟩
  · obtain ⟨_, _, _, e, _⟩ := id t
    obtain ⟨i, j, k, e', t'⟩ := x.row r s t
    exact ⟨i, j, k, by rw [upd_ne (ne_of_none e h)]; exact e', t'⟩
  · by_cases z : a = p
    · rw [z]; exact h
    · rw [upd_ne z] at e; exact x.no a e
/-- a table has grown -/
theorem Ex.tabbed {H H' : Hp} {P : Addr} (hP : TabG H P) (t : Tabbed P H H') : Ex H H' := by
  obtain ⟨ps, e0, _⟩ := hP
  have nP : ∀ a o, H a = some o → (∀ q, o ≠ .tbl q) → a ≠ P := fun a o e n z => by
    rw [z, e0] at e
    exact n ps (Option.some.inj e).symm
  refine ⟨fun a o e s => ?_, fun Q q => ?_, fun r s q => ?_, fun a e => ?_⟩
  · rw [t.2 a (nP a o e fun q z => by rw [z] at s; exact s)]; exact e
  · by_cases z : Q = P
    · rw [z]; exact t.1
    · obtain ⟨ps', e', t'⟩ := q
      exact ⟨ps', by rw [t.2 Q z]; exact e', t'⟩
  · obtain ⟨i, j, k, e, q⟩ := q
    exact ⟨i, j, k, by rw [t.2 r (nP r _ e fun q z => by cases z)]; exact e, q⟩
  · by_cases z : a = P
    · obtain ⟨ps', e', _⟩ := t.1
      rw [z, e'] at e
      cases e
    · rw [t.2 a z] at e; exact e
/-- the row is drawn from -/
theorem Ex.draw {H : Hp} {r s : Addr} {i j k : Int} (h : RowAt H r s) (hi : 0 ≤ i) (hj : 0 ≤ j) (hj2 : j < 2147483648) (hk : 0 ≤ k) : Ex H (upd H r (.lst [.ref s, .int i, .int j, .int k])) := by
  obtain ⟨i0, j0, k0, e0, _⟩ := h
  refine ⟨fun a u e st => ?_, fun P t => ?_, fun r' s' t => ?_, fun a e => ?_⟩
  · have z : a ≠ r := fun z => by
      rw [z, e0] at e
      cases e
      exact st ⟨s, i0, j0, k0, rfl⟩
    rw [upd_ne z]; exact e
  · obtain ⟨ps, e, t⟩ := t
    have z : P ≠ r := fun z => by
      rw [z, e0] at e
      cases e
    exact ⟨ps, by rw [upd_ne z]; exact e, t⟩
  · obtain ⟨i1, j1, k1, e, t⟩ := t
    by_cases z : r' = r
    · rw [z, e0] at e
      cases e
      exact ⟨i, j, k, by rw [z]; exact upd_same, hi, hj, hj2, hk⟩
    · exact ⟨i1, j1, k1, by rw [upd_ne z]; exact e, t⟩
  · by_cases z : a = r
    · rw [z, upd_same] at e; cases e
    · rw [upd_ne z] at e; exact e
section
variable {K : PySem.W.Frag} {H H' : Hp} {a p : Addr} {xs ys : List V} {o : HO}
theorem Ex.t (e : Ex H H') (h : SqT K H a xs) : SqT K H' a xs := by
  rcases h with (h | ⟨o, h⟩) | h
  · exact .inl (.inl (e.st _ _ h trivial))
  · exact .inl (.inr ⟨o, e.st _ _ h trivial⟩)
  · exact .inr h
theorem Ex.l (e : Ex H H') (n : ¬ RowO (.lst xs)) (h : SqL K H a xs) : SqL K H' a xs := by
  rcases h with (h | ⟨o, h⟩) | h
  · exact .inl (.inl (e.st _ _ h n))
  · exact .inl (.inr ⟨o, e.st _ _ h trivial⟩)
  · exact .inr h
theorem ints_norow {ns : List Int} : ¬ RowO (.lst (ns.map V.int)) := fun ⟨s, i, j, k, e⟩ => by
  have e1 : ns.map V.int = [.ref s, .int i, .int j, .int k] := HO.lst.inj e
  cases ns with
  | nil => cases e1
  | cons x r => cases (List.cons.inj e1).1
theorem nil_norow : ¬ RowO (.lst []) := fun ⟨s, i, j, k, e⟩ => by cases e
theorem Ex.i {ns : List Int} (e : Ex H H') (h : H a = some (.lst (ns.map V.int))) : H' a = some (.lst (ns.map V.int)) := e.st _ _ h ints_norow
theorem sq_new : SqT K (upd H p (.tup xs)) p xs := .inl (.inl upd_same)
theorem sl_new : SqL K (upd H p (.lst xs)) p xs := .inl (.inl upd_same)
theorem sl_at (h : H p = some (.lst xs)) : SqL K H p xs := .inl (.inl h)
end
end GA
namespace GA
open PySem PySem.Spec PyProof.Rows L2 GxR
open Srt in
theorem sorted_ordT {prog : Program} {w : World} {A : Around} {E : Value → Shared → Prop} {s : Shared} {t : Addr} {vs : List Value} {ltv : Value → Value → Bool} {Q : Value → Shared → Prop} (O : SrtO.Swo ltv) (ht : s.heap.IsTuple t vs.toArray) (hz : vs.length ≤ sizeLine)
    (hS : 2 ≤ vs.length → ∀ (h₁ : Heap) (a : Addr), SrtO.SortableO prog w A.in1.in1 { s with heap := h₁ } a vs ltv)
    (h : ∀ (out : List Value) (h1 h' : Heap) (e : Nat), SrtO.Srtd ltv out → SrtO.Stb ltv out vs → (∀ b o, s.heap.get? b = some o → h1.get? b = some o) → h'.get? h1.objs.size = some (seqObj "list" out.toArray e) → (∀ b o, h1.get? b = some o → h'.get? b = some o) → Q (.ref h1.objs.size) { s with heap := h' }) :
    wpAny (model prog w) A (call (.builtin "sorted") [.ref t]) Q E s := by
  refine Calls.call_function_entry kind_sorted plain_sorted entry_sorted (args_sorted1 _) ?_
  unfold Builtin.«sorted»
  refine wpAny_bind (m := checkCount "sorted" 1 1 _) (wpAny_pure ?_)
  obtain ⟨o, ho, hc, n, hd⟩ := ht
  refine wpAny_bind (wpAny_collect_seq t (.inr rfl) ho hc hd (fun h1 hk => ?_) (by rw [List.size_toArray]; exact hz))
  have e0 : vs.toArray.toList = vs := by simp
  rw [e0]
  refine wpAny_bind (wpAny_newList ?_ hz)
  have hoL : (h1.push (seqObj "list" vs.toArray 0)).get? h1.objs.size = some (seqObj "list" vs.toArray 0) := Heap.get?_push_size _ rfl
  refine wpAny_bind (wpAny_holding (wpAny_call_entry slot_list_sort ⟨_, hoL, rfl⟩ entry_list_sort (SrtO.list_sort_ord O hoL hz (fun h2 => hS h2 _ _) fun out hs hb => ⟨_, rfl, ?_⟩) (args_list_sort _)))
  obtain ⟨e, he⟩ := sortedHeap_at (vs := vs) (out := out.toArray) hoL
  refine wpAny_pure ⟨_, rfl, h out h1 _ e hs hb hk he fun b u q => ?_⟩
  have hlt : b < h1.objs.size := Heap.lt_size q
  have hlt2 : b < (h1.push (seqObj "list" vs.toArray 0)).objs.size := by rw [Heap.size_push]; exact Nat.lt_succ_of_lt hlt
  rw [sortedHeap_old (Nat.ne_of_lt hlt) hlt2]
  exact Heap.get?_push_of_some _ q
/-- sorted(t), t a tuple of ints -/
def rSortedTI (K : PySem.W.Frag) : List V → Hp → VK → Prop := fun vs H Q => ∃ (a : Addr) (ns : List Int), vs = [V.ref a] ∧ SqT K H a (ns.map V.int) ∧ ∀ (ns' : List Int) (p : Addr), ns'.Perm ns → ns'.Pairwise (· ≤ ·) → H p = none → Q (.ref p) (upd H p (.lst (ns'.map V.int)))
theorem cr_sortedTI {X : Cx} : CallR X (.builtin "sorted") (rSortedTI X.K) := by
  intro pins s σ H vs us Q I r h
  obtain ⟨a, ns, rfl, hs, q⟩ := h
  obtain ⟨its, rv, hl, hz⟩ := I.tuple hs
  rw [Vals.ref1 r]
  have hi := rv.ints
  refine sorted_ordT SrtO.swo_int (show s.heap.IsTuple a its.toArray from hl) (by rw [← rv.length]; exact hz) (fun h2 h₁ a' => SrtO.ints_sortable hi h2) fun out h1 h' ep o1 o2 hk he hk' => ?_
  obtain ⟨k1, k2, k3⟩ := SrtO.ints_out hi o1 o2
  have hlen : ((out.map SrtO.iv).map V.int).length ≤ sizeLine := by
    rw [List.length_map, k2.length_eq]
    rw [List.length_map] at hz
    exact hz
  have I1 : Inv X pins σ H { s with heap := h1 } := I.kept (t' := s.toks) hk
  exact ⟨.ref _, upd H h1.objs.size (.lst ((out.map SrtO.iv).map V.int)), I1.laid (t' := s.toks) hk' (Nat.le_refl _) ⟨hlen, out, ep, vals_of_ints k1, he⟩, rfl, q _ _ k2 k3 (I1.hok.fresh (Nat.le_refl _))⟩
theorem srtT {X : Cx} {K : PySem.W.Frag} (h : X.K = K) : CallR X (.builtin "sorted") (rSortedTI K) := by subst h; exact cr_sortedTI
theorem srtL {X : Cx} {K : PySem.W.Frag} (h : X.K = K) : CallR X (.builtin "sorted") (rSortedI K) := by subst h; exact cr_sortedI
end GA
/-! promises and the mathematics behind them: checks of permutations, products, inverses, draws -/
namespace KL
open PySem PySem.Spec PyProof.Rows L2 GA GxR
section
variable {K : PySem.W.Frag}
def TyK (H : Hp) (v : V) : Prop := ∃ n, zTyV v H = some n
theorem zty_int (v : V) (H : Hp) : zTyV v H = some "int" → ∃ i, v = .int i := by
  intro h
  cases v with
  | int i => exact ⟨i, rfl⟩
  | ref p =>
    have h : (match H p with
      | some (.lst _) => some "list"
      | some (.tup _) => some "tuple"
      | _ => none) = some "int" := h
    split at h
    · exact absurd (Option.some.inj h) (by decide)
    · exact absurd (Option.some.inj h) (by decide)
    · cases h
  | ty y => exact absurd h (by simp [zTyV])
  | non => exact absurd (Option.some.inj h) (by decide)
  | bl => exact absurd (Option.some.inj h) (by decide)
  | str => exact absurd (Option.some.inj h) (by decide)
  | byt => exact absurd (Option.some.inj h) (by decide)
  | flt => exact absurd (Option.some.inj h) (by decide)
/-- the items, if it is a tuple -/
def tupO : Option HO → Option (List V)
  | some (.tup xs) => some xs
  | _ => none
def tupOf (H : Hp) : V → Option (List V)
  | .ref a => tupO (H a)
  | _ => none
theorem tupO_some {o : Option HO} {xs : List V} (h : tupO o = some xs) : o = some (.tup xs) := by
  unfold tupO at h
  split at h
  · rw [Option.some.inj h]
  · cases h
theorem tupOf_some {H : Hp} {v : V} {xs : List V} (h : tupOf H v = some xs) : ∃ a, v = .ref a ∧ H a = some (.tup xs) := by
  cases v with
  | ref a => exact ⟨a, rfl, tupO_some h⟩
  | _ => cases h
theorem tupOf_at {H : Hp} {a : Addr} {xs : List V} (h : H a = some (.tup xs)) : tupOf H (.ref a) = some xs := by
  show tupO (H a) = some xs
  rw [h]
  rfl
theorem zty_tup (v : V) (H : Hp) (xs : List V) (h : tupOf H v = some xs) : zTyV v H = some "tuple" := by
  obtain ⟨a, rfl, e⟩ := tupOf_some h
  simp only [zTyV, e]
theorem zty_not (v : V) (H : Hp) (n : String) (h : zTyV v H = some n) (hn : tupOf H v = none) : n ≠ "tuple" := by
  intro z
  subst z
  cases v with
  | ref p =>
    have h : (match H p with
      | some (.lst _) => some "list"
      | some (.tup _) => some "tuple"
      | _ => none) = some "tuple" := h
    split at h
    · exact absurd (Option.some.inj h) (by decide)
    · rename_i e
      rw [tupOf_at e] at hn
      cases hn
    · cases h
  | ty y => exact absurd h (by simp [zTyV])
  | non => exact absurd (Option.some.inj h) (by decide)
  | bl => exact absurd (Option.some.inj h) (by decide)
  | int => exact absurd (Option.some.inj h) (by decide)
  | str => exact absurd (Option.some.inj h) (by decide)
  | byt => exact absurd (Option.some.inj h) (by decide)
  | flt => exact absurd (Option.some.inj h) (by decide)
/-- a value that may be asked whether it is a permutation -/
structure GoodV (K : PySem.W.Frag) (H : Hp) (v : V) : Prop where
  ty : TyK H v
  it : ∀ xs, tupOf H v = some xs → xs.length ≤ 4000 ∧ ∀ x ∈ xs, PlainV K H x
def lenB (H : Hp) (n : Int) (v : V) : Bool := match tupOf H v with
  | some xs => decide ((xs.length : Int) = n)
  | none => false
def ptsB (H : Hp) (d : Int) (v : V) : Bool := match tupOf H v with
  | some xs => xs.all (btV 0 (d - 1))
  | none => false
def dstB (H : Hp) (d : Int) (v : V) : Bool := match tupOf H v with
  | some xs => xs.all (btV 0 (d - 1)) && decide xs.Nodup
  | none => false
def permB (H : Hp) (d : Int) (v : V) : Bool := lenB H d v && dstB H d v
def anyB (H : Hp) (v : V) : Bool := match tupOf H v with
  | some xs => btV 1 12 (.int xs.length) && permB H xs.length v
  | none => false
theorem all_ints {lo hi : Int} : ∀ {xs : List V}, xs.all (btV lo hi) = true → ∃ ns : List Int, xs = ns.map V.int ∧ ∀ n ∈ ns, lo ≤ n ∧ n ≤ hi
  | [], _ => ⟨[], rfl, fun _ h => by cases h⟩
  | x :: xs, h => by
    rw [List.all_cons, Bool.and_eq_true] at h
    obtain ⟨ns, rfl, hn⟩ := all_ints h.2
    cases x with
    | int i =>
      have h1 : (decide (lo ≤ i) && decide (i ≤ hi)) = true := h.1
      rw [Bool.and_eq_true, decide_eq_true_iff, decide_eq_true_iff] at h1
      refine ⟨i :: ns, rfl, fun n hm => ?_⟩
      rcases List.mem_cons.mp hm with z | z
      · rw [z]; exact h1
      · exact hn n z
    | _ => cases h.1
theorem nodup_map_int {ns : List Int} : (ns.map V.int).Nodup ↔ ns.Nodup := by
  constructor
  · intro h
    induction ns with
    | nil => exact List.nodup_nil
    | cons x r ih =>
      rw [List.map_cons, List.nodup_cons] at h
      exact List.nodup_cons.mpr ⟨fun z => h.1 (List.mem_map.mpr ⟨x, z, rfl⟩), ih h.2⟩
  · intro h
    induction ns with
    | nil => exact List.nodup_nil
    | cons x r ih =>
      rw [List.nodup_cons] at h
      rw [List.map_cons, List.nodup_cons]
      refine ⟨fun z => ?_, ih h.2⟩
      obtain ⟨y, hy, e⟩ := List.mem_map.mp z
      exact h.1 (V.int.inj e ▸ hy)
def PP (K : PySem.W.Frag) : Addr := (He.cT K ("are_points", none)).2
def spBetween : Sp := fun vs H Q _ => ∃ (v : V) (lo hi : Int), vs = [v, .int lo, .int hi] ∧ TyK H v ∧ Q (.bl (btV lo hi v)) H
def spDegree : Sp := fun vs H Q _ => ∃ v : V, vs = [v] ∧ TyK H v ∧ Q (.bl (btV 1 12 v)) H
def spTupleOf : Sp := fun vs H Q _ => ∃ (v : V) (n : Int), vs = [v, .int n] ∧ TyK H v ∧ Q (.bl (lenB H n v)) H
def spPoints (K : PySem.W.Frag) : Sp := fun vs H Q _ => ∃ (v : V) (d : Int), vs = [.int d, v] ∧ GoodV K H v ∧ TabG H (PP K) ∧ ∀ H', Ex H H' → Q (.bl (ptsB H d v)) H'
def spDistinct (K : PySem.W.Frag) : Sp := fun vs H Q _ => ∃ (v : V) (d : Int), vs = [.int d, v] ∧ GoodV K H v ∧ TabG H (PP K) ∧ ∀ H', Ex H H' → Q (.bl (dstB H d v)) H'
def spPerm (K : PySem.W.Frag) : Sp := fun vs H Q _ => ∃ (v : V) (d : Int), vs = [.int d, v] ∧ GoodV K H v ∧ TabG H (PP K) ∧ ∀ H', Ex H H' → Q (.bl (permB H d v)) H'
def spAny (K : PySem.W.Frag) : Sp := fun vs H Q _ => ∃ v : V, vs = [v] ∧ GoodV K H v ∧ TabG H (PP K) ∧ ∀ H', Ex H H' → Q (.bl (anyB H v)) H'
def spCkDegree : Sp := fun vs H Q _ => ∃ v : V, vs = [v] ∧ TyK H v ∧ btV 1 12 v = true ∧ Q .non H
def spCkAny (K : PySem.W.Frag) : Sp := fun vs H Q _ => ∃ v : V, vs = [v] ∧ GoodV K H v ∧ TabG H (PP K) ∧ anyB H v = true ∧ ∀ H', Ex H H' → Q .non H'
def spCkPerm (K : PySem.W.Frag) : Sp := fun vs H Q _ => ∃ (v : V) (d : Int), vs = [.int d, v] ∧ GoodV K H v ∧ TabG H (PP K) ∧ permB H d v = true ∧ ∀ H', Ex H H' → Q .non H'
/-- a permutation of the points below n -/
structure IsPm (n : Nat) (p : List Int) : Prop where
  len : p.length = n
  nd : p.Nodup
  bd : ∀ x ∈ p, 0 ≤ x ∧ x < n
/-- the tuple of a permutation's images at a -/
structure Pm (H : Hp) (a : Addr) (n : Nat) (p : List Int) : Prop where
  at_ : H a = some (.tup (p.map V.int))
  is : IsPm n p
theorem Pm.ex {H H' : Hp} {a : Addr} {n : Nat} {p : List Int} (x : Ex H H') (h : Pm H a n p) : Pm H' a n p := ⟨x.st _ _ h.at_ trivial, h.is⟩
theorem plain_int {K : PySem.W.Frag} {H : Hp} {p : List Int} : ∀ x ∈ p.map V.int, PlainV K H x := fun x hx => by
  obtain ⟨i, _, rfl⟩ := List.mem_map.mp hx
  trivial
theorem Pm.good {H : Hp} {a : Addr} {n : Nat} {p : List Int} (h : Pm H a n p) (hn : n ≤ 12) : GoodV K H (.ref a) := by
  have ht := tupOf_at h.at_
  refine ⟨⟨"tuple", zty_tup _ H _ ht⟩, fun xs hx => ?_⟩
  rw [ht] at hx
  cases hx
  refine ⟨?_, plain_int⟩
  rw [List.length_map, h.is.len]
  omega
theorem all_bt {lo hi : Int} {ns : List Int} (h : ∀ n ∈ ns, lo ≤ n ∧ n ≤ hi) : (ns.map V.int).all (btV lo hi) = true := by
  rw [List.all_eq_true]
  intro x hx
  obtain ⟨i, hi', rfl⟩ := List.mem_map.mp hx
  have := h i hi'
  show (decide (lo ≤ i) && decide (i ≤ hi)) = true
  rw [decide_eq_true this.1, decide_eq_true this.2]
  rfl
theorem Pm.permB {H : Hp} {a : Addr} {n : Nat} {p : List Int} (h : Pm H a n p) : permB H n (.ref a) = true := by
  have ht := tupOf_at h.at_
  unfold KL.permB lenB dstB
  rw [ht]
  show (decide (((p.map V.int).length : Int) = (n : Int)) && ((p.map V.int).all (btV 0 (n - 1)) && decide (p.map V.int).Nodup)) = true
  rw [List.length_map, h.is.len, decide_eq_true rfl, all_bt fun x hx => ⟨(h.is.bd x hx).1, by have := (h.is.bd x hx).2; omega⟩, decide_eq_true (nodup_map_int.mpr h.is.nd)]
  rfl
theorem Pm.anyB {H : Hp} {a : Addr} {n : Nat} {p : List Int} (h : Pm H a n p) (h1 : 1 ≤ n) (h12 : n ≤ 12) : anyB H (.ref a) = true := by
  have ht := tupOf_at h.at_
  unfold KL.anyB
  rw [ht]
  show (btV 1 12 (.int ((p.map V.int).length : Nat)) && KL.permB H ((p.map V.int).length : Nat) (.ref a)) = true
  rw [List.length_map, h.is.len, h.permB]
  show ((decide ((1 : Int) ≤ n) && decide ((n : Int) ≤ 12)) && true) = true
  rw [decide_eq_true (by omega), decide_eq_true (by omega)]
  rfl
def spCkTwo (K : PySem.W.Frag) : Sp := fun vs H Q _ => ∃ (a b : Addr) (n : Nat) (p q : List Int), vs = [.ref a, .ref b] ∧ Pm H a n p ∧ Pm H b n q ∧ 1 ≤ n ∧ n ≤ 12 ∧ TabG H (PP K) ∧ ∀ H', Ex H H' → Q .non H'
/-! ### permutations as lists of images -/
def mulL (p q : List Int) : List Int := p.map fun x => q.getD x.toNat 0
def invL (p : List Int) : List Int := (List.range p.length).map fun i => ((p.idxOf (Int.ofNat i) : Nat) : Int)
theorem IsPm.get {n : Nat} {p : List Int} (h : IsPm n p) {i : Nat} (hi : i < n) : ∃ x : Int, p[i]? = some x ∧ 0 ≤ x ∧ x < n := by
  have hl : i < p.length := by rw [h.len]; exact hi
  exact ⟨p[i], List.getElem?_eq_getElem hl, h.bd _ (List.getElem_mem hl)⟩
theorem getD_of {l : List Int} {i : Nat} {x d : Int} (h : l[i]? = some x) : l.getD i d = x := by rw [List.getD_eq_getElem?_getD, h]; rfl
theorem at_int {l : List Int} {x : Int} {v : Int} (h0 : 0 ≤ x) (h : l[x.toNat]? = some v) : atI (l.map V.int) x = some (.int v) := by
  have e : x = ((x.toNat : Nat) : Int) := by omega
  rw [e]
  exact atI_nat (by rw [List.getElem?_map, h]; rfl)
def spUnit : Sp := fun vs H Q _ => ∃ n : Nat, vs = [.int n] ∧ n ≤ 1000 ∧ ∀ a H', Ex H H' → H' a = some (.tup (((List.range n).map Int.ofNat).map V.int)) → Q (.ref a) H'
theorem rg_ints (n : Nat) : rgV 0 n = ((List.range n).map Int.ofNat).map V.int := by
  unfold rgV
  rw [List.map_map]
  have e : ((n : Int) - 0).toNat = n := by omega
  rw [e]
  refine List.map_congr_left fun i _ => ?_
  show V.int (0 + (i : Int)) = V.int (i : Int)
  rw [Int.zero_add]
def spMul : Sp := fun vs H Q _ => ∃ (a b : Addr) (n : Nat) (p q : List Int), vs = [.ref a, .ref b] ∧ Pm H a n p ∧ Pm H b n q ∧ n ≤ 1000 ∧ ∀ c H', Ex H H' → H' c = some (.tup ((mulL p q).map V.int)) → Q (.ref c) H'
theorem mul_take {p q : List Int} {i : Nat} {x : Int} (h : p[i]? = some x) : (mulL p q).take (i + 1) = (mulL p q).take i ++ [q.getD x.toNat 0] := by
  rw [List.take_add_one]
  unfold mulL
  rw [List.getElem?_map, h]
  rfl
/-! ### inverses: a list filled by places -/
/-- the places of p's first i items are filled: at p j stands f j -/
structure Filled (n : Nat) (p : List Int) (f : Nat → Int) (i : Nat) (L : List Int) : Prop where
  len : L.length = n
  at_ : ∀ j x, j < i → p[j]? = some x → L[x.toNat]? = some (f j)
theorem Filled.start {n : Nat} {p : List Int} {f : Nat → Int} : Filled n p f 0 (List.replicate n 0) := ⟨List.length_replicate .., fun j x h => absurd h (Nat.not_lt_zero _)⟩
theorem Filled.step {n : Nat} {p : List Int} {f : Nat → Int} {i : Nat} {L : List Int} {x : Int} (h : Filled n p f i L) (hp : IsPm n p) (hx : p[i]? = some x) : Filled n p f (i + 1) (L.set x.toNat (f i)) := by
  have hb := hp.bd x (List.mem_of_getElem? hx)
  refine ⟨by rw [List.length_set, h.len], fun j y hj hy => ?_⟩
  by_cases e : j = i
  · subst e
    rw [hx] at hy
    cases hy
    rw [List.getElem?_set_self (by rw [h.len]; omega)]
  · have hne : x.toNat ≠ y.toNat := fun z => by
      have hb2 := hp.bd y (List.mem_of_getElem? hy)
      have exy : x = y := by omega
      subst exy
      obtain ⟨h1, e1⟩ := List.getElem?_eq_some_iff.mp hx
      obtain ⟨h2, e2⟩ := List.getElem?_eq_some_iff.mp hy
      exact e ((List.getElem_inj hp.nd).mp (e2.trans e1.symm))
    rw [List.getElem?_set_ne hne]
    exact h.at_ j y (by omega) hy
/-- each point below n is an image -/
theorem IsPm.onto {n : Nat} {p : List Int} (h : IsPm n p) {k : Nat} (hk : k < n) : ∃ j, j < n ∧ p[j]? = some (k : Int) := by
  have hm : (k : Int) ∈ p := by
    apply Classical.byContradiction
    intro hn
    have h1 : ∀ x ∈ (k : Int) :: p, x ∈ (List.range n).map Int.ofNat := fun x hx => by
      rcases List.mem_cons.mp hx with z | z
      · rw [z]
        exact List.mem_map.mpr ⟨k, List.mem_range.mpr hk, rfl⟩
      · have := h.bd x z
        exact List.mem_map.mpr ⟨x.toNat, List.mem_range.mpr (by omega), by show ((x.toNat : Nat) : Int) = x; omega⟩
    have h2 := len_le_sub (List.nodup_cons.mpr ⟨hn, h.nd⟩) h1
    rw [List.length_map, List.length_range, List.length_cons, h.len] at h2
    omega
  obtain ⟨j, hj, e⟩ := List.getElem_of_mem hm
  exact ⟨j, by rw [← h.len]; exact hj, by rw [List.getElem?_eq_getElem hj, e]⟩
theorem Filled.uniq {n : Nat} {p : List Int} {f : Nat → Int} {L M : List Int} (hp : IsPm n p) (h : Filled n p f n L) (g : Filled n p f n M) : L = M := by
  refine List.ext_getElem? fun k => ?_
  by_cases hk : k < n
  · obtain ⟨j, hj, e⟩ := hp.onto hk
    have h1 := h.at_ j _ hj e
    have h2 := g.at_ j _ hj e
    have ek : ((k : Nat) : Int).toNat = k := by omega
    rw [ek] at h1 h2
    rw [h1, h2]
  · rw [List.getElem?_eq_none (by rw [h.len]; omega), List.getElem?_eq_none (by rw [g.len]; omega)]
theorem invL_filled {n : Nat} {p : List Int} (hp : IsPm n p) : Filled n p (fun j => (j : Int)) n (invL p) := by
  unfold invL
  refine ⟨by rw [List.length_map, List.length_range, hp.len], fun j x hj hx => ?_⟩
  have hb := hp.bd x (List.mem_of_getElem? hx)
  rw [List.getElem?_map, List.getElem?_range (by rw [hp.len]; omega)]
  show some (((p.idxOf (Int.ofNat x.toNat)) : Nat) : Int) = some ((j : Nat) : Int)
  have e : Int.ofNat x.toNat = x := by show ((x.toNat : Nat) : Int) = x; omega
  obtain ⟨h1, e1⟩ := List.getElem?_eq_some_iff.mp hx
  rw [e, ← e1, List.Nodup.idxOf_getElem hp.nd]
def spInv : Sp := fun vs H Q _ => ∃ (a : Addr) (n : Nat) (p : List Int), vs = [.ref a] ∧ Pm H a n p ∧ n ≤ 1000 ∧ ∀ c H', Ex H H' → H' c = some (.tup ((invL p).map V.int)) → Q (.ref c) H'
theorem rep_flat (n : Nat) : (List.replicate n [V.int 0]).flatten = (List.replicate n (0 : Int)).map V.int := by
  induction n with
  | zero => rfl
  | succ n ih =>
    rw [List.replicate_succ, List.flatten_cons, ih, List.replicate_succ]
    rfl
theorem set_map (L : List Int) (k : Nat) (v : Int) : (L.map V.int).set k (.int v) = (L.set k v).map V.int := by rw [List.map_set]
theorem ixN_of {n : Nat} {x : Int} (h0 : 0 ≤ x) (h : x < n) : ixN n x = some x.toNat := by
  unfold ixN
  rw [if_pos h0, if_pos h]
theorem Filled.isPm {n : Nat} {q : List Int} {f : Nat → Int} {L : List Int} (hq : IsPm n q) (h : Filled n q f n L) (hb : ∀ j, j < n → 0 ≤ f j ∧ f j < n) (hi : ∀ j k, j < n → k < n → f j = f k → j = k) : IsPm n L := by
  have key : ∀ k, k < n → ∃ j, j < n ∧ q[j]? = some (k : Int) ∧ L[k]? = some (f j) := fun k hk => by
    obtain ⟨j, hj, e⟩ := hq.onto hk
    have h1 := h.at_ j _ hj e
    have ek : ((k : Nat) : Int).toNat = k := by omega
    rw [ek] at h1
    exact ⟨j, hj, e, h1⟩
  refine ⟨h.len, ?_, fun x hx => ?_⟩
  · rw [List.nodup_iff_pairwise_ne, List.pairwise_iff_getElem]
    intro a b ha hb2 hab e
    obtain ⟨j, hj, e1, e2⟩ := key a (by rw [← h.len]; exact ha)
    obtain ⟨k, hk, e3, e4⟩ := key b (by rw [← h.len]; exact hb2)
    rw [List.getElem?_eq_getElem ha] at e2
    rw [List.getElem?_eq_getElem hb2] at e4
    have ejk := hi j k hj hk (by rw [← Option.some.inj e2, ← Option.some.inj e4, e])
    subst ejk
    rw [e1] at e3
    have := Option.some.inj e3
    omega
  · obtain ⟨k, hk, e⟩ := List.getElem_of_mem hx
    obtain ⟨j, hj, _, e2⟩ := key k (by rw [← h.len]; exact hk)
    rw [List.getElem?_eq_getElem hk, e] at e2
    rw [Option.some.inj e2]
    exact hb j hj
theorem IsPm.inj {n : Nat} {p : List Int} (h : IsPm n p) {i j : Nat} {x : Int} (hi : p[i]? = some x) (hj : p[j]? = some x) : i = j := by
  obtain ⟨h1, e1⟩ := List.getElem?_eq_some_iff.mp hi
  obtain ⟨h2, e2⟩ := List.getElem?_eq_some_iff.mp hj
  exact (List.getElem_inj h.nd).mp (e1.trans e2.symm)
theorem invL_pm {n : Nat} {p : List Int} (hp : IsPm n p) : IsPm n (invL p) := (invL_filled hp).isPm hp (fun j hj => ⟨by omega, by omega⟩) fun j k _ _ e => by omega
/-- q's image of p's image of j -/
def thenF (p q : List Int) (j : Nat) : Int := q.getD (p.getD j 0).toNat 0
theorem thenF_of {n : Nat} {p q : List Int} (hp : IsPm n p) (hq : IsPm n q) {j : Nat} (hj : j < n) : ∃ x y : Int, p[j]? = some x ∧ 0 ≤ x ∧ x < n ∧ q[x.toNat]? = some y ∧ 0 ≤ y ∧ y < n ∧ thenF p q j = y := by
  obtain ⟨x, hx, h0, hb⟩ := hp.get hj
  obtain ⟨y, hy, g0, gb⟩ := hq.get (i := x.toNat) (by omega)
  exact ⟨x, y, hx, h0, hb, hy, g0, gb, by unfold thenF; rw [getD_of hx, getD_of hy]⟩
theorem thenF_inj {n : Nat} {p q : List Int} (hp : IsPm n p) (hq : IsPm n q) {j k : Nat} (hj : j < n) (hk : k < n) (e : thenF p q j = thenF p q k) : j = k := by
  obtain ⟨x, y, hx, h0, hb, hy, g0, gb, ej⟩ := thenF_of hp hq hj
  obtain ⟨x', y', hx', h0', hb', hy', g0', gb', ek⟩ := thenF_of hp hq hk
  rw [ej, ek] at e
  subst e
  have e2 := hq.inj hy hy'
  have e3 : x = x' := by omega
  subst e3
  exact hp.inj hx hx'
theorem mulL_get {n : Nat} {p q : List Int} (hp : IsPm n p) {j : Nat} (hj : j < n) : (mulL p q)[j]? = some (thenF p q j) := by
  obtain ⟨x, hx, _, _⟩ := hp.get hj
  unfold mulL thenF
  rw [List.getElem?_map, hx, getD_of hx]
  rfl
theorem mulL_pm {n : Nat} {p q : List Int} (hp : IsPm n p) (hq : IsPm n q) : IsPm n (mulL p q) := by
  have hl : (mulL p q).length = n := by unfold mulL; rw [List.length_map, hp.len]
  refine ⟨hl, ?_, fun x hx => ?_⟩
  · rw [List.nodup_iff_pairwise_ne, List.pairwise_iff_getElem]
    intro a b ha hb hab e
    have ea := mulL_get (q := q) hp (j := a) (by omega)
    have eb := mulL_get (q := q) hp (j := b) (by omega)
    rw [List.getElem?_eq_getElem ha] at ea
    rw [List.getElem?_eq_getElem hb] at eb
    have := thenF_inj hp hq (j := a) (k := b) (by omega) (by omega) (by rw [← Option.some.inj ea, ← Option.some.inj eb, e])
    omega
  · obtain ⟨k, hk, e⟩ := List.getElem_of_mem hx
    have ek := mulL_get (q := q) hp (j := k) (by omega)
    rw [List.getElem?_eq_getElem hk, e] at ek
    obtain ⟨_, y, _, _, _, _, g0, gb, ey⟩ := thenF_of hp hq (j := k) (by omega)
    rw [Option.some.inj ek, ey]
    exact ⟨g0, gb⟩
theorem unit_pm (n : Nat) : IsPm n ((List.range n).map Int.ofNat) := by
  refine ⟨by rw [List.length_map, List.length_range], ?_, fun x hx => ?_⟩
  · rw [List.nodup_iff_pairwise_ne, List.pairwise_iff_getElem]
    intro a b ha hb hab e
    rw [List.getElem_map, List.getElem_map, List.getElem_range, List.getElem_range] at e
    have : (a : Int) = (b : Int) := e
    omega
  · obtain ⟨k, hk, rfl⟩ := List.mem_map.mp hx
    have := List.mem_range.mp hk
    exact ⟨by show (0 : Int) ≤ (k : Int); omega, by show (k : Int) < (n : Int); omega⟩
def spConj : Sp := fun vs H Q _ => ∃ (a b : Addr) (n : Nat) (p g : List Int), vs = [.ref a, .ref b] ∧ Pm H a n p ∧ Pm H b n g ∧ n ≤ 1000 ∧ ∀ c H' L, Ex H H' → H' c = some (.tup (L.map V.int)) → Filled n g (thenF p g) n L → Q (.ref c) H'
def unitL (n : Nat) : List Int := (List.range n).map Int.ofNat
def spIdentity : Sp := fun vs H Q _ => ∃ n : Nat, vs = [.int n] ∧ 1 ≤ n ∧ n ≤ 12 ∧ ∀ a H', Ex H H' → Pm H' a n (unitL n) → Q (.ref a) H'
def spProduct (K : PySem.W.Frag) : Sp := fun vs H Q _ => ∃ (a b : Addr) (n : Nat) (p q : List Int), vs = [.ref a, .ref b] ∧ Pm H a n p ∧ Pm H b n q ∧ 1 ≤ n ∧ n ≤ 12 ∧ TabG H (PP K) ∧ ∀ c H', Ex H H' → Pm H' c n (mulL p q) → Q (.ref c) H'
def spInverse (K : PySem.W.Frag) : Sp := fun vs H Q _ => ∃ (a : Addr) (n : Nat) (p : List Int), vs = [.ref a] ∧ Pm H a n p ∧ 1 ≤ n ∧ n ≤ 12 ∧ TabG H (PP K) ∧ ∀ c H', Ex H H' → Pm H' c n (invL p) → Q (.ref c) H'
def spConjugate (K : PySem.W.Frag) : Sp := fun vs H Q _ => ∃ (a b : Addr) (n : Nat) (p g : List Int), vs = [.ref a, .ref b] ∧ Pm H a n p ∧ Pm H b n g ∧ 1 ≤ n ∧ n ≤ 12 ∧ TabG H (PP K) ∧ ∀ c H' L, Ex H H' → Pm H' c n L → Filled n g (thenF p g) n L → Q (.ref c) H'
theorem thenF_filled {n : Nat} {p g q L : List Int} (hp : IsPm n p) (hg : IsPm n g) (hq : IsPm n q) (h : Filled n q (thenF p g) n L) : IsPm n L :=
  h.isPm hq (fun j hj => by
    obtain ⟨_, _, _, _, _, _, g0, gb, e⟩ := thenF_of hp hg hj
    rw [e]
    exact ⟨g0, gb⟩) fun j k hj hk e => thenF_inj hp hg hj hk e
def spCommutator (K : PySem.W.Frag) : Sp := fun vs H Q _ => ∃ (a b : Addr) (n : Nat) (p q : List Int), vs = [.ref a, .ref b] ∧ Pm H a n p ∧ Pm H b n q ∧ 1 ≤ n ∧ n ≤ 12 ∧ TabG H (PP K) ∧ ∀ c H' L, Ex H H' → Pm H' c n L → Filled n (mulL q p) (thenF p q) n L → Q (.ref c) H'
theorem comm_filled {n : Nat} {p q L : List Int} (hp : IsPm n p) (hq : IsPm n q) (h : Filled n q (thenF p q) n L) : Filled n (mulL q p) (thenF p q) n (mulL (invL p) L) := by
  have hL := thenF_filled hp hq hq h
  refine ⟨(mulL_pm (invL_pm hp) hL).len, fun j x hj hx => ?_⟩
  obtain ⟨k, y, hk, k0, kb, hy, y0, yb, e⟩ := thenF_of hq hp hj
  rw [mulL_get hq hj, e] at hx
  cases hx
  have h1 := (invL_filled hp).at_ k.toNat x (by omega) hy
  have h2 := h.at_ j k hj hk
  unfold mulL
  rw [List.getElem?_map, h1]
  show some (L.getD (((k.toNat : Nat) : Int)).toNat 0) = some (thenF p q j)
  have ek : (((k.toNat : Nat) : Int)).toNat = k.toNat := by omega
  rw [ek, getD_of h2]
/-! ### draws -/
def spTaken (K : PySem.W.Frag) : Sp := fun vs H Q _ => ∃ (r s : Addr) (m : Nat) (ns : List Int), vs = [.ref r, .int m] ∧ RowAt H r s ∧ SqL K H s (ns.map V.int) ∧ 1 ≤ m ∧ m ≤ 2000000000 ∧ ∀ (j : Nat) H', Ex H H' → j < m → Q (.int j) H'
theorem IsPm.swap {n : Nat} {L : List Int} (h : IsPm n L) {i j : Nat} {x y : Int} (hi : L[i]? = some x) (hj : L[j]? = some y) : IsPm n ((L.set i y).set j x) := by
  obtain ⟨h1, e1⟩ := List.getElem?_eq_some_iff.mp hi
  obtain ⟨h2, e2⟩ := List.getElem?_eq_some_iff.mp hj
  have p := List.set_set_perm h1 h2
  rw [e1, e2] at p
  exact ⟨p.length_eq.trans h.len, p.nodup_iff.mpr h.nd, fun z hz => h.bd z (p.mem_iff.mp hz)⟩
def spLawPerm (K : PySem.W.Frag) : Sp := fun vs H Q _ => ∃ (r s : Addr) (n : Nat) (ns : List Int), vs = [.ref r, .int n] ∧ RowAt H r s ∧ SqL K H s (ns.map V.int) ∧ 1 ≤ n ∧ n ≤ 1000 ∧ ∀ c H' p, Ex H H' → Pm H' c n p → Q (.ref c) H'
def spLawUnit : Sp := fun vs H Q _ => ∃ n : Nat, vs = [.int n] ∧ n ≤ 1000 ∧ ∀ a H', Ex H H' → Pm H' a n (unitL n) → Q (.ref a) H'
def spLawInv : Sp := fun vs H Q _ => ∃ (a : Addr) (n : Nat) (p : List Int), vs = [.ref a] ∧ Pm H a n p ∧ n ≤ 1000 ∧ ∀ c H', Ex H H' → Pm H' c n (invL p) → Q (.ref c) H'
/-! ### the law's own comparison -/
theorem isi_q {K : PySem.W.Frag} {H : Hp} {x : V} {T C : String} {b : Bool} {Q : VK} (t : TyX K H x (.type T)) (k : kitB T C = some b) (q : Q (.bl b) H) : rIsi K [x, .ty C] H Q := ⟨x, .ty C, .type T, .type C, b, rfl, .ty C, t, kit_ty k, q⟩
theorem isit_q {K : PySem.W.Frag} {H : Hp} {x : V} {T C D : String} {b c : Bool} {tp : Addr} {Q : VK} (t : TyX K H x (.type T)) (hp : H tp = some (.tup [.ty C, .ty D])) (k : kitB T C = some b) (k2 : kitB T D = some c) (q : Q (.bl (b || c)) H) : rIsiT K [x, .ref tp] H Q := by
  refine ⟨x, tp, [.ty C, .ty D], .type T, [.type C, .type D], b || c, rfl, hp, .cons (.ty C) (.cons (.ty D) .nil), t, ?_, q⟩
  refine kitAny_cons (kit_ty k) (fun e => ?_) (fun e => by rw [e]; rfl)
  subst e
  refine kitAny_cons (kit_ty k2) (fun e => by rw [e]; rfl) (fun e => by rw [e]; rfl)
theorem tyx_int {K : PySem.W.Frag} {H : Hp} (i : Int) : TyX K H (.int i) (.type "int") := .base (.int i)
theorem tyx_tup {K : PySem.W.Frag} {H : Hp} {a : Addr} {xs : List V} (h : H a = some (.tup xs)) : TyX K H (.ref a) (.type "tuple") := .base (.tup h)
def spAlike0 : Sp := fun vs H Q _ => ∃ (x y : Int), vs = [.int x, .int y] ∧ ∀ H', Ex H H' → Q (.bl (decide (x = y))) H'
theorem dp_nil {K : PySem.W.Frag} {H : Hp} {a : Addr} (h : H a = some (.lst [])) : Dp K H (.ref a) (.list []) := .lst (sl_at h) .nil
def spAlike : Sp := fun vs H Q _ => ∃ (a b : Addr) (ns : List Int), vs = [.ref a, .ref b] ∧ H a = some (.tup (ns.map V.int)) ∧ H b = some (.tup (ns.map V.int)) ∧ ns.length ≤ 1000 ∧ ∀ H', Ex H H' → Q (.bl true) H'
theorem dp_all {K : PySem.W.Frag} {H : Hp} : ∀ ns : List Int, DpAll K H (ns.map V.int) (ns.map PyData.int)
  | [] => .nil
  | x :: r => .cons (.int x) (dp_all r)
theorem dp_ints {K : PySem.W.Frag} {H : Hp} {a : Addr} {ns : List Int} (h : H a = some (.lst (ns.map V.int))) : Dp K H (.ref a) (.list (ns.map PyData.int)) := .lst (sl_at h) (dp_all ns)
theorem canLay_ints (ns : List Int) : PyData.canLay0 (.list (ns.map PyData.int)) = true := SeqAt.canLay_of_shaped (PySem.W.ke_shaped_ints ns)
theorem srt_unit {n : Nat} {p ns : List Int} (hp : IsPm n p) (h : ns.Perm p) (hs : ns.Pairwise (· ≤ ·)) : ns = unitL n := by
  have hpu : p.Perm (unitL n) := (List.perm_ext_iff_of_nodup hp.nd (unit_pm n).nd).mpr fun x => by
    constructor
    · intro hx
      have := hp.bd x hx
      exact List.mem_map.mpr ⟨x.toNat, List.mem_range.mpr (by omega), by show ((x.toNat : Nat) : Int) = x; omega⟩
    · intro hx
      obtain ⟨k, hk, rfl⟩ := List.mem_map.mp hx
      obtain ⟨j, hj, e⟩ := hp.onto (List.mem_range.mp hk)
      exact List.mem_of_getElem? e
  refine PySem.W.ksm_same (h.trans hpu) hs ?_
  unfold unitL
  rw [List.pairwise_map]
  refine List.Pairwise.imp (fun {a b} h => ?_) List.pairwise_lt_range
  show ((a : Nat) : Int) ≤ ((b : Nat) : Int)
  omega
def spIsPerm : Sp := fun vs H Q _ => ∃ (a : Addr) (n : Nat) (p : List Int), vs = [.int n, .ref a] ∧ Pm H a n p ∧ n ≤ 1000 ∧ ∀ H', Ex H H' → Q (.bl true) H'
theorem invL_invL {n : Nat} {p : List Int} (hp : IsPm n p) : invL (invL p) = p := by
  have hi := invL_pm hp
  refine Filled.uniq hi (invL_filled hi) ⟨hp.len, fun j x hj hx => ?_⟩
  obtain ⟨k, hk, e⟩ := hp.onto hj
  have h1 := (invL_filled hp).at_ k _ hk e
  have ej : ((j : Nat) : Int).toNat = j := by omega
  rw [ej, hx] at h1
  have ex : x = (k : Int) := Option.some.inj h1
  rw [ex]
  have ek : ((k : Nat) : Int).toNat = k := by omega
  rw [ek, e]
theorem mul_inv {n : Nat} {p : List Int} (hp : IsPm n p) : mulL p (invL p) = unitL n := by
  have hi := invL_pm hp
  refine List.ext_getElem? fun j => ?_
  by_cases hj : j < n
  · obtain ⟨x, y, hx, h0, hb, hy, _, _, e⟩ := thenF_of hp hi hj
    have h1 := (invL_filled hp).at_ j x hj hx
    rw [hy] at h1
    rw [mulL_get hp hj, e]
    unfold unitL
    rw [List.getElem?_map, List.getElem?_range hj]
    exact h1
  · rw [List.getElem?_eq_none (by rw [(mulL_pm hp hi).len]; omega), List.getElem?_eq_none (by rw [show (unitL n).length = n from (unit_pm n).len]; omega)]
end
end KL
/-! powers of permutations and their cycles -/
namespace KL
open PySem PySem.Spec PyProof.Rows L2 GA GxR
/-- p times itself, k times -/
def pwL (n : Nat) (p : List Int) : Nat → List Int
  | 0 => unitL n
  | k + 1 => mulL (pwL n p k) p
theorem pwL_pm {n : Nat} {p : List Int} (hp : IsPm n p) : ∀ k, IsPm n (pwL n p k)
  | 0 => unit_pm n
  | k + 1 => mulL_pm (pwL_pm hp k) hp
theorem unitL_get {n j : Nat} (h : j < n) : (unitL n)[j]? = some (j : Int) := by
  unfold unitL
  rw [List.getElem?_map, List.getElem?_range h]
  rfl
theorem pm_ext {n : Nat} {p q : List Int} (hp : p.length = n) (hq : q.length = n) (h : ∀ j, j < n → p[j]? = q[j]?) : p = q := by
  refine List.ext_getElem? fun j => ?_
  by_cases hj : j < n
  · exact h j hj
  · rw [List.getElem?_eq_none (by omega), List.getElem?_eq_none (by omega)]
theorem mulL_at {p q : List Int} {j : Nat} {x y : Int} (hx : p[j]? = some x) (hy : q[x.toNat]? = some y) : (mulL p q)[j]? = some y := by
  unfold mulL
  rw [List.getElem?_map, hx]
  show some (q.getD x.toNat 0) = some y
  rw [getD_of hy]
theorem unit_mulL {n : Nat} {p : List Int} (hp : IsPm n p) : mulL (unitL n) p = p := by
  refine pm_ext (n := n) (mulL_pm (unit_pm n) hp).len hp.len fun j hj => ?_
  obtain ⟨y, hy, _⟩ := hp.get hj
  rw [mulL_at (unitL_get hj) (y := y) (by rw [show ((j : Nat) : Int).toNat = j by omega]; exact hy), hy]
theorem mulL_unit {n : Nat} {p : List Int} (hp : IsPm n p) : mulL p (unitL n) = p := by
  refine pm_ext (n := n) (mulL_pm hp (unit_pm n)).len hp.len fun j hj => ?_
  obtain ⟨y, hy, h0, hb⟩ := hp.get hj
  rw [mulL_at hy (y := y) (by rw [unitL_get (by omega)]; congr 1; omega), hy]
theorem mulL_assoc {n : Nat} {p q r : List Int} (hp : IsPm n p) (hq : IsPm n q) (hr : IsPm n r) : mulL (mulL p q) r = mulL p (mulL q r) := by
  refine pm_ext (n := n) (mulL_pm (mulL_pm hp hq) hr).len (mulL_pm hp (mulL_pm hq hr)).len fun j hj => ?_
  obtain ⟨x, hx, x0, xb⟩ := hp.get hj
  obtain ⟨y, hy, y0, yb⟩ := hq.get (i := x.toNat) (by omega)
  obtain ⟨z, hz, z0, zb⟩ := hr.get (i := y.toNat) (by omega)
  rw [mulL_at (mulL_at hx hy) hz, mulL_at hx (mulL_at hy hz)]
theorem pwL_one {n : Nat} {p : List Int} (hp : IsPm n p) : pwL n p 1 = p := unit_mulL hp
theorem pwL_add {n : Nat} {p : List Int} (hp : IsPm n p) (a : Nat) : ∀ b, mulL (pwL n p a) (pwL n p b) = pwL n p (a + b)
  | 0 => mulL_unit (pwL_pm hp a)
  | b + 1 => by
    show mulL (pwL n p a) (mulL (pwL n p b) p) = mulL (pwL n p (a + b)) p
    rw [← mulL_assoc (pwL_pm hp a) (pwL_pm hp b) hp, pwL_add hp a b]
theorem pwL_per {n N : Nat} {p : List Int} (hp : IsPm n p) (h : pwL n p N = unitL n) (k : Nat) : ∀ t, pwL n p (k + N * t) = pwL n p k
  | 0 => rfl
  | t + 1 => by
    have e : k + N * (t + 1) = (k + N * t) + N := by rw [Nat.mul_succ]; omega
    rw [e, ← pwL_add hp, h, mulL_unit (pwL_pm hp _), pwL_per hp h k t]
theorem pwL_mod {n N : Nat} {p : List Int} (hp : IsPm n p) (h : pwL n p N = unitL n) (k : Nat) : pwL n p (k % N) = pwL n p k := by
  rw [← pwL_per hp h (k % N) (k / N), Nat.mod_add_div]
/-- a row that p turns by one place -/
structure Turn (p r : List Int) : Prop where
  ne : 0 < r.length
  st : ∀ i x, r[i]? = some x → p[x.toNat]? = r[(i + 1) % r.length]?
/-- p's cycles -/
structure Cyc (n : Nat) (p : List Int) (R : List (List Int)) : Prop where
  tn : ∀ r ∈ R, Turn p r
  nd : R.flatten.Nodup
  bd : ∀ x ∈ R.flatten, 0 ≤ x ∧ x < n
theorem Turn.pw {n : Nat} {p r : List Int} (hp : IsPm n p) (T : Turn p r) (hb : ∀ x ∈ r, 0 ≤ x ∧ x < n) {i : Nat} {x : Int} (h : r[i]? = some x) : ∀ k, (pwL n p k)[x.toNat]? = r[(i + k) % r.length]?
  | 0 => by
    have hi : i < r.length := (List.getElem?_eq_some_iff.mp h).1
    have b := hb x (List.mem_of_getElem? h)
    show (unitL n)[x.toNat]? = _
    rw [unitL_get (by omega), Nat.add_zero, Nat.mod_eq_of_lt hi, h]
    congr 1
    omega
  | k + 1 => by
    have ih := T.pw hp hb h k
    have hm : (i + k) % r.length < r.length := Nat.mod_lt _ T.ne
    rw [List.getElem?_eq_getElem hm] at ih
    have st := T.st _ _ (List.getElem?_eq_getElem hm)
    have hm2 : ((i + k) % r.length + 1) % r.length < r.length := Nat.mod_lt _ T.ne
    rw [List.getElem?_eq_getElem hm2] at st
    show (mulL (pwL n p k) p)[x.toNat]? = _
    rw [mulL_at ih st, ← List.getElem?_eq_getElem hm2]
    congr 1
    rw [Nat.add_mod, Nat.mod_mod, ← Nat.add_mod, Nat.add_assoc]
theorem nodup_row {R : List (List Int)} (h : R.flatten.Nodup) : ∀ r ∈ R, r.Nodup := by
  induction R with
  | nil => intro r hr; cases hr
  | cons a R ih =>
    intro r hr
    rw [List.flatten_cons] at h
    have h2 := List.nodup_append.mp h
    rcases List.mem_cons.mp hr with z | z
    · rw [z]; exact h2.1
    · exact ih h2.2.1 r z
theorem Cyc.pw {n : Nat} {p : List Int} {R : List (List Int)} (hp : IsPm n p) (C : Cyc n p R) {r : List Int} (hr : r ∈ R) {i : Nat} {x : Int} (h : r[i]? = some x) (k : Nat) : (pwL n p k)[x.toNat]? = r[(i + k) % r.length]? :=
  (C.tn r hr).pw hp (fun x hx => C.bd x (List.mem_flatten.mpr ⟨r, hr, hx⟩)) h k
theorem Cyc.dvd {n N : Nat} {p : List Int} {R : List (List Int)} (hp : IsPm n p) (C : Cyc n p R) {r : List Int} (hr : r ∈ R) (hN : pwL n p N = unitL n) : r.length ∣ N := by
  have T := C.tn r hr
  have h0 : r[0]? = some (r[0]'T.ne) := List.getElem?_eq_getElem T.ne
  have b := C.bd _ (List.mem_flatten.mpr ⟨r, hr, List.mem_of_getElem? h0⟩)
  have e := C.pw hp hr h0 N
  have hm : (0 + N) % r.length < r.length := Nat.mod_lt _ T.ne
  rw [hN, unitL_get (by omega), List.getElem?_eq_getElem hm] at e
  have e2 := Option.some.inj e
  have e3 : r[0]'T.ne = r[(0 + N) % r.length] := by rw [← e2]; omega
  have e4 := (List.getElem_inj (nodup_row C.nd r hr)).mp e3
  rw [Nat.zero_add] at e4
  exact Nat.dvd_of_mod_eq_zero e4.symm
theorem Cyc.pwMod {n N : Nat} {p : List Int} {R : List (List Int)} (hp : IsPm n p) (C : Cyc n p R) {r : List Int} (hr : r ∈ R) {i : Nat} {x : Int} (h : r[i]? = some x) (hN : pwL n p N = unitL n) (h1 : 1 ≤ N) (e : Int) :
    (pwL n p (e % (N : Int)).toNat)[x.toNat]? = r[(((i : Int) + e) % (r.length : Int)).toNat]? := by
  rw [C.pw hp hr h]
  congr 1
  obtain ⟨t, et⟩ := C.dvd hp hr hN
  have l0 := (C.tn r hr).ne
  have n0 : 0 ≤ e % (N : Int) := Int.emod_nonneg _ (by omega)
  have a0 : 0 ≤ ((i : Int) + e) % (r.length : Int) := Int.emod_nonneg _ (by omega)
  have k : (((i + (e % (N : Int)).toNat) % r.length : Nat) : Int) = ((i : Int) + e) % (r.length : Int) := by
    rw [Int.natCast_emod, Int.natCast_add, Int.toNat_of_nonneg n0, Int.add_emod, Int.emod_emod_of_dvd e (by rw [et]; exact ⟨t, by rw [Int.natCast_mul]⟩), ← Int.add_emod]
  omega
/-- numbers that sum to at most b have a common multiple of at most 60 -/
def chk : Nat → Nat → Nat → Bool
  | 0, _, acc => decide (1 ≤ acc) && decide (acc ≤ 60)
  | f + 1, b, acc => (decide (1 ≤ acc) && decide (acc ≤ 60)) && (List.range b).all fun a => chk f (b - (a + 1)) (Nat.lcm acc (a + 1))
theorem chk_acc : ∀ f b acc, chk f b acc = true → 1 ≤ acc ∧ acc ≤ 60
  | 0, b, acc, h => by
    have h : (decide (1 ≤ acc) && decide (acc ≤ 60)) = true := h
    rw [Bool.and_eq_true, decide_eq_true_iff, decide_eq_true_iff] at h
    exact h
  | f + 1, b, acc, h => by
    have h : ((decide (1 ≤ acc) && decide (acc ≤ 60)) && (List.range b).all fun a => chk f (b - (a + 1)) (Nat.lcm acc (a + 1))) = true := h
    rw [Bool.and_eq_true, Bool.and_eq_true, decide_eq_true_iff, decide_eq_true_iff] at h
    exact h.1
theorem chk_all : ∀ (ls : List Nat) (f b acc : Nat), chk f b acc = true → (∀ l ∈ ls, 1 ≤ l) → ls.sum ≤ b → ls.length ≤ f → ∃ N, 1 ≤ N ∧ N ≤ 60 ∧ acc ∣ N ∧ ∀ l ∈ ls, l ∣ N
  | [], f, b, acc, h, _, _, _ => ⟨acc, (chk_acc f b acc h).1, (chk_acc f b acc h).2, Nat.dvd_refl _, fun _ z => by cases z⟩
  | l :: ls, 0, b, acc, h, _, _, hf => absurd hf (by rw [List.length_cons]; omega)
  | l :: ls, f + 1, b, acc, h, h1, hs, hf => by
    have h : ((decide (1 ≤ acc) && decide (acc ≤ 60)) && (List.range b).all fun a => chk f (b - (a + 1)) (Nat.lcm acc (a + 1))) = true := h
    rw [Bool.and_eq_true] at h
    have l1 := h1 l (List.mem_cons_self ..)
    rw [List.sum_cons] at hs
    have hl := List.all_eq_true.mp h.2 (l - 1) (List.mem_range.mpr (by omega))
    have el : l - 1 + 1 = l := by omega
    rw [el] at hl
    obtain ⟨N, a, c, d, g⟩ := chk_all ls f (b - l) _ hl (fun x hx => h1 x (List.mem_cons_of_mem _ hx)) (by omega) (by rw [List.length_cons] at hf; omega)
    refine ⟨N, a, c, Nat.dvd_trans (Nat.dvd_lcm_left _ _) d, fun x hx => ?_⟩
    rcases List.mem_cons.mp hx with z | z
    · rw [z]; exact Nat.dvd_trans (Nat.dvd_lcm_right _ _) d
    · exact g x z
theorem chk12 : chk 12 12 1 = true := by decide +kernel
theorem Cyc.period {n : Nat} {p : List Int} {R : List (List Int)} (hp : IsPm n p) (C : Cyc n p R) (all : ∀ x : Int, 0 ≤ x → x < n → x ∈ R.flatten) (hn : n ≤ 12) : ∃ N, 1 ≤ N ∧ N ≤ 60 ∧ pwL n p N = unitL n := by
  have hs : (R.map List.length).sum = R.flatten.length := List.length_flatten.symm
  have hl : R.flatten.length ≤ n := by
    have h := len_le_sub (ns := unitL n) C.nd fun x hx => by
      have b := C.bd x hx
      exact List.mem_map.mpr ⟨x.toNat, List.mem_range.mpr (by omega), by show ((x.toNat : Nat) : Int) = x; omega⟩
    unfold unitL at h
    rw [List.length_map, List.length_range] at h
    exact h
  have h1 : ∀ l ∈ R.map List.length, 1 ≤ l := fun l hl => by
    obtain ⟨r, hr, rfl⟩ := List.mem_map.mp hl
    exact (C.tn r hr).ne
  have hlen : ∀ ls : List Nat, (∀ l ∈ ls, 1 ≤ l) → ls.length ≤ ls.sum := fun ls => by
    induction ls with
    | nil => intro _; exact Nat.le_refl _
    | cons a ls ih =>
      intro h
      have := ih fun l z => h l (List.mem_cons_of_mem _ z)
      have := h a (List.mem_cons_self ..)
      rw [List.length_cons, List.sum_cons]
      omega
  obtain ⟨N, a, b, _, d⟩ := chk_all (R.map List.length) 12 12 1 chk12 h1 (by omega) (by have := hlen _ h1; omega)
  refine ⟨N, a, b, pm_ext (n := n) (pwL_pm hp N).len (unit_pm n).len fun j hj => ?_⟩
  obtain ⟨r, hr, hx⟩ := List.mem_flatten.mp (all (j : Int) (by omega) (by omega))
  obtain ⟨i, hi, e⟩ := List.getElem_of_mem hx
  have h : r[i]? = some (j : Int) := by rw [List.getElem?_eq_getElem hi, e]
  have k := C.pw hp hr h N
  obtain ⟨t, et⟩ := d _ (List.mem_map_of_mem (f := List.length) hr)
  rw [et, Nat.add_mul_mod_self_left, Nat.mod_eq_of_lt hi, h, show ((j : Nat) : Int).toNat = j by omega] at k
  rw [et, k]
  exact (unitL_get hj).symm
theorem Cyc.same {n N M : Nat} {p : List Int} {R : List (List Int)} (hp : IsPm n p) (C : Cyc n p R) (all : ∀ x : Int, 0 ≤ x → x < n → x ∈ R.flatten) (hN : pwL n p N = unitL n) (h1 : 1 ≤ N) (hM : pwL n p M = unitL n) (h2 : 1 ≤ M) (e : Int) :
    pwL n p (e % (N : Int)).toNat = pwL n p (e % (M : Int)).toNat := by
  refine pm_ext (n := n) (pwL_pm hp _).len (pwL_pm hp _).len fun j hj => ?_
  obtain ⟨r, hr, hx⟩ := List.mem_flatten.mp (all (j : Int) (by omega) (by omega))
  obtain ⟨i, hi, e2⟩ := List.getElem_of_mem hx
  have h : r[i]? = some (j : Int) := by rw [List.getElem?_eq_getElem hi, e2]
  have a := C.pwMod hp hr h hN h1 e
  have b := C.pwMod hp hr h hM h2 e
  rw [show ((j : Nat) : Int).toNat = j by omega] at a b
  rw [a, b]
theorem pw_sum {n N : Nat} {p : List Int} (hp : IsPm n p) (hN : pwL n p N = unitL n) (h1 : 1 ≤ N) (a b : Int) : mulL (pwL n p (a % (N : Int)).toNat) (pwL n p (b % (N : Int)).toNat) = pwL n p ((a + b) % (N : Int)).toNat := by
  rw [pwL_add hp, ← pwL_mod hp hN]
  congr 1
  have a0 : 0 ≤ a % (N : Int) := Int.emod_nonneg _ (by omega)
  have b0 : 0 ≤ b % (N : Int) := Int.emod_nonneg _ (by omega)
  have c0 : 0 ≤ (a + b) % (N : Int) := Int.emod_nonneg _ (by omega)
  have k : ((((a % (N : Int)).toNat + (b % (N : Int)).toNat) % N : Nat) : Int) = (a + b) % (N : Int) := by
    rw [Int.natCast_emod, Int.natCast_add, Int.toNat_of_nonneg a0, Int.toNat_of_nonneg b0, ← Int.add_emod]
  omega
/-! ### how the cycles are found -/
/-- L is walked from `first`, the next point is pt -/
structure Chain (p : List Int) (first : Int) (L : List Int) (pt : Int) : Prop where
  hd : (L ++ [pt])[0]? = some first
  st : ∀ i x, L[i]? = some x → p[x.toNat]? = (L ++ [pt])[i + 1]?
theorem Chain.start {p : List Int} {first : Int} : Chain p first [] first := ⟨rfl, fun i x h => by cases i <;> cases h⟩
theorem Chain.step {p : List Int} {first pt nx : Int} {L : List Int} (C : Chain p first L pt) (h : p[pt.toNat]? = some nx) : Chain p first (L ++ [pt]) nx := by
  refine ⟨?_, fun i x hx => ?_⟩
  · have hd := C.hd
    rw [List.getElem?_append_left (by rw [List.length_append]; exact Nat.succ_pos _)]
    exact hd
  · by_cases hi : i < L.length
    · rw [List.getElem?_append_left hi] at hx
      rw [C.st i x hx, List.getElem?_append_left (l₁ := L ++ [pt]) (by rw [List.length_append]; show i + 1 < L.length + 1; omega)]
    · have hl := (List.getElem?_eq_some_iff.mp hx).1
      have hl : i < L.length + 1 := by rw [List.length_append] at hl; exact hl
      have ei : i = L.length := by omega
      subst ei
      rw [List.getElem?_append_right (Nat.le_refl _), Nat.sub_self] at hx
      cases hx
      rw [h, List.getElem?_append_right (by rw [List.length_append]; exact Nat.le_refl _), List.length_append]
      show _ = [nx][L.length + 1 - (L.length + 1)]?
      rw [Nat.sub_self]
      rfl
theorem Turn.pre {n : Nat} {p r : List Int} (hp : IsPm n p) (T : Turn p r) (hb : ∀ x ∈ r, 0 ≤ x ∧ x < n) {x y : Int} (hx : 0 ≤ x) (e : p[x.toNat]? = some y) (hy : y ∈ r) : x ∈ r := by
  obtain ⟨i, hi, ei⟩ := List.getElem_of_mem hy
  -- the place before i
  obtain ⟨j, hj, ej⟩ : ∃ j, j < r.length ∧ (j + 1) % r.length = i := by
    by_cases z : i = 0
    · exact ⟨r.length - 1, by have := T.ne; omega, by rw [z, show r.length - 1 + 1 = r.length by have := T.ne; omega, Nat.mod_self]⟩
    · exact ⟨i - 1, by omega, by rw [show i - 1 + 1 = i by omega, Nat.mod_eq_of_lt hi]⟩
  have st := T.st j r[j] (List.getElem?_eq_getElem hj)
  rw [ej, List.getElem?_eq_getElem hi, ei] at st
  have k := hp.inj st e
  have b := hb _ (List.getElem_mem hj)
  have : r[j] = x := by omega
  exact this ▸ List.getElem_mem hj
theorem Chain.close {n : Nat} {p : List Int} {R : List (List Int)} {first pt : Int} {L : List Int} (hp : IsPm n p) (C : Cyc n p R) (c : Chain p first L pt) (nd : (R.flatten ++ L).Nodup) (hb : ∀ x ∈ L, 0 ≤ x ∧ x < n) (hf : first ∉ R.flatten) (hm : pt ∈ R.flatten ++ L) : Turn p L := by
  have L0 : L ≠ [] := fun z => by
    subst z
    have e := Option.some.inj c.hd
    rw [List.append_nil] at hm
    exact hf (e ▸ hm)
  have hl : 0 < L.length := List.length_pos_iff.mpr L0
  have last := c.st (L.length - 1) L[L.length - 1] (List.getElem?_eq_getElem (by omega))
  rw [show L.length - 1 + 1 = L.length by omega, List.getElem?_append_right (Nat.le_refl _), Nat.sub_self] at last
  have last : p[(L[L.length - 1]).toNat]? = some pt := last
  have bl := hb _ (List.getElem_mem (h := (show L.length - 1 < L.length by omega)))
  have nd2 := List.nodup_append.mp nd
  have e : pt = first := by
    rcases List.mem_append.mp hm with z | z
    · obtain ⟨r, hr, hx⟩ := List.mem_flatten.mp z
      have q := (C.tn r hr).pre hp (fun x hx => C.bd x (List.mem_flatten.mpr ⟨r, hr, hx⟩)) bl.1 last hx
      exact absurd rfl (nd2.2.2 _ (List.mem_flatten.mpr ⟨r, hr, q⟩) _ (List.getElem_mem (h := (show L.length - 1 < L.length by omega))))
    · obtain ⟨j, hj, ej⟩ := List.getElem_of_mem z
      by_cases j0 : j = 0
      · subst j0
        have hd := c.hd
        rw [List.getElem?_append_left hl, List.getElem?_eq_getElem hl, ej] at hd
        exact Option.some.inj hd
      · have st := c.st (j - 1) L[j - 1] (List.getElem?_eq_getElem (by omega))
        rw [show j - 1 + 1 = j by omega, List.getElem?_append_left hj, List.getElem?_eq_getElem hj, ej] at st
        have k := hp.inj st last
        have b2 := hb _ (List.getElem_mem (h := (show j - 1 < L.length by omega)))
        have k2 : L[j - 1] = L[L.length - 1] := by omega
        have := (List.getElem_inj nd2.2.1).mp k2
        omega
  refine ⟨hl, fun i x hx => ?_⟩
  rw [c.st i x hx]
  have hi := (List.getElem?_eq_some_iff.mp hx).1
  by_cases z : i + 1 < L.length
  · rw [List.getElem?_append_left z, Nat.mod_eq_of_lt z]
  · rw [show i + 1 = L.length by omega, Nat.mod_self, List.getElem?_append_right (Nat.le_refl _), Nat.sub_self, e]
    have hd := c.hd
    rw [List.getElem?_append_left hl] at hd
    rw [hd]
    rfl
theorem Cyc.more {n : Nat} {p : List Int} {R : List (List Int)} {L : List Int} (C : Cyc n p R) (T : Turn p L) (nd : (R.flatten ++ L).Nodup) (hb : ∀ x ∈ L, 0 ≤ x ∧ x < n) : Cyc n p (R ++ [L]) := by
  have e : (R ++ [L]).flatten = R.flatten ++ L := by rw [List.flatten_append, List.flatten_cons, List.flatten_nil, List.append_nil]
  refine ⟨fun r hr => ?_, by rw [e]; exact nd, fun x hx => ?_⟩
  · rcases List.mem_append.mp hr with z | z
    · exact C.tn r z
    · rw [List.mem_singleton.mp z]; exact T
  · rw [e] at hx
    rcases List.mem_append.mp hx with z | z
    · exact C.bd x z
    · exact hb x z
theorem Cyc.nil {n : Nat} {p : List Int} : Cyc n p [] := ⟨(fun _ h => by cases h), List.nodup_nil, (fun _ h => by cases h)⟩
end KL
/-! powers and cycles: a power of a great base; promises -/
namespace KL
open PySem PySem.Spec PyProof.Rows L2 GA GxR
def CPowB (i j : Int) : Prop := 0 ≤ j ∧ (Builtin.Int.intBits i : Int) * j ≤ 2 ^ 27
theorem op_powB {X : Cx} : OpR X (binaryOp .Pow) (rI CPowB fun i j => .int (i ^ j.toNat)) := opI fun _ _ _ _ _ _ _ hc q => pow_int hc.1 hc.2 q
theorem dpT_ints {K : PySem.W.Frag} {H : Hp} {a : Addr} {ns : List Int} (h : H a = some (.tup (ns.map V.int))) : Dp K H (.ref a) (.tuple (ns.map PyData.int)) := .tup (.inl (.inl h)) (dp_all ns)
theorem shapedT_ints (ns : List Int) : SeqAt.shaped (.tuple (ns.map PyData.int)) = true := PySem.W.ke_shaped_ints ns
theorem eqvT_ints (ns ms : List Int) : PyData.eqv (.tuple (ns.map PyData.int)) (.tuple (ms.map PyData.int)) = decide (ns = ms) := by
  rw [← PySem.W.ked_eqvAll, PyData.eqv]
/-- the rows as tuples -/
structure RowsAt (H : Hp) (As : List Addr) (R : List (List Int)) : Prop where
  len : As.length = R.length
  at_ : ∀ (i : Nat) (r : List Int), R[i]? = some r → ∃ a : Addr, As[i]? = some a ∧ H a = some (.tup (r.map V.int))
theorem RowsAt.ex {H H' : Hp} {As : List Addr} {R : List (List Int)} (x : Ex H H') (h : RowsAt H As R) : RowsAt H' As R :=
  ⟨h.len, fun i r e => let ⟨a, e1, e2⟩ := h.at_ i r e; ⟨a, e1, x.st _ _ e2 trivial⟩⟩
theorem RowsAt.upd {H : Hp} {As : List Addr} {R : List (List Int)} {p : Addr} {o u : HO} (h : RowsAt H As R) (e : H p = some u) (n : ∀ xs, u ≠ .tup xs) : RowsAt (upd H p o) As R :=
  ⟨h.len, fun i r k => let ⟨a, e1, e2⟩ := h.at_ i r k; ⟨a, e1, by
    rw [upd_ne (fun z => by rw [z, e] at e2; exact n _ (Option.some.inj e2))]
    exact e2⟩⟩
theorem RowsAt.new {H : Hp} {As : List Addr} {R : List (List Int)} {p : Addr} {o : HO} (h : RowsAt H As R) (e : H p = none) : RowsAt (L2.upd H p o) As R := h.ex (Ex.new e)
theorem RowsAt.nil {H : Hp} : RowsAt H [] [] := ⟨rfl, fun i r h => by cases i <;> cases h⟩
theorem RowsAt.more {H : Hp} {As : List Addr} {R : List (List Int)} {a : Addr} {L : List Int} (h : RowsAt H As R) (e : H a = some (.tup (L.map V.int))) : RowsAt H (As ++ [a]) (R ++ [L]) := by
  refine ⟨by rw [List.length_append, List.length_append, h.len]; rfl, fun i r k => ?_⟩
  by_cases hi : i < R.length
  · rw [List.getElem?_append_left hi] at k
    obtain ⟨b, e1, e2⟩ := h.at_ i r k
    exact ⟨b, by rw [List.getElem?_append_left (by rw [h.len]; exact hi)]; exact e1, e2⟩
  · have hl := (List.getElem?_eq_some_iff.mp k).1
    rw [List.length_append] at hl
    have hl : i < R.length + 1 := hl
    have ei : i = R.length := by omega
    subst ei
    rw [List.getElem?_append_right (Nat.le_refl _), Nat.sub_self] at k
    cases k
    exact ⟨a, by rw [List.getElem?_append_right (by rw [h.len]; exact Nat.le_refl _), h.len, Nat.sub_self]; rfl, e⟩
theorem refs_norow {As : List Addr} : ¬ RowO (.lst (As.map V.ref)) := fun ⟨s, i, j, k, e⟩ => by
  have e1 : As.map V.ref = [.ref s, .int i, .int j, .int k] := HO.lst.inj e
  match As, e1 with
  | _ :: _ :: _, e1 => cases (List.cons.inj (List.cons.inj e1).2).1
theorem kp {H : Hp} {a p : Addr} {o u v : HO} (h : H a = some o) (e : H p = some u) (n : o ≠ u) : upd H p v a = some o := by
  rw [upd_ne (fun z => by rw [z, e] at h; exact n (Option.some.inj h).symm)]
  exact h
/-- the cycles, each from its least point, in the order of these -/
structure Full (n : Nat) (p : List Int) (R : List (List Int)) : Prop where
  cyc : Cyc n p R
  all : ∀ x : Int, 0 ≤ x → x < n → x ∈ R.flatten
  mn : ∀ r ∈ R, ∀ x ∈ r, r.getD 0 0 ≤ x
  so : (R.map fun r => r.getD 0 0).Pairwise (· < ·)
def spFullCycles : Sp := fun vs H Q _ => ∃ (a : Addr) (n : Nat) (p : List Int), vs = [.ref a] ∧ Pm H a n p ∧ n ≤ 12 ∧ ∀ c As R H', Ex H H' → H' c = some (.lst (As.map V.ref)) → RowsAt H' As R → Full n p R → Q (.ref c) H'
def spPower (K : PySem.W.Frag) : Sp := fun vs H Q _ => ∃ (a : Addr) (n : Nat) (p : List Int) (e : Int), vs = [.ref a, .int e] ∧ Pm H a n p ∧ 1 ≤ n ∧ n ≤ 12 ∧ TabG H (PP K) ∧
  ∀ c H' q, Ex H H' → (∃ N, 1 ≤ N ∧ N ≤ 60 ∧ pwL n p N = unitL n) → (∀ N : Nat, 1 ≤ N → pwL n p N = unitL n → q = pwL n p (e % (N : Int)).toNat) → Pm H' c n q → Q (.ref c) H'
def spPick (K : PySem.W.Frag) : Sp := fun vs H Q _ => ∃ (r s t : Addr) (ns ts : List Int), vs = [.ref r, .ref t] ∧ RowAt H r s ∧ SqL K H s (ns.map V.int) ∧ H t = some (.lst (ts.map V.int)) ∧ 1 ≤ ts.length ∧ ts.length ≤ 1000 ∧ ∀ (i : Int) H', Ex H H' → i ∈ ts → Q (.int i) H'
def spExponent (K : PySem.W.Frag) : Sp := fun vs H Q _ => ∃ (r s : Addr) (ns : List Int) (k : Nat), vs = [.ref r, .ref s, .int k] ∧ RowAt H r s ∧ SqL K H s (ns.map V.int) ∧ ∀ (i : Int) H', Ex H H' → Q (.int i) H'
def spLawMul : Sp := fun vs H Q _ => ∃ (a b : Addr) (n : Nat) (p q : List Int), vs = [.ref a, .ref b] ∧ Pm H a n p ∧ Pm H b n q ∧ n ≤ 1000 ∧ ∀ c H', Ex H H' → Pm H' c n (mulL p q) → Q (.ref c) H'
def spSlow : Sp := fun vs H Q _ => ∃ (a : Addr) (n k : Nat) (p : List Int), vs = [.ref a, .int k] ∧ Pm H a n p ∧ n ≤ 1000 ∧ k ≤ 1000 ∧ ∀ c H', Ex H H' → Pm H' c n (pwL n p k) → Q (.ref c) H'
def spOrder : Sp := fun vs H Q _ => ∃ (a : Addr) (n : Nat) (p : List Int), vs = [.ref a] ∧ Pm H a n p ∧ n ≤ 1000 ∧ ∀ (o : Nat) H', Ex H H' → 1 ≤ o → o ≤ 61 → (pwL n p o = unitL n ∨ ∀ N, 1 ≤ N → N ≤ 60 → pwL n p N ≠ unitL n) → Q (.int o) H'
/-- where full_cycles stands: the rows so far, what was seen -/
structure FC (w : World) (H H1 : Hp) (l sA : Addr) (n : Nat) (p : List Int) (As : List Addr) (R : List (List Int)) (S : List Int) : Prop where
  ex : Ex H H1
  hl : H1 l = some (.lst (As.map V.ref))
  rows : RowsAt H1 As R
  seen : H1 sA = some (SetO w sA (fun k => decide (k ∈ S)) S.length)
  cyc : Cyc n p R
  nd : S.Nodup
  bd : ∀ x ∈ S, 0 ≤ x ∧ x < n
  mn : ∀ r ∈ R, ∀ x ∈ r, r.getD 0 0 ≤ x
  so : (R.map fun r => r.getD 0 0).Pairwise (· < ·)
theorem bd_len {S : List Int} {n : Nat} (nd : S.Nodup) (bd : ∀ x ∈ S, 0 ≤ x ∧ x < (n : Int)) : S.length ≤ n := by
  have h := len_le_sub (ns := unitL n) nd fun x hx => by
    have b := bd x hx
    exact List.mem_map.mpr ⟨x.toNat, List.mem_range.mpr (by omega), by show ((x.toNat : Nat) : Int) = x; omega⟩
  unfold unitL at h
  rw [List.length_map, List.length_range] at h
  exact h
theorem FC.new {w : World} {H H1 : Hp} {l sA : Addr} {n : Nat} {p : List Int} {As : List Addr} {R : List (List Int)} {S : List Int} {q : Addr} {o : HO} (F : FC w H H1 l sA n p As R S) (e : H1 q = none) : FC w H (upd H1 q o) l sA n p As R S :=
  ⟨F.ex.trans (Ex.new e), by rw [upd_ne (ne_of_none F.hl e)]; exact F.hl, F.rows.new e, by rw [upd_ne (ne_of_none F.seen e)]; exact F.seen, F.cyc, F.nd, F.bd, F.mn, F.so⟩
theorem nd_more {S : List Int} {x : Int} (nd : S.Nodup) (h : x ∉ S) : (S ++ [x]).Nodup := List.nodup_append.mpr ⟨nd, List.nodup_cons.mpr ⟨(fun z => by cases z), List.nodup_nil⟩, fun a ha b hb e => by
  rw [List.mem_singleton.mp hb] at e
  exact h (e ▸ ha)⟩
theorem bd_more {S : List Int} {x : Int} {n : Nat} (bd : ∀ x ∈ S, 0 ≤ x ∧ x < (n : Int)) (h0 : 0 ≤ x) (h1 : x < n) : ∀ y ∈ S ++ [x], 0 ≤ y ∧ y < (n : Int) := fun y hy => by
  rcases List.mem_append.mp hy with z | z
  · exact bd y z
  · rw [List.mem_singleton.mp z]; exact ⟨h0, h1⟩
theorem rows_le {p : List Int} : ∀ {R : List (List Int)}, (∀ r ∈ R, Turn p r) → R.length ≤ R.flatten.length
  | [], _ => Nat.le_refl _
  | r :: R, h => by
    have h1 := (h r (List.mem_cons_self ..)).ne
    have h2 := rows_le fun x hx => h x (List.mem_cons_of_mem _ hx)
    rw [List.flatten_cons, List.length_cons, List.length_append]
    omega
theorem setO_more {w : World} {a : Addr} {S : List Int} {k : Int} (hk : k ∉ S) : SetO w a (fun j => decide (j ∈ S) || decide (j = k)) (if decide (k ∈ S) = true then S.length else S.length + 1) = SetO w a (fun j => decide (j ∈ S ++ [k])) (S ++ [k]).length := by
  have e1 : (fun j => decide (j ∈ S) || decide (j = k)) = fun j => decide (j ∈ S ++ [k]) := by
    funext j
    rw [Bool.eq_iff_iff]
    simp
  rw [e1, if_neg (by rw [decide_eq_true_iff]; exact hk), List.length_append]
  rfl
end KL
/-! orders, signs, supports: rules and promises -/
namespace KL
open PySem PySem.Spec PyProof.Rows L2 GA GxR
def rLcm : List V → Hp → VK → Prop := fun vs H Q => ∃ a b : Nat, vs = [V.int a, V.int b] ∧ a < 2 ^ 64 ∧ b < 2 ^ 64 ∧ Q (.int ((Nat.lcm a b : Nat) : Int)) H
theorem cr_lcm {X : Cx} : CallR X (.builtin "math.lcm") rLcm := by
  intro pins s σ H vs us Q I r h
  obtain ⟨a, b, rfl, ha, hb, q⟩ := h
  obtain ⟨t, u, rfl⟩ := Vals.int2 r
  exact PySem.W.mc_lcm (by show a < 2 ^ 64; exact ha) (by show b < 2 ^ 64; exact hb) fun _ => ⟨.int _, H, I.tok _, ⟨_, rfl⟩, q⟩
def lensL (R : List (List Int)) : List Int := R.map fun r => (r.length : Int)
def spLens : Sp := fun vs H Q _ => ∃ (a : Addr) (n : Nat) (p : List Int), vs = [.ref a] ∧ Pm H a n p ∧ n ≤ 12 ∧ ∀ (c : Addr) (H' : Hp) (R : List (List Int)) (ns : List Int), Ex H H' → Full n p R → ns.Perm (lensL R) → ns.Pairwise (· ≤ ·) → H' c = some (.tup (ns.map V.int)) → Q (.ref c) H'
def spCycles (K : PySem.W.Frag) : Sp := fun vs H Q _ => ∃ (a : Addr) (n : Nat) (p : List Int), vs = [.ref a] ∧ Pm H a n p ∧ 1 ≤ n ∧ n ≤ 12 ∧ TabG H (PP K) ∧ ∀ (c : Addr) (H' : Hp) (R : List (List Int)) (As : List Addr), Ex H H' → Full n p R → RowsAt H' As (R.filter fun r => decide (1 < r.length)) → H' c = some (.tup (As.map V.ref)) → Q (.ref c) H'
def spCycleLengths (K : PySem.W.Frag) : Sp := fun vs H Q _ => ∃ (a : Addr) (n : Nat) (p : List Int), vs = [.ref a] ∧ Pm H a n p ∧ 1 ≤ n ∧ n ≤ 12 ∧ TabG H (PP K) ∧ ∀ (c : Addr) (H' : Hp) (R : List (List Int)) (ns : List Int), Ex H H' → Full n p R → ns.Perm (lensL R) → ns.Pairwise (· ≤ ·) → H' c = some (.tup (ns.map V.int)) → Q (.ref c) H'
def spPeriod : Sp := fun vs H Q _ => ∃ (a : Addr) (n : Nat) (p : List Int), vs = [.ref a] ∧ Pm H a n p ∧ n ≤ 12 ∧ ∀ (o : Nat) (H' : Hp) (R : List (List Int)), Ex H H' → Full n p R → 1 ≤ o → (∀ r ∈ R, r.length ∣ o) → (∀ m, (∀ r ∈ R, r.length ∣ m) → o ∣ m) → Q (.int o) H'
def spOrd (K : PySem.W.Frag) : Sp := fun vs H Q _ => ∃ (a : Addr) (n : Nat) (p : List Int), vs = [.ref a] ∧ Pm H a n p ∧ 1 ≤ n ∧ n ≤ 12 ∧ TabG H (PP K) ∧
  ∀ (o : Nat) (H' : Hp) (R : List (List Int)), Ex H H' → Full n p R → 1 ≤ o → (∀ r ∈ R, r.length ∣ o) → (∀ m, (∀ r ∈ R, r.length ∣ m) → o ∣ m) → Q (.int o) H'
def spSign (K : PySem.W.Frag) : Sp := fun vs H Q _ => ∃ (a : Addr) (n : Nat) (p : List Int), vs = [.ref a] ∧ Pm H a n p ∧ 1 ≤ n ∧ n ≤ 12 ∧ TabG H (PP K) ∧ ∀ (H' : Hp) (R : List (List Int)), Ex H H' → Full n p R → Q (.int (if (n - R.length) % 2 = 0 then 1 else -1)) H'
def suppI (p : List Int) (i : Nat) : List Int := ((List.range i).map Int.ofNat).filter fun i => decide (i ≠ p.getD i.toNat 0)
theorem suppI_succ {p : List Int} {i : Nat} : suppI p (i + 1) = suppI p i ++ if (i : Int) ≠ p.getD i 0 then [(i : Int)] else [] := by
  unfold suppI
  rw [List.range_succ, List.map_append, List.filter_append]
  congr 1
  show List.filter _ [Int.ofNat i] = _
  by_cases h : (i : Int) ≠ p.getD i 0
  · rw [if_pos h, List.filter_cons_of_pos (by rw [decide_eq_true_iff]; exact h), List.filter_nil]
    rfl
  · rw [if_neg h, List.filter_cons_of_neg (by rw [decide_eq_true_iff]; exact h), List.filter_nil]
theorem suppI_len {p : List Int} {i : Nat} : (suppI p i).length ≤ i := by
  unfold suppI
  refine Nat.le_trans (List.length_filter_le ..) ?_
  rw [List.length_map, List.length_range]
  exact Nat.le_refl _
theorem Chain.back {n : Nat} {p : List Int} {first pt : Int} {L : List Int} (hp : IsPm n p) (c : Chain p first L pt) (nd : L.Nodup) (hb : ∀ x ∈ L, 0 ≤ x ∧ x < n) (hm : pt ∈ L) : pt = first := by
  obtain ⟨j, hj, ej⟩ := List.getElem_of_mem hm
  have hl : 0 < L.length := by omega
  have last := c.st (L.length - 1) L[L.length - 1] (List.getElem?_eq_getElem (by omega))
  rw [show L.length - 1 + 1 = L.length by omega, List.getElem?_append_right (Nat.le_refl _), Nat.sub_self] at last
  have last : p[(L[L.length - 1]).toNat]? = some pt := last
  have bl := hb _ (List.getElem_mem (h := (show L.length - 1 < L.length by omega)))
  by_cases j0 : j = 0
  · subst j0
    have hd := c.hd
    rw [List.getElem?_append_left hl, List.getElem?_eq_getElem hl, ej] at hd
    exact Option.some.inj hd
  · have st := c.st (j - 1) L[j - 1] (List.getElem?_eq_getElem (by omega))
    rw [show j - 1 + 1 = j by omega, List.getElem?_append_left hj, List.getElem?_eq_getElem hj, ej] at st
    have k := hp.inj st last
    have b2 := hb _ (List.getElem_mem (h := (show j - 1 < L.length by omega)))
    have k2 : L[j - 1] = L[L.length - 1] := by omega
    have := (List.getElem_inj nd).mp k2
    omega
theorem Chain.turn {p : List Int} {first : Int} {L : List Int} (c : Chain p first L first) (hl : 0 < L.length) : Turn p L := by
  refine ⟨hl, fun i x hx => ?_⟩
  rw [c.st i x hx]
  have hi := (List.getElem?_eq_some_iff.mp hx).1
  by_cases z : i + 1 < L.length
  · rw [List.getElem?_append_left z, Nat.mod_eq_of_lt z]
  · rw [show i + 1 = L.length by omega, Nat.mod_self, List.getElem?_append_right (Nat.le_refl _), Nat.sub_self]
    have hd := c.hd
    rw [List.getElem?_append_left hl] at hd
    rw [hd]
    rfl
def spRing : Sp := fun vs H Q _ => ∃ (a : Addr) (n : Nat) (p : List Int) (x : Int), vs = [.ref a, .int x] ∧ Pm H a n p ∧ n ≤ 12 ∧ 0 ≤ x ∧ x < n ∧ ∀ (c : Addr) (H' : Hp) (r : List Int), Ex H H' → Turn p r → r.Nodup → r[0]? = some x → (∀ y ∈ r, 0 ≤ y ∧ y < n) → H' c = some (.tup (r.map V.int)) → Q (.ref c) H'
def spLeast : Sp := fun vs H Q _ => ∃ (a : Addr) (n : Nat) (p : List Int), vs = [.ref a] ∧ Pm H a n p ∧ n ≤ 1000 ∧ ∀ (o : Nat) (H' : Hp), Ex H H' → ((1 ≤ o ∧ o ≤ 60 ∧ pwL n p o = unitL n ∧ ∀ N, 1 ≤ N → N < o → pwL n p N ≠ unitL n) ∨ ∀ N, 1 ≤ N → N ≤ 60 → pwL n p N ≠ unitL n) → Q (.int o) H'
def spBlocks (K : PySem.W.Frag) : Sp := fun vs H Q _ => ∃ (r s : Addr) (ns : List Int), vs = [.ref r] ∧ RowAt H r s ∧ SqL K H s (ns.map V.int) ∧ ∀ (c : Addr) (H' : Hp) (n : Nat) (p : List Int), Ex H H' → 1 ≤ n → n ≤ 12 → Pm H' c n p → Q (.ref c) H'
def blockI (m s i : Nat) : List Int := (List.range i).map fun k => ((m + (k + 1) % s : Nat) : Int)
theorem block_pm {m s : Nat} {L : List Int} (h : IsPm m L) (hs : 1 ≤ s) : IsPm (m + s) (L ++ blockI m s s) := by
  refine ⟨by unfold blockI; rw [List.length_append, h.len, List.length_map, List.length_range], ?_, fun x hx => ?_⟩
  · rw [List.nodup_append]
    refine ⟨h.nd, ?_, fun a ha b hb e => ?_⟩
    · unfold blockI
      rw [List.nodup_iff_pairwise_ne, List.pairwise_iff_getElem]
      intro a b ha hb hab e
      rw [List.length_map, List.length_range] at ha hb
      rw [List.getElem_map, List.getElem_map, List.getElem_range, List.getElem_range] at e
      have e : (a + 1) % s = (b + 1) % s := by omega
      by_cases z : b + 1 = s
      · rw [z, Nat.mod_self, Nat.mod_eq_of_lt (by omega)] at e
        omega
      · rw [Nat.mod_eq_of_lt (show b + 1 < s by omega), Nat.mod_eq_of_lt (show a + 1 < s by omega)] at e
        omega
    · obtain ⟨k, _, rfl⟩ := List.mem_map.mp hb
      have := h.bd a ha
      omega
  · rcases List.mem_append.mp hx with z | z
    · have := h.bd x z
      omega
    · obtain ⟨k, _, rfl⟩ := List.mem_map.mp z
      have := Nat.mod_lt (k + 1) (show s > 0 by omega)
      omega
def spSupport (K : PySem.W.Frag) : Sp := fun vs H Q _ => ∃ (a : Addr) (n : Nat) (p : List Int), vs = [.ref a] ∧ Pm H a n p ∧ 1 ≤ n ∧ n ≤ 12 ∧ TabG H (PP K) ∧ ∀ c H', Ex H H' → H' c = some (.tup ((suppI p n).map V.int)) → Q (.ref c) H'
def spLawConj : Sp := fun vs H Q _ => ∃ (a b : Addr) (n : Nat) (p g : List Int), vs = [.ref a, .ref b] ∧ Pm H a n p ∧ Pm H b n g ∧ n ≤ 1000 ∧ ∀ (c : Addr) (H' : Hp) (q : List Int), Ex H H' → Pm H' c n q → q = mulL (mulL (invL g) p) g → Q (.ref c) H'
end KL
/-! signs: inversions against cycles -/
namespace KL
open PySem PySem.Spec PyProof.Rows L2 GA GxR
def cntLt (z : Int) (l : List Int) : Nat := l.countP fun y => decide (y < z)
def cntGt (z : Int) (l : List Int) : Nat := l.countP fun y => decide (z < y)
def invN : List Int → Nat
  | [] => 0
  | x :: l => cntLt x l + invN l
theorem invN_snoc (x : Int) : ∀ l : List Int, invN (l ++ [x]) = invN l + cntGt x l
  | [] => rfl
  | z :: l => by
    show cntLt z (l ++ [x]) + invN (l ++ [x]) = cntLt z l + invN l + cntGt x (z :: l)
    rw [invN_snoc x l]
    unfold cntLt cntGt
    rw [List.countP_append, List.countP_cons, List.countP_cons, List.countP_nil]
    omega
theorem inv_adj {x y : Int} (h : x ≠ y) (b : List Int) : ∀ a : List Int, (invN (a ++ x :: y :: b) + 1) % 2 = invN (a ++ y :: x :: b) % 2
  | [] => by
    show (cntLt x (y :: b) + (cntLt y b + invN b) + 1) % 2 = (cntLt y (x :: b) + (cntLt x b + invN b)) % 2
    unfold cntLt
    rw [List.countP_cons, List.countP_cons]
    by_cases z : x < y
    · rw [if_neg (by rw [decide_eq_true_iff]; omega), if_pos (by rw [decide_eq_true_iff]; omega)]
      omega
    · rw [if_pos (by rw [decide_eq_true_iff]; omega), if_neg (by rw [decide_eq_true_iff]; omega)]
      omega
  | c :: a => by
    have ih := inv_adj h b a
    have e : cntLt c (a ++ x :: y :: b) = cntLt c (a ++ y :: x :: b) := by
      unfold cntLt
      simp only [List.countP_append, List.countP_cons]
      omega
    show (cntLt c (a ++ x :: y :: b) + invN (a ++ x :: y :: b) + 1) % 2 = (cntLt c (a ++ y :: x :: b) + invN (a ++ y :: x :: b)) % 2
    omega
theorem inv_far {x y : Int} (h : x ≠ y) (b : List Int) : ∀ m a : List Int, (∀ z ∈ m, x ≠ z ∧ y ≠ z) → (invN (a ++ x :: (m ++ y :: b)) + 1) % 2 = invN (a ++ y :: (m ++ x :: b)) % 2
  | [], a, _ => inv_adj h b a
  | z :: m, a, hz => by
    have k := hz z (List.mem_cons_self ..)
    have e1 := inv_adj k.1 (m ++ y :: b) a
    have e2 := inv_far h b m (a ++ [z]) fun w hw => hz w (List.mem_cons_of_mem _ hw)
    have e3 := inv_adj (Ne.symm k.2) (m ++ x :: b) a
    have a1 : ∀ l : List Int, a ++ [z] ++ l = a ++ z :: l := fun l => by rw [List.append_assoc]; rfl
    rw [a1, a1] at e2
    show (invN (a ++ x :: z :: (m ++ y :: b)) + 1) % 2 = invN (a ++ y :: z :: (m ++ x :: b)) % 2
    omega
theorem inv_swap {l : List Int} {i j : Nat} {x y : Int} (nd : l.Nodup) (hij : i < j) (hi : l[i]? = some x) (hj : l[j]? = some y) : (invN l + 1) % 2 = invN ((l.set i y).set j x) % 2 := by
  obtain ⟨li, ei⟩ := List.getElem?_eq_some_iff.mp hi
  obtain ⟨lj, ej⟩ := List.getElem?_eq_some_iff.mp hj
  have d1 : l = l.take i ++ x :: l.drop (i + 1) := by rw [← ei, ← List.drop_eq_getElem_cons li, List.take_append_drop]
  have h2 : (l.drop (i + 1))[j - i - 1]? = some y := by rw [List.getElem?_drop, ← hj]; congr 1; omega
  obtain ⟨l2, e2⟩ := List.getElem?_eq_some_iff.mp h2
  generalize hA : l.take i = A at d1
  generalize hD : l.drop (i + 1) = D at d1 h2 l2 e2
  have d2 : D = D.take (j - i - 1) ++ y :: D.drop (j - i - 1 + 1) := by rw [← e2, ← List.drop_eq_getElem_cons l2, List.take_append_drop]
  generalize hM : D.take (j - i - 1) = M at d2
  generalize D.drop (j - i - 1 + 1) = B at d2
  have lA : A.length = i := by rw [← hA, List.length_take]; omega
  have lM : M.length = j - i - 1 := by rw [← hM, List.length_take]; omega
  rw [d2] at d1
  subst d1
  have nd1 := List.nodup_append.mp nd
  have nd2 := List.nodup_cons.mp nd1.2.1
  have nd3 := List.nodup_append.mp nd2.2
  have xy : x ≠ y := fun e => nd2.1 (List.mem_append_right _ (by rw [e]; exact List.mem_cons_self ..))
  have es : ((A ++ x :: (M ++ y :: B)).set i y).set j x = A ++ y :: (M ++ x :: B) := by
    rw [List.set_append_right i y (by omega), lA, Nat.sub_self, List.set_cons_zero, List.set_append_right j x (by omega), lA, show j - i = (j - i - 1) + 1 by omega, List.set_cons_succ, List.set_append_right _ x (by omega), lM, Nat.sub_self, List.set_cons_zero]
  rw [es]
  exact inv_far xy B M A fun z hz => ⟨fun e => nd2.1 (List.mem_append_left _ (by rw [e]; exact hz)), fun e => nd3.2.2 z hz y (List.mem_cons_self ..) e.symm⟩
theorem inv_swap2 {l : List Int} {i j : Nat} {x y : Int} (nd : l.Nodup) (hij : i ≠ j) (hi : l[i]? = some x) (hj : l[j]? = some y) : (invN l + 1) % 2 = invN ((l.set i y).set j x) % 2 := by
  by_cases z : i < j
  · exact inv_swap nd z hi hj
  · have := inv_swap nd (show j < i by omega) hj hi
    rwa [List.set_comm _ _ hij.symm] at this
theorem inv_unit : ∀ n : Nat, invN (unitL n) = 0
  | 0 => rfl
  | n + 1 => by
    have e : unitL (n + 1) = unitL n ++ [(n : Int)] := by unfold unitL; rw [List.range_succ, List.map_append]; rfl
    rw [e, invN_snoc, inv_unit n]
    unfold cntGt
    rw [List.countP_eq_zero.mpr]
    intro x hx
    have := (unit_pm n).bd x hx
    rw [decide_eq_true_iff]
    omega
theorem parity {n : Nat} : ∀ (k : Nat) (p : List Int) (R : List (List Int)), IsPm n p → Cyc n p R → (∀ x : Int, 0 ≤ x → x < n → x ∈ R.flatten) → n - R.length = k → invN p % 2 = k % 2
  | k, p, R, hp, C, all, hk => by
    by_cases h1 : ∀ r ∈ R, r.length = 1
    · have ep : p = unitL n := by
        refine pm_ext (n := n) hp.len (unit_pm n).len fun j hj => ?_
        obtain ⟨r, hr, hx⟩ := List.mem_flatten.mp (all (j : Int) (by omega) (by omega))
        obtain ⟨i, hi, e⟩ := List.getElem_of_mem hx
        have l1 := h1 r hr
        have i0 : i = 0 := by omega
        subst i0
        have h0 : r[0]? = some (j : Int) := by rw [List.getElem?_eq_getElem hi, e]
        have st := (C.tn r hr).st 0 _ h0
        rw [l1, show (0 + 1) % 1 = 0 from rfl, h0, show ((j : Nat) : Int).toNat = j by omega] at st
        rw [st]
        exact (unitL_get hj).symm
      have el : R.length = R.flatten.length := by
        clear hk
        have : ∀ R : List (List Int), (∀ r ∈ R, r.length = 1) → R.length = R.flatten.length := fun R => by
          induction R with
          | nil => intro _; rfl
          | cons r R ih =>
            intro h
            rw [List.length_cons, List.flatten_cons, List.length_append, ← ih fun r hr => h r (List.mem_cons_of_mem _ hr), h r (List.mem_cons_self ..)]
            omega
        exact this R h1
      have en : n ≤ R.flatten.length := by
        have h := len_le_sub (ks := unitL n) (ns := R.flatten) (unit_pm n).nd fun x hx => all x ((unit_pm n).bd x hx).1 ((unit_pm n).bd x hx).2
        have hl : (unitL n).length = n := (unit_pm n).len
        rwa [hl] at h
      rw [ep, inv_unit]
      omega
    · obtain ⟨r, hr, hl⟩ : ∃ r ∈ R, r.length ≠ 1 := by
        apply Classical.byContradiction
        intro z
        exact h1 fun r hr => Classical.byContradiction fun q => z ⟨r, hr, q⟩
      have T := C.tn r hr
      have l0 := T.ne
      obtain ⟨R1, R2, eR⟩ := List.append_of_mem hr
      -- r = s ++ [a, b]
      obtain ⟨s, a, b, er⟩ : ∃ s a b, r = s ++ [a, b] := by
        have d1 : r = r.take (r.length - 2) ++ r.drop (r.length - 2) := (List.take_append_drop ..).symm
        have l2 : (r.drop (r.length - 2)).length = 2 := by rw [List.length_drop]; omega
        match hd : r.drop (r.length - 2), l2 with
        | [a, b], _ => exact ⟨_, a, b, by rw [← hd]; exact d1⟩
      subst er
      have ls : (s ++ [a, b]).length = s.length + 2 := by rw [List.length_append]; rfl
      have ga : (s ++ [a, b])[s.length]? = some a := by rw [List.getElem?_append_right (Nat.le_refl _), Nat.sub_self]; rfl
      have gb : (s ++ [a, b])[s.length + 1]? = some b := by rw [List.getElem?_append_right (by omega), show s.length + 1 - s.length = 1 by omega]; rfl
      obtain ⟨f, gf⟩ : ∃ f, (s ++ [a, b])[0]? = some f := ⟨_, List.getElem?_eq_getElem (by omega)⟩
      have pa : p[a.toNat]? = some b := by
        rw [T.st _ _ ga, ls, Nat.mod_eq_of_lt (by omega), gb]
      have pb : p[b.toNat]? = some f := by
        rw [T.st _ _ gb, ls, Nat.mod_self, gf]
      have mem : ∀ x ∈ s ++ [a, b], x ∈ R.flatten := fun x hx => List.mem_flatten.mpr ⟨_, hr, hx⟩
      have ba := C.bd a (mem a (List.mem_of_getElem? ga))
      have bb := C.bd b (mem b (List.mem_of_getElem? gb))
      have ndr := nodup_row C.nd _ hr
      have ab : a ≠ b := fun e => by
        obtain ⟨h3, e3⟩ := List.getElem?_eq_some_iff.mp ga
        obtain ⟨h4, e4⟩ := List.getElem?_eq_some_iff.mp gb
        have := (List.getElem_inj ndr).mp (e3.trans (e.trans e4.symm))
        omega
      have abn : a.toNat ≠ b.toNat := by omega
      have hq := hp.swap pa pb
      have flip := inv_swap2 hp.nd abn pa pb
      have lp := hp.len
      generalize hqe : (p.set a.toNat f).set b.toNat b = q at hq flip
      have qa : q[a.toNat]? = some f := by
        rw [← hqe, List.getElem?_set_ne (Ne.symm abn), List.getElem?_set_self (by omega)]
      have qb : q[b.toNat]? = some b := by
        rw [← hqe, List.getElem?_set_self (by rw [List.length_set]; omega)]
      have qo : ∀ x : Int, 0 ≤ x → x ≠ a → x ≠ b → q[x.toNat]? = p[x.toNat]? := fun x x0 xa xb => by
        rw [← hqe, List.getElem?_set_ne (by omega), List.getElem?_set_ne (by omega)]
      have efl : (R1 ++ (s ++ [a]) :: [b] :: R2).flatten = R.flatten := by
        rw [eR]
        simp
      have lR : (R1 ++ (s ++ [a]) :: [b] :: R2).length = R.length + 1 := by
        rw [eR, List.length_append, List.length_append]
        simp only [List.length_cons]
        omega
      have other : ∀ r' ∈ R, r' ≠ s ++ [a, b] → ∀ x ∈ r', x ≠ a ∧ x ≠ b := fun r' hr' hne x hx => by
        have u : x ∉ s ++ [a, b] := fun hx2 => hne (by
          obtain ⟨i, hi, ei⟩ := List.getElem_of_mem hr'
          obtain ⟨j, hj, ej⟩ := List.getElem_of_mem hr
          by_cases z : i = j
          · subst z; rw [← ei, ej]
          · have pw := (List.pairwise_flatten.mp C.nd).2
            rw [List.pairwise_iff_getElem] at pw
            rcases Nat.lt_or_gt_of_ne z with h | h
            · have := pw i j hi hj h
              rw [ei, ej] at this
              exact absurd rfl (this x hx x hx2)
            · have := pw j i hj hi h
              rw [ei, ej] at this
              exact absurd rfl (this x hx2 x hx))
        exact ⟨fun e => u (by rw [e]; exact List.mem_of_getElem? ga), fun e => u (by rw [e]; exact List.mem_of_getElem? gb)⟩
      have keep : ∀ r' ∈ R, r' ≠ s ++ [a, b] → Turn q r' := fun r' hr' hne => ⟨(C.tn r' hr').ne, fun i x hx => by
        have m := List.mem_of_getElem? hx
        have o := other r' hr' hne x m
        rw [qo x (C.bd x (List.mem_flatten.mpr ⟨r', hr', m⟩)).1 o.1 o.2]
        exact (C.tn r' hr').st i x hx⟩
      have nR : R.Nodup ∨ True := .inr trivial
      have uniq : ∀ r' ∈ R1 ++ R2, r' ∈ R ∧ r' ≠ s ++ [a, b] := fun r' hr' => by
        refine ⟨by rw [eR]; rcases List.mem_append.mp hr' with h | h; exact List.mem_append_left _ h; exact List.mem_append_right _ (List.mem_cons_of_mem _ h), fun e => ?_⟩
        have nd := C.nd
        rw [eR, List.flatten_append, List.flatten_cons] at nd
        have n1 := List.nodup_append.mp nd
        have n2 := List.nodup_append.mp n1.2.1
        have ma : a ∈ r' := e ▸ List.mem_of_getElem? ga
        rcases List.mem_append.mp hr' with h | h
        · exact n1.2.2 a (List.mem_flatten.mpr ⟨r', h, ma⟩) a (List.mem_append_left _ (List.mem_of_getElem? ga)) rfl
        · exact n2.2.2 a (List.mem_of_getElem? ga) a (List.mem_flatten.mpr ⟨r', h, ma⟩) rfl
      have C2 : Cyc n q (R1 ++ (s ++ [a]) :: [b] :: R2) := by
        refine ⟨fun r' hr' => ?_, by rw [efl]; exact C.nd, by rw [efl]; exact C.bd⟩
        rcases List.mem_append.mp hr' with h | h
        · have u := uniq r' (List.mem_append_left _ h)
          exact keep r' u.1 u.2
        · rcases List.mem_cons.mp h with h | h
          · rw [h]
            refine ⟨by rw [List.length_append]; exact Nat.succ_pos _, fun i x hx => ?_⟩
            have hi := (List.getElem?_eq_some_iff.mp hx).1
            have lsa : (s ++ [a]).length = s.length + 1 := by rw [List.length_append]; rfl
            rw [lsa] at hi ⊢
            have pre : ∀ i, i < s.length + 1 → (s ++ [a])[i]? = (s ++ [a, b])[i]? := fun i hi => by
              have e : s ++ [a, b] = (s ++ [a]) ++ [b] := by rw [List.append_assoc]; rfl
              rw [e, List.getElem?_append_left (l₁ := s ++ [a]) (by rw [lsa]; exact hi)]
            rw [pre i hi] at hx
            by_cases z : i = s.length
            · subst z
              rw [ga] at hx
              cases hx
              rw [qa, Nat.mod_self, pre 0 (by omega), gf]
            · have m := List.mem_of_getElem? hx
              have xa : x ≠ a := fun e => by
                subst e
                obtain ⟨h3, e3⟩ := List.getElem?_eq_some_iff.mp ga
                obtain ⟨h4, e4⟩ := List.getElem?_eq_some_iff.mp hx
                exact z ((List.getElem_inj ndr).mp (e4.trans e3.symm))
              have xb : x ≠ b := fun e => by
                subst e
                obtain ⟨h3, e3⟩ := List.getElem?_eq_some_iff.mp gb
                obtain ⟨h4, e4⟩ := List.getElem?_eq_some_iff.mp hx
                have := (List.getElem_inj ndr).mp (e4.trans e3.symm)
                omega
              rw [qo x (C.bd x (mem x m)).1 xa xb, T.st i x hx, ls, Nat.mod_eq_of_lt (by omega), Nat.mod_eq_of_lt (by omega), pre _ (by omega)]
          · rcases List.mem_cons.mp h with h | h
            · rw [h]
              refine ⟨Nat.succ_pos _, fun i x hx => ?_⟩
              have hi := (List.getElem?_eq_some_iff.mp hx).1
              have i0 : i = 0 := by
                have hi : i < 1 := hi
                omega
              subst i0
              cases hx
              rw [qb, show (0 + 1) % [b].length = 0 from Nat.mod_self 1]
              rfl
            · have u := uniq r' (List.mem_append_right _ h)
              exact keep r' u.1 u.2
      have le := Nat.le_trans (rows_le C2.tn) (bd_len C2.nd C2.bd)
      rw [lR] at le
      have ih := parity (n - (R.length + 1)) q _ hq C2 (by rw [efl]; exact all) (by rw [lR])
      omega
termination_by k => k
decreasing_by omega
end KL
/-! min of a tuple of ints -/
namespace KL
open PySem PySem.Spec PyProof.Rows L2 GA GxR
theorem min_tupInts {prog : Program} {w : World} {A : Around} {E : Value → Shared → Prop} {s : Shared} {t : Addr} {vs : List Value} {ns : List Int} {Q : Value → Shared → Prop} (calm : A.handled = none) (ht : s.heap.IsTuple t vs.toArray) (vi : IntsAre vs ns) (some_ : 0 < ns.length)
    (q : ∀ (h1 : Heap) (k : Nat) (m : Int) (tm : Tok), (∀ b o, s.heap.get? b = some o → h1.get? b = some o) → m ∈ ns → (∀ y ∈ ns, m ≤ y) → Q (.int m tm) { s with heap := h1, toks := k }) :
    wpAny (model prog w) A (call (.builtin "min") [.ref t]) Q E s := by
  obtain ⟨ps, ep⟩ := IntsAre.allInts vi |>.items
  have en : numsOf (PySem.intItems ps).toList = ns := by
    rw [← ep]
    exact IntsAre.numsOf vi
  rw [nums_intItems] at en
  subst en
  rw [ep] at ht
  have p0 : 0 < ps.size := by simpa using some_
  have tlt : t < s.heap.objs.size := by
    obtain ⟨_, e, _⟩ := ht
    exact Heap.lt_size e
  refine PySem.call_min_walk (wpAny_pyIter_tuple ht ?_)
  refine ⟨_, [_, t], [_], _, _, _, _, rfl, PySem.Walks.tuple (A := A.in1) calm _ t (Nat.ne_of_lt tlt) (PySem.intItems ps), ⟨⟨_, Heap.get?_push_size _ rfl, rfl, rfl⟩, ht.push _⟩, fun c hc => ?_, by simpa [PySem.intItems] using p0, PySem.CmpOf.ints_lt (PySem.numAt ps) (fun _ _ => PySem.intItems_at), fun v h1 k hP hk => ?_⟩
  · show c < (s.heap.push _).objs.size
    rw [Heap.size_push]
    have hc2 : c = s.heap.objs.size ∨ c = t := by simpa using hc
    rcases hc2 with z | z
    · exact z ▸ Nat.lt_succ_self _
    · exact z ▸ Nat.lt_succ_of_lt tlt
  · have hP : (PySem.intItems ps)[_]? = some v := hP
    obtain ⟨tm, rfl⟩ := PySem.intItems_at hP
    obtain ⟨b1, b2⟩ := argBest_lt (PySem.numAt ps) (ps.size - 1)
    have es : (PySem.intItems ps).size = ps.size := by simp [PySem.intItems]
    refine q h1 k _ tm (fun b o e => hk b o (fun hm => ?_) (Heap.get?_push_of_some _ e)) ?_ fun y hy => ?_
    · rw [List.mem_singleton.mp hm] at e
      exact absurd (Heap.lt_size e) (Nat.lt_irrefl _)
    · rw [es, numAt_eq]
      exact PySem.getD_mem (by rw [List.length_map, Array.length_toList]; omega)
    · obtain ⟨j, hj, rfl⟩ := mem_getD hy
      rw [List.length_map, Array.length_toList] at hj
      rw [← numAt_eq, es]
      exact b2 j (by omega)
def rMinT (K : PySem.W.Frag) : List V → Hp → VK → Prop := fun vs H Q => ∃ (a : Addr) (ns : List Int), vs = [V.ref a] ∧ SqT K H a (ns.map V.int) ∧ 0 < ns.length ∧ ∀ m, m ∈ ns → (∀ y ∈ ns, m ≤ y) → Q (.int m) H
theorem cr_minT {X : Cx} {K : PySem.W.Frag} (e : X.K = K) (hc : X.calm = true := by rfl) : CallR X (.builtin "min") (rMinT K) := by
  subst e
  intro pins s σ H vs us Q I r h
  obtain ⟨a, ns, rfl, hs, hne, q⟩ := h
  obtain ⟨its, rv, hl, hz⟩ := I.tuple hs
  rw [Vals.ref1 r]
  exact min_tupInts (I.ok.hd hc) (show s.heap.IsTuple a its.toArray from hl) rv.ints hne fun h1 k m tm kp h1 h2 => ⟨.int m, H, I.kept kp, ⟨_, rfl⟩, q m h1 h2⟩
end KL
/-! rings against cycles -/
namespace KL
open PySem PySem.Spec PyProof.Rows L2 GA GxR
/-- r is the ring of x -/
structure Ring (n : Nat) (p : List Int) (x : Int) (r : List Int) : Prop where
  tn : Turn p r
  nd : r.Nodup
  hd : r[0]? = some x
  bd : ∀ y ∈ r, 0 ≤ y ∧ y < n
theorem ring_dvd {n : Nat} {p : List Int} {x : Int} {r s : List Int} (hp : IsPm n p) (a : Ring n p x r) (b : Ring n p x s) : r.length ∣ s.length := by
  have e1 := a.tn.pw hp a.bd a.hd s.length
  have e2 := b.tn.pw hp b.bd b.hd s.length
  rw [Nat.zero_add] at e1 e2
  rw [Nat.mod_self, b.hd] at e2
  rw [e2, ← a.hd] at e1
  have l := a.tn.ne
  have hm : s.length % r.length < r.length := Nat.mod_lt _ l
  rw [List.getElem?_eq_getElem l, List.getElem?_eq_getElem hm] at e1
  have := (List.getElem_inj a.nd).mp (Option.some.inj e1)
  exact Nat.dvd_of_mod_eq_zero this.symm
theorem ring_same {n : Nat} {p : List Int} {x : Int} {r s : List Int} (hp : IsPm n p) (a : Ring n p x r) (b : Ring n p x s) : r = s := by
  have el := Nat.dvd_antisymm (ring_dvd hp a b) (ring_dvd hp b a)
  refine pm_ext (n := s.length) el rfl fun k hk => ?_
  have e1 := a.tn.pw hp a.bd a.hd k
  have e2 := b.tn.pw hp b.bd b.hd k
  rw [Nat.zero_add, Nat.mod_eq_of_lt (by omega)] at e1 e2
  rw [← e1, e2]
theorem ring_mem {n : Nat} {p : List Int} {x y : Int} {r s : List Int} (hp : IsPm n p) (a : Ring n p x r) (t : Turn p s) (bs : ∀ y ∈ s, 0 ≤ y ∧ y < (n : Int)) (hx : x ∈ s) : y ∈ r ↔ y ∈ s := by
  obtain ⟨i, hi, ei⟩ := List.getElem_of_mem hx
  have gi : s[i]? = some x := by rw [List.getElem?_eq_getElem hi, ei]
  constructor
  · intro hy
    obtain ⟨k, hk, ek⟩ := List.getElem_of_mem hy
    have e1 := a.tn.pw hp a.bd a.hd k
    have e2 := t.pw hp bs gi k
    rw [Nat.zero_add, Nat.mod_eq_of_lt hk, List.getElem?_eq_getElem hk, ek] at e1
    rw [e1] at e2
    exact List.mem_of_getElem? e2.symm
  · intro hy
    obtain ⟨j, hj, ej⟩ := List.getElem_of_mem hy
    have e1 := a.tn.pw hp a.bd a.hd (s.length - i + j)
    have e2 := t.pw hp bs gi (s.length - i + j)
    rw [show i + (s.length - i + j) = j + s.length by omega, Nat.add_mod_right, Nat.mod_eq_of_lt hj, List.getElem?_eq_getElem hj, ej] at e2
    rw [e2] at e1
    exact List.mem_of_getElem? e1.symm
def hd0 (r : List Int) : Int := r.getD 0 0
theorem hd_get {p r : List Int} (t : Turn p r) : r[0]? = some (hd0 r) := by
  have e : r[0]? = some (r[0]'t.ne) := List.getElem?_eq_getElem t.ne
  rw [e]
  unfold hd0
  rw [getD_of e]
theorem Full.ring {n : Nat} {p : List Int} {R : List (List Int)} (F : Full n p R) {r : List Int} (hr : r ∈ R) : Ring n p (hd0 r) r :=
  ⟨F.cyc.tn r hr, nodup_row F.cyc.nd r hr, hd_get (F.cyc.tn r hr), fun y hy => F.cyc.bd y (List.mem_flatten.mpr ⟨r, hr, hy⟩)⟩
theorem filt_step {R : List (List Int)} (so : (R.map hd0).Pairwise (· < ·)) (i : Int) : (R.filter fun r => decide (hd0 r < i + 1)) = (R.filter fun r => decide (hd0 r < i)) ++ R.filter fun r => decide (hd0 r = i) := by
  induction R with
  | nil => rfl
  | cons r R ih =>
    rw [List.map_cons, List.pairwise_cons] at so
    have ih := ih so.2
    by_cases h : hd0 r < i
    · rw [List.filter_cons_of_pos (by rw [decide_eq_true_iff]; omega), List.filter_cons_of_pos (by rw [decide_eq_true_iff]; omega), List.filter_cons_of_neg (by rw [decide_eq_true_iff]; omega), ih]
      rfl
    · have none1 : (R.filter fun r => decide (hd0 r < i)) = [] := List.filter_eq_nil_iff.mpr fun s hs => by
        have := so.1 _ (List.mem_map_of_mem hs)
        rw [decide_eq_true_iff]; omega
      have none2 : (R.filter fun r => decide (hd0 r = i)) = [] := List.filter_eq_nil_iff.mpr fun s hs => by
        have := so.1 _ (List.mem_map_of_mem hs)
        rw [decide_eq_true_iff]; omega
      rw [none1, none2] at ih
      by_cases h2 : hd0 r = i
      · rw [List.filter_cons_of_pos (by rw [decide_eq_true_iff]; omega), List.filter_cons_of_neg (by rw [decide_eq_true_iff]; omega), List.filter_cons_of_pos (by rw [decide_eq_true_iff]; omega), ih, none1, none2]
        rfl
      · rw [List.filter_cons_of_neg (by rw [decide_eq_true_iff]; omega), List.filter_cons_of_neg (by rw [decide_eq_true_iff]; omega), List.filter_cons_of_neg (by rw [decide_eq_true_iff]; omega), ih, none1, none2]
theorem filt_one {R : List (List Int)} (so : (R.map hd0).Pairwise (· < ·)) {r : List Int} (hr : r ∈ R) : (R.filter fun s => decide (hd0 s = hd0 r)) = [r] := by
  induction R with
  | nil => cases hr
  | cons a R ih =>
    rw [List.map_cons, List.pairwise_cons] at so
    rcases List.mem_cons.mp hr with z | z
    · rw [← z] at so ⊢
      rw [List.filter_cons_of_pos (by rw [decide_eq_true_iff]), List.filter_eq_nil_iff.mpr fun s hs => by
        have := so.1 _ (List.mem_map_of_mem hs)
        rw [decide_eq_true_iff]; omega]
    · have := so.1 _ (List.mem_map_of_mem z)
      rw [List.filter_cons_of_neg (by rw [decide_eq_true_iff]; omega), ih so.2 z]
/-- the rows whose least point is below i -/
def fl (R : List (List Int)) (i : Nat) : List (List Int) := R.filter fun r => decide (hd0 r < (i : Int))
theorem fl_zero {n : Nat} {p : List Int} {R : List (List Int)} (F : Full n p R) : fl R 0 = [] := List.filter_eq_nil_iff.mpr fun r hr => by
  have h := (F.ring hr).bd _ (List.mem_of_getElem? (F.ring hr).hd)
  rw [decide_eq_true_iff]
  omega
theorem fl_all {n : Nat} {p : List Int} {R : List (List Int)} (F : Full n p R) : fl R n = R := List.filter_eq_self.mpr fun r hr => by
  have h := (F.ring hr).bd _ (List.mem_of_getElem? (F.ring hr).hd)
  rw [decide_eq_true_iff]
  omega
/-- the test of the law: the ring's least point is the point itself -/
theorem fl_yes {n i : Nat} {p : List Int} {R : List (List Int)} {r : List Int} (hp : IsPm n p) (F : Full n p R) (a : Ring n p i r) (hi : i < n) (m : ∀ y ∈ r, (i : Int) ≤ y) : fl R (i + 1) = fl R i ++ [r] := by
  obtain ⟨s, hs, hx⟩ := List.mem_flatten.mp (F.all (i : Int) (by omega) (by omega))
  have S := F.ring hs
  have h1 : hd0 s ∈ r := (ring_mem hp a S.tn S.bd hx).mpr (List.mem_of_getElem? S.hd)
  have h2 : hd0 s = (i : Int) := by
    have := m _ h1
    have := F.mn s hs _ hx
    show s.getD 0 0 = (i : Int)
    have e : s.getD 0 0 = hd0 s := rfl
    omega
  rw [h2] at S
  have e := ring_same hp a S
  subst e
  have st := filt_step F.so (i : Int)
  have o := filt_one F.so hs
  rw [h2] at o
  unfold fl
  rw [show ((i + 1 : Nat) : Int) = (i : Int) + 1 by omega, st, o]
theorem fl_no {n i : Nat} {p : List Int} {R : List (List Int)} {r : List Int} {m : Int} (hp : IsPm n p) (F : Full n p R) (a : Ring n p i r) (hm : m ∈ r) (ml : m < i) : fl R (i + 1) = fl R i := by
  have st := filt_step F.so (i : Int)
  have z : (R.filter fun s => decide (hd0 s = (i : Int))) = [] := List.filter_eq_nil_iff.mpr fun s hs => by
    rw [decide_eq_true_iff]
    intro h2
    have S := F.ring hs
    have hx : (i : Int) ∈ s := h2 ▸ List.mem_of_getElem? S.hd
    have h3 := F.mn s hs m ((ring_mem hp a S.tn S.bd hx).mp hm)
    have e : s.getD 0 0 = hd0 s := rfl
    omega
  unfold fl
  rw [show ((i + 1 : Nat) : Int) = (i : Int) + 1 by omega, st, z, List.append_nil]
theorem Cyc.unit_of {n N : Nat} {p : List Int} {R : List (List Int)} (hp : IsPm n p) (C : Cyc n p R) (all : ∀ x : Int, 0 ≤ x → x < n → x ∈ R.flatten) (d : ∀ r ∈ R, r.length ∣ N) : pwL n p N = unitL n := by
  refine pm_ext (n := n) (pwL_pm hp N).len (unit_pm n).len fun j hj => ?_
  obtain ⟨r, hr, hx⟩ := List.mem_flatten.mp (all (j : Int) (by omega) (by omega))
  obtain ⟨i, hi, e⟩ := List.getElem_of_mem hx
  have h : r[i]? = some (j : Int) := by rw [List.getElem?_eq_getElem hi, e]
  have k := C.pw hp hr h N
  obtain ⟨t, et⟩ := d r hr
  rw [et, Nat.add_mul_mod_self_left, Nat.mod_eq_of_lt hi, h, show ((j : Nat) : Int).toNat = j by omega] at k
  rw [et, k]
  exact (unitL_get hj).symm
/-- the rings of the points below i, as tuples -/
structure RingsAt (H : Hp) (Cs : List Addr) (n : Nat) (p : List Int) (i : Nat) : Prop where
  len : Cs.length = i
  at_ : ∀ k, k < i → ∃ (a : Addr) (r : List Int), Cs[k]? = some a ∧ H a = some (.tup (r.map V.int)) ∧ Ring n p k r
theorem RingsAt.ex {H H' : Hp} {Cs : List Addr} {n i : Nat} {p : List Int} (x : Ex H H') (h : RingsAt H Cs n p i) : RingsAt H' Cs n p i :=
  ⟨h.len, fun k hk => let ⟨a, r, e1, e2, e3⟩ := h.at_ k hk; ⟨a, r, e1, x.st _ _ e2 trivial, e3⟩⟩
theorem RingsAt.upd {H : Hp} {Cs : List Addr} {n i : Nat} {p : List Int} {q : Addr} {o u : HO} (h : RingsAt H Cs n p i) (e : H q = some u) (nt : ∀ xs, u ≠ .tup xs) : RingsAt (L2.upd H q o) Cs n p i :=
  ⟨h.len, fun k hk => let ⟨a, r, e1, e2, e3⟩ := h.at_ k hk; ⟨a, r, e1, by
    rw [upd_ne (fun z => by rw [z, e] at e2; exact nt _ (Option.some.inj e2))]
    exact e2, e3⟩⟩
theorem RingsAt.more {H : Hp} {Cs : List Addr} {n i : Nat} {p r : List Int} {a : Addr} (h : RingsAt H Cs n p i) (e : H a = some (.tup (r.map V.int))) (hr : Ring n p i r) : RingsAt H (Cs ++ [a]) n p (i + 1) := by
  refine ⟨by rw [List.length_append, h.len]; rfl, fun k hk => ?_⟩
  by_cases hk2 : k < i
  · obtain ⟨b, s, e1, e2, e3⟩ := h.at_ k hk2
    exact ⟨b, s, by rw [List.getElem?_append_left (by rw [h.len]; exact hk2)]; exact e1, e2, e3⟩
  · have ek : k = i := by omega
    subst ek
    exact ⟨a, r, by rw [List.getElem?_append_right (by rw [h.len]; exact Nat.le_refl _), h.len, Nat.sub_self]; rfl, e, hr⟩
def spAlike2 : Sp := fun vs H Q _ => ∃ (a b : Addr) (As Bs : List Addr) (R : List (List Int)), vs = [.ref a, .ref b] ∧ H a = some (.tup (As.map V.ref)) ∧ H b = some (.tup (Bs.map V.ref)) ∧ RowsAt H As R ∧ RowsAt H Bs R ∧ R.length ≤ 1000 ∧ (∀ r ∈ R, r.length ≤ 1000) ∧ ∀ H', Ex H H' → Q (.bl true) H'
theorem srt_same {ns ms ls : List Int} (h1 : ns.Perm ls) (h2 : ms.Perm ls) (s1 : ns.Pairwise (· ≤ ·)) (s2 : ms.Pairwise (· ≤ ·)) : ns = ms := PySem.W.ksm_same (h1.trans h2.symm) s1 s2
end KL
namespace KL
open PySem PySem.Spec PyProof.Rows L2 GA GxR
/-! ### the cycles are determined -/
theorem Full.sub {n : Nat} {p : List Int} {R S : List (List Int)} (hp : IsPm n p) (F : Full n p R) (G : Full n p S) : ∀ r ∈ R, r ∈ S := fun r hr => by
  have a := F.ring hr
  have hx := List.mem_of_getElem? a.hd
  have hb := a.bd _ hx
  obtain ⟨s, hs, hm⟩ := List.mem_flatten.mp (G.all (hd0 r) hb.1 hb.2)
  have b := G.ring hs
  have mem : ∀ y, y ∈ r ↔ y ∈ s := fun y => ring_mem hp a b.tn b.bd hm
  have e1 := G.mn s hs _ hm
  have e2 := F.mn r hr _ ((mem _).mpr (List.mem_of_getElem? b.hd))
  have e : hd0 s = hd0 r := Int.le_antisymm e1 e2
  rw [e] at b
  rw [ring_same hp a b]
  exact hs
theorem Full.nd {n : Nat} {p : List Int} {R : List (List Int)} (F : Full n p R) : R.Nodup := by
  have h := F.so
  rw [List.pairwise_map] at h
  exact h.imp fun {a b} z e => by
    rw [e] at z
    omega
theorem Full.perm {n : Nat} {p : List Int} {R S : List (List Int)} (hp : IsPm n p) (F : Full n p R) (G : Full n p S) : R.Perm S :=
  (List.perm_ext_iff_of_nodup F.nd G.nd).mpr fun r => ⟨F.sub hp G r, G.sub hp F r⟩
theorem Full.uniq {n : Nat} {p : List Int} {R S : List (List Int)} (hp : IsPm n p) (F : Full n p R) (G : Full n p S) : R = S := by
  have fs := F.so
  have gs := G.so
  rw [List.pairwise_map] at fs gs
  refine (F.perm hp G).eq_of_pairwise (fun a b _ _ h1 h2 => ?_) fs gs
  omega
end KL
/-! conjugates: promises -/
namespace KL
open PySem PySem.Spec PyProof.Rows L2 GA GxR
def spNear (K : PySem.W.Frag) : Sp := fun vs H Q _ => ∃ (r s a : Addr) (n : Nat) (p ns : List Int), vs = [.ref r, .ref a] ∧ RowAt H r s ∧ SqL K H s (ns.map V.int) ∧ Pm H a n p ∧ 1 ≤ n ∧ n ≤ 12 ∧ ∀ (c : Addr) (H' : Hp) (q : List Int), Ex H H' → Pm H' c n q → Q (.ref c) H'
end KL
/-! rules: set(list of ints), a display with one tuple as key, sorted(.., key=len), factorial -/
namespace KL
open PySem PySem.Spec PyProof.Rows L2 GA GxR
/-! ### set(l), l a list of ints -/
abbrev bareSet (w : World) : Obj := { cls := .type "set", dict := none, data := .set #[] 0 (.fresh 0 0 (!w.params.followText "set-order")) }
abbrev bareIter (l : Addr) : Obj := { cls := .type "list_iterator", data := .fields #[.ref l, .int 0 0] }
/-- what set(l) has made -/
def MadeSet (w : World) (s : Shared) (ns : List Int) (z : Shared) : Prop := ∃ g tk c, z = { s with heap := g, toks := tk } ∧ SetR w g s.heap.objs.size (fun j => decide (j ∈ ns)) c ∧ c ≤ ns.length ∧ ∀ b o, s.heap.get? b = some o → g.get? b = some o
section
variable {P : Program} {w : World} {A : Around} {E : Value → Shared → Prop} {s : Shared} {l : Addr} {vals : Array Value} {ns : List Int}
theorem set_ints_of (isL : s.heap.IsList l vals) (hit : IntsAre vals.toList ns) (few : ns.length + 1 < scanBound) (calm : A.in1.handled = none) (R : Result → Shared → Prop) (go : ∀ z, MadeSet w s ns z → R (.ok (.ret .none)) z) :
    codeAny (model P w) A (.builtin "set.update.loop" ⟨[.ref s.heap.objs.size, .ref (s.heap.push (bareSet w)).objs.size], []⟩) R { s with heap := (s.heap.push (bareSet w)).push (bareIter l) } := by
  obtain ⟨ol, hol, rest⟩ := id isL
  have ltl := Heap.lt_size hol
  have wide : (s.heap.push (bareSet w)).objs.size = s.heap.objs.size + 1 := Heap.size_push ..
  have es : vals.size = ns.length := by
    have q := hit.length
    rwa [Array.length_toList] at q
  have ne1 : l ≠ (s.heap.push (bareSet w)).objs.size := by
    rw [wide]
    exact Nat.ne_of_lt (Nat.lt_succ_of_lt ltl)
  have out : s.heap.objs.size ∉ [(s.heap.push (bareSet w)).objs.size, l] := by
    simp only [List.mem_cons, List.not_mem_nil, or_false, not_or]
    exact ⟨by rw [wide]; exact Nat.ne_of_lt (Nat.lt_succ_self _), Nat.ne_of_gt ltl⟩
  have vals' : ∀ (i : Nat) (v : Value), vals[i]? = some v → ∃ k t, ns[i]? = some k ∧ v = .int k t := fun i v hv => by
    have li : i < ns.length := es ▸ (Array.getElem?_eq_some_iff.mp hv).1
    have gi := List.getElem?_eq_getElem li
    obtain ⟨t, e⟩ := hit.get i _ gi
    rw [Array.getElem?_toList, hv] at e
    exact ⟨_, t, gi, Option.some.inj e⟩
  have set0 : ((s.heap.push (bareSet w)).push (bareIter l)).get? s.heap.objs.size = some (bareSet w) := Heap.get?_push_of_some _ (Heap.get?_push_size _ rfl)
  have isL2 : ((s.heap.push (bareSet w)).push (bareIter l)).IsList l vals := (isL.push _).push _
  refine set_update_ints (Walks.list calm _ l ne1 vals).toS _ out ns es few vals' vals.size 0 _ (Nat.sub_zero _) (Nat.zero_le _) ⟨⟨_, Heap.get?_push_size _ rfl, rfl, rfl⟩, isL2⟩ ⟨0, Nat.le_refl 0, setR_new_at set0⟩ fun z c mv hc S => go z ?_
  obtain ⟨zh, zg, zd, zt, zo⟩ := z
  obtain rfl : zg = s.gens := mv.gens
  obtain rfl : zd = s.drawn := mv.drawn
  obtain rfl : zo = s.os := mv.os
  refine ⟨zh, zt, c, rfl, S, by omega, fun b o e => ?_⟩
  have lb := Heap.lt_size e
  refine mv.heap b o ?_ (Heap.get?_push_of_some _ (Heap.get?_push_of_some _ e))
  simp only [List.mem_cons, List.not_mem_nil, or_false, not_or]
  exact ⟨Nat.ne_of_lt lb, by rw [wide]; exact Nat.ne_of_lt (Nat.lt_succ_of_lt lb)⟩
theorem call_set_ints {Q : Value → Shared → Prop} (calm : A.handled = none) (isL : s.heap.IsList l vals) (hit : IntsAre vals.toList ns) (few : ns.length + 1 < scanBound)
    (go : ∀ z, MadeSet w s ns z → Q (.ref s.heap.objs.size) z) : wpAny (model P w) A (call (.type "set") [.ref l]) Q E s := by
  obtain ⟨cl, tl, mro⟩ := PySem.F.called_set.mro
  have made := PySem.F.called_set.made
  have sub := PySem.F.called_set.sub
  refine wpAny_call (codeAny_of_tree (show wpAny _ _ (callAny (.type "set") _) _ _ _ from wpAny_pure ⟨Code.quiet_builtin _ (by decide +kernel), codeAny_builtin PySem.F.entry_type_call ?_⟩))
  rw [Around.under_plain (weight_type_call_type "set" [.ref l] []) rfl]
  have nt := PySem.F.called_set.notType
  have can := PySem.F.called_set.canCreate
  have tc := PySem.F.typeCall_set_1 (.ref l)
  repeat any_goals first | assumption | wp_step
  refine codeAny_mono (code_set_led1 (.ref l) (E := E) (Q₁ := fun x z => x = .ref s.heap.objs.size ∧ z = { s with heap := s.heap.push (bareSet w) }) ⟨rfl, rfl⟩) fun r z hr => ?_
  match r, hr with
  | .error e, hr => exact hr
  | .ok (.ret x), hr =>
    obtain ⟨rfl, rfl⟩ := hr
    have at0 : (s.heap.push (bareSet w)).get? s.heap.objs.size = some (bareSet w) := Heap.get?_push_size _ rfl
    have ty0 : Shared.TypeIs { s with heap := s.heap.push (bareSet w) } (.ref s.heap.objs.size) "set" := ⟨_, at0, rfl⟩
    have il := PySem.F.called_set.init.lookup
    have ib := PySem.F.called_set.init.bind (.ref s.heap.objs.size)
    repeat any_goals first | assumption | wp_step
    refine codeAny_mono (codeAny_call_builtin (R := wants (fun x z => x = .none ∧ MadeSet w s ns z) E) PySem.F.called_set.init.plain PySem.F.entry_set_init (check_set_init_1 ty0 ?_)) fun r2 z2 hr2 => ?_
    · obtain ⟨ol, hol, hcl, nl, hdl⟩ := id isL
      obtain ⟨ocls, odict, odata, oslots⟩ := ol
      simp only at hcl hdl
      subst hcl; subst hdl
      have atl : (s.heap.push (bareSet w)).get? l = some { cls := .type "list", dict := odict, data := .seq vals nl, slots := oslots } := Heap.get?_push_of_some _ hol
      have s1 := PySem.F.sub_list_set
      have s2 := PySem.F.sub_list_frozenset
      have nd : (Value.type "list" == Value.type "dict") = false := by decide
      have isL1 : (s.heap.push (bareSet w)).IsList l vals := isL.push _
      unfold Builtin.«set.__init__» noKeywords Builtin.Frozenset.updateFrom
      generalize hPI : pyIter = PI
      wp_walk
      subst hPI
      refine wpAny_pyIter_list isL1 (wpAny_bind (wpAny_runValue ?_))
      refine set_ints_of isL hit few (by simp [calm]) _ fun z mz => ?_
      show wpAny _ _ _ _ _ _
      refine wpAny_pure ?_
      show wpAny _ _ (ret Value.none) _ _ _
      exact wpAny_pure ⟨rfl, mz⟩
    · match r2, hr2 with
      | .error e, hr2 => exact hr2
      | .ok (.ret x), hr2 =>
        obtain ⟨rfl, mz⟩ := hr2
        obtain ⟨g, tk, c, rfl, S, hc, kp⟩ := id mz
        repeat any_goals first | assumption | wp_step
        exact go _ mz
      | .ok .next, hr2 => exact hr2.elim
      | .ok (.brk), hr2 => exact hr2.elim
      | .ok (.cont), hr2 => exact hr2.elim
  | .ok .next, hr => exact hr.elim
  | .ok (.brk), hr => exact hr.elim
  | .ok (.cont), hr => exact hr.elim
end
/-- set(l), l a list of ints -/
def rSetOf (K : PySem.W.Frag) (w : World) : List V → Hp → VK → Prop := fun vs H Q => ∃ (l : Addr) (ns : List Int), vs = [V.ref l] ∧ SqL K H l (ns.map V.int) ∧ ns.length ≤ 4000 ∧ ∀ (a : Addr) (c : Nat), H a = none → c ≤ ns.length → Q (.ref a) (upd H a (SetO w a (fun j => decide (j ∈ ns)) c))
theorem cr_setL {X : Cx} {K : PySem.W.Frag} (h : X.K = K) (hc : X.calm = true := by rfl) : CallR X (.type "set") (rSetOf K X.w) := by
  subst h
  intro pins s σ H vs us Q I r q
  obtain ⟨l, ns, rfl, hl, few, q⟩ := q
  obtain ⟨its, rv, pl, hz⟩ := I.list hl
  rw [Vals.ref1 r]
  refine call_set_ints (I.ok.hd hc) pl.isList (by simpa using rv.ints) (by unfold scanBound; omega) fun z mz => ?_
  obtain ⟨g, tk, c, rfl, S, hcn, kp⟩ := mz
  exact ⟨.ref _, upd H s.heap.objs.size (SetO X.w s.heap.objs.size (fun j => decide (j ∈ ns)) c), I.laid (t' := tk) (fun b u e => kp b u e) (Nat.le_refl _) (setO_new S), rfl, q _ c (I.hok.fresh (Nat.le_refl _)) hcn⟩
/-! ### {t: v}, t a tuple of ints and texts -/
def tDispT (tk tv : TE) : TE := fun σ H Q => ∀ d, H d = none → tk σ (upd H d (.dT [])) fun x H1 => tv σ H1 fun y H2 => H2 d = some (.dT []) ∧ ∃ (b : Addr) (ks : List L2.Key), x = .ref b ∧ H2 b = some (.tup (ks.map kV)) ∧ Q (.ref d) (upd H2 d (.dT [(ks, y)]))
theorem pe_dispT {X : Cx} {k v : Expr} {tk tv : TE} {pos : Pos} (hu : X.A.units + 1 < cLine) (hk : PE X k tk) (hv : PE X v tv) : PE X (.Dict [some k] [v] pos) (tDispT tk tv) := by
  refine ⟨fun pins s σ H Q I q => ?_⟩
  have hn := I.hok.fresh (Nat.le_refl s.heap.objs.size)
  have I1 := I.laid (a := s.heap.objs.size) (o := .dT []) (h' := s.heap.push { cls := .type "dict", data := .dict #[] }) (t' := s.toks) (fun _ _ e => Heap.get?_push_of_some _ e) (Nat.le_refl _) (dt_empty s.heap I.big)
  rw [arm_eval_Dict, zip_pairTrees [some k] [v] X.env pos rfl rfl, dictDisplay_pairs _ (by intro z; cases z) (by show 1 < 17; decide)]
  refine wpAny_bind (wpAny_standAt (wpAny_bind (wpAny_subDictH (knd := tupleKind (mixKind X.prog X.w)) (by show X.A.units < cLine; omega) (by show 1 ≤ 15; decide) (pairTrees_cons_walk (thn (hk.run pins _ σ _ _ I1 (q _ hn)) fun u s1 ⟨x, H1, J1, rx, q1⟩ => thn (hv.run pins s1 σ H1 _ J1 q1) fun u2 s2 ⟨y, H2, J2, ry, e, b, ks, ex, hb, q2⟩ => pairTrees_nil_walk ?_)))))
  subst ex
  cases (show u = Value.ref b from rx)
  obtain ⟨z, hd, xs, rel, dd⟩ := dt_of J2.hok e
  cases rel
  refine ⟨[(ks, b, u2)], ⟨rfl, rfl, key_of J2.hok hb, trivial⟩, dd, fun h' t' dd' hs => wpAny_pure ⟨.ref _, _, ?_, rfl, q2⟩⟩
  obtain ⟨o, es, ep, ho, h2, h3, h4, _, h5⟩ := dd'
  refine d_write J2 (by rw [e]; exact True.intro) hs ⟨o, ho⟩ ⟨by show 1 ≤ sizeLine; decide, hd, _, ((KT.put (k := ks) (b := b) .nil hb ry).keeps fun c ys ec => ?_), o, es, ep, ho, h2, h3, h4, h5⟩
  rw [upd_ne (ne_of ec e fun z => nomatch z)]
  exact ec
/-! ### factorial -/
def rFac : List V → Hp → VK → Prop := fun vs H Q => ∃ a : Nat, vs = [.int a] ∧ a ≤ 1000 ∧ Q (.int ((Builtin.Math.factorialNat a : Nat) : Int)) H
theorem cr_factorial {X : Cx} : CallR X (.builtin "math.factorial") rFac := by
  intro pins s σ H vs us Q I r h
  obtain ⟨a, rfl, ha, q⟩ := h
  obtain ⟨u, rfl, t, rfl⟩ := vals1 r
  exact PySem.W.mc_factorial (by omega) (by omega) fun _ => ⟨.int _, H, I.tok _, ⟨_, rfl⟩, by rw [Int.toNat_natCast]; exact q⟩
end KL
/-! conjugates and how many commute -/
namespace KL
open PySem PySem.Spec PyProof.Rows L2 GA GxR
def lensN (R : List (List Int)) : List Nat := R.map List.length
theorem lensL_N (R : List (List Int)) : lensL R = (lensN R).map Int.ofNat := by
  unfold lensL lensN
  rw [List.map_map]
  rfl
/-- p and q have cycles of the same lengths -/
def Alike (n : Nat) (p q : List Int) : Prop := ∃ R S, Full n p R ∧ Full n q S ∧ (lensL R).Perm (lensL S)
theorem alike_iff {n : Nat} {p q : List Int} {R S : List (List Int)} {ns ms : List Int} (hp : IsPm n p) (hq : IsPm n q) (F : Full n p R) (G : Full n q S) (h1 : ns.Perm (lensL R)) (h2 : ms.Perm (lensL S)) (o1 : ns.Pairwise (· ≤ ·)) (o2 : ms.Pairwise (· ≤ ·)) : ns = ms ↔ Alike n p q := by
  constructor
  · intro e
    exact ⟨R, S, F, G, h1.symm.trans (e ▸ h2)⟩
  · rintro ⟨R', S', F', G', h⟩
    have a : (lensL R).Perm (lensL R') := (F.perm hp F').map _
    have b : (lensL S').Perm (lensL S) := (G'.perm hq G).map _
    exact PySem.W.ksm_same (((h1.trans a).trans (h.trans b)).trans h2.symm) o1 o2
/-! ### rows laid one behind the other -/
theorem flat_get : ∀ {L : List (List Int)} {m i : Nat} {r : List Int} {x : Int}, L[m]? = some r → r[i]? = some x → L.flatten[(L.take m).flatten.length + i]? = some x
  | [], m, i, r, x, h, _ => by cases h
  | a :: L, 0, i, r, x, h, hx => by
    cases (Option.some.inj h)
    rw [List.flatten_cons, List.take_zero, List.flatten_nil, List.length_nil, Nat.zero_add, List.getElem?_append_left (List.getElem?_eq_some_iff.mp hx).1]
    exact hx
  | a :: L, m + 1, i, r, x, h, hx => by
    have ih := flat_get (L := L) (m := m) (i := i) (r := r) (x := x) h hx
    rw [List.take_succ_cons, List.flatten_cons, List.flatten_cons, List.length_append, Nat.add_assoc, List.getElem?_append_right (Nat.le_add_right _ _), Nat.add_sub_cancel_left]
    exact ih
theorem lens_take {Rs Ss : List (List Int)} (e : Rs.map List.length = Ss.map List.length) (m : Nat) : (Rs.take m).flatten.length = (Ss.take m).flatten.length := by
  rw [List.length_flatten, List.length_flatten, List.map_take, List.map_take, e]
theorem take_flat {L : List (List Int)} {m : Nat} {r : List Int} (h : L[m]? = some r) : (L.take (m + 1)).flatten.length = (L.take m).flatten.length + r.length := by
  rw [List.take_add_one, h, List.flatten_append, List.length_append]
  show _ + [r].flatten.length = _
  rw [List.flatten_cons, List.flatten_nil, List.append_nil]
theorem flat_pm {n : Nat} {p : List Int} {R Rs : List (List Int)} (F : Full n p R) (h : Rs.Perm R) : IsPm n Rs.flatten := by
  have hf : Rs.flatten.Perm R.flatten := List.Perm.flatten h
  have nd := hf.nodup_iff.mpr F.cyc.nd
  have bd : ∀ x ∈ Rs.flatten, 0 ≤ x ∧ x < (n : Int) := fun x hx => F.cyc.bd x (hf.mem_iff.mp hx)
  refine ⟨?_, nd, bd⟩
  have h1 := bd_len nd bd
  have h2 : (unitL n).length ≤ Rs.flatten.length := len_le_sub (unit_pm n).nd fun x hx => by
    have b := (unit_pm n).bd x hx
    exact hf.mem_iff.mpr (F.all x b.1 b.2)
  rw [show (unitL n).length = n from (unit_pm n).len] at h2
  omega
/-- what carries the one's rows to the other's is a conjugator -/
theorem carries_conj {n : Nat} {p q g : List Int} {R S Rs Ss : List (List Int)} (hp : IsPm n p) (hq : IsPm n q) (F : Full n p R) (G : Full n q S) (h1 : Rs.Perm R) (h2 : Ss.Perm S) (e : Rs.map List.length = Ss.map List.length)
    (h : Filled n Rs.flatten (fun j => Ss.flatten.getD j 0) n g) : IsPm n g ∧ mulL (mulL (invL g) p) g = q := by
  have pr := flat_pm F h1
  have ps := flat_pm G h2
  have hg : IsPm n g := h.isPm pr (fun j hj => by
    obtain ⟨x, hx, b⟩ := ps.get hj
    rw [getD_of hx]
    exact b) fun j k hj hk z => by
      obtain ⟨x, hx, _⟩ := ps.get hj
      obtain ⟨y, hy, _⟩ := ps.get hk
      rw [getD_of hx, getD_of hy] at z
      exact ps.inj hx (z ▸ hy)
  refine ⟨hg, pm_ext (n := n) (mulL_pm (mulL_pm (invL_pm hg) hp) hg).len hq.len fun j hj => ?_⟩
  have key : ∀ (m i : Nat) (r s : List Int) (x : Int), Rs[m]? = some r → Ss[m]? = some s → r[i]? = some x → ∃ y, s[i]? = some y ∧ g[x.toNat]? = some y := fun m i r s x hr hs hx => by
    have el : r.length = s.length := by
      have z := congrArg (fun l => l[m]?) e
      simp only [List.getElem?_map, hr, hs, Option.map_some] at z
      exact Option.some.inj z
    have hi := (List.getElem?_eq_some_iff.mp hx).1
    have hy : s[i]? = some (s[i]'(by omega)) := List.getElem?_eq_getElem (by omega)
    refine ⟨_, hy, ?_⟩
    have a := flat_get hr hx
    have b := flat_get hs hy
    rw [← lens_take e] at b
    have hk := (List.getElem?_eq_some_iff.mp a).1
    rw [pr.len] at hk
    rw [h.at_ _ _ hk a, getD_of b]
  obtain ⟨k, hk, ek⟩ := hg.onto hj
  have hinv := (invL_filled hg).at_ k _ hk ek
  rw [show ((j : Nat) : Int).toNat = j by omega] at hinv
  -- the row of k
  have hkm : (k : Int) ∈ Rs.flatten := (List.Perm.flatten h1).mem_iff.mpr (F.all k (by omega) (by omega))
  obtain ⟨r, hr, hkr⟩ := List.mem_flatten.mp hkm
  obtain ⟨m, hm, em⟩ := List.getElem_of_mem hr
  obtain ⟨i, hi, ei⟩ := List.getElem_of_mem hkr
  have gr : Rs[m]? = some r := by rw [List.getElem?_eq_getElem hm, em]
  have gx : r[i]? = some (k : Int) := by rw [List.getElem?_eq_getElem hi, ei]
  have lm : Rs.length = Ss.length := by
    have z := congrArg List.length e
    rwa [List.length_map, List.length_map] at z
  obtain ⟨s, gs⟩ : ∃ s, Ss[m]? = some s := ⟨_, List.getElem?_eq_getElem (by omega)⟩
  have tr := F.cyc.tn r (h1.mem_iff.mp hr)
  have ts := G.cyc.tn s (h2.mem_iff.mp (List.mem_of_getElem? gs))
  have el : r.length = s.length := by
    have z := congrArg (fun l => l[m]?) e
    simp only [List.getElem?_map, gr, gs, Option.map_some] at z
    exact Option.some.inj z
  obtain ⟨y, gy, ey⟩ := key m i r s _ gr gs gx
  rw [show ((k : Nat) : Int).toNat = k by omega, ek] at ey
  cases ey
  have st := tr.st i _ gx
  have su := ts.st i _ gy
  have hi2 : (i + 1) % r.length < r.length := Nat.mod_lt _ tr.ne
  rw [List.getElem?_eq_getElem hi2] at st
  obtain ⟨z, gz, ez⟩ := key m _ r s _ gr gs (List.getElem?_eq_getElem hi2)
  rw [show ((k : Nat) : Int).toNat = k by omega] at st
  rw [show ((j : Nat) : Int).toNat = j by omega, ← el, gz] at su
  rw [su]
  refine mulL_at (mulL_at hinv ?_) ez
  rw [show ((k : Nat) : Int).toNat = k by omega]
  exact st
/-! ### how many commute -/
def factN : Nat → Nat
  | 0 => 1
  | n + 1 => factN n * (n + 1)
theorem factN_eq : ∀ n, Builtin.Math.factorialNat n = factN n
  | 0 => by decide +kernel
  | n + 1 => by rw [PySem.W.mc_fac_succ, factN_eq n]; rfl
/-- the factors of the lengths ds -/
def czL (ds ls : List Nat) : Nat := (ds.map fun d => d ^ ls.count d * factN (ls.count d)).foldr (· * ·) 1
theorem czL_cons (d : Nat) (ds ls : List Nat) : czL (d :: ds) ls = d ^ ls.count d * factN (ls.count d) * czL ds ls := rfl
theorem czL_nil : ∀ ds : List Nat, czL ds [] = 1
  | [] => rfl
  | d :: ds => by
    rw [czL_cons, czL_nil ds, List.count_nil]
    rfl
theorem count_snoc (l : List Nat) (x d : Nat) : (l ++ [x]).count d = l.count d + if x = d then 1 else 0 := by
  rw [List.count_append, List.count_cons, List.count_nil, Nat.zero_add]
  congr 1
  by_cases h : x = d
  · rw [if_pos h, if_pos (by rw [h]; exact beq_self_eq_true d)]
  · rw [if_neg h, if_neg (by intro z; exact h (eq_of_beq z))]
theorem czL_out {x : Nat} : ∀ {ds : List Nat} (l : List Nat), x ∉ ds → czL ds (l ++ [x]) = czL ds l
  | [], _, _ => rfl
  | d :: ds, l, h => by
    have h1 : x ≠ d := fun z => h (z ▸ List.mem_cons_self ..)
    rw [czL_cons, czL_cons, czL_out l fun z => h (List.mem_cons_of_mem _ z), count_snoc, if_neg h1, Nat.add_zero]
theorem czL_snoc {x : Nat} : ∀ {ds : List Nat} (l : List Nat), ds.Nodup → x ∈ ds → czL ds (l ++ [x]) = czL ds l * x * (l.count x + 1)
  | [], _, _, h => by cases h
  | d :: ds, l, nd, h => by
    rw [List.nodup_cons] at nd
    rw [czL_cons, czL_cons]
    by_cases e : x = d
    · subst e
      rw [czL_out l nd.1, count_snoc, if_pos rfl, Nat.pow_succ]
      show x ^ l.count x * x * (factN (l.count x) * (l.count x + 1)) * czL ds l = _
      simp only [Nat.mul_assoc, Nat.mul_comm, Nat.mul_left_comm]
    · have hm : x ∈ ds := (List.mem_cons.mp h).resolve_left e
      rw [czL_snoc l nd.2 hm, count_snoc, if_neg e, Nat.add_zero]
      simp only [Nat.mul_assoc]
theorem czL_perm {ds l m : List Nat} (h : l.Perm m) : czL ds l = czL ds m := by
  unfold czL
  congr 1
  refine List.map_congr_left fun d _ => ?_
  rw [h.count_eq]
/-- as the law counts them -/
def dueI (ls : List Nat) : Nat → Nat
  | 0 => 1
  | i + 1 => dueI ls i * ls.getD i 0 * (ls.take (i + 1)).count (ls.getD i 0)
theorem dueI_cz {ls ds : List Nat} (nd : ds.Nodup) (h : ∀ x ∈ ls, x ∈ ds) : ∀ i, i ≤ ls.length → dueI ls i = czL ds (ls.take i)
  | 0, _ => by rw [List.take_zero, czL_nil]; rfl
  | i + 1, hi => by
    have g : ls[i]? = some (ls[i]'(by omega)) := List.getElem?_eq_getElem (by omega)
    have gd : ls.getD i 0 = ls[i]'(by omega) := by rw [List.getD_eq_getElem?_getD, g]; rfl
    show dueI ls i * ls.getD i 0 * (ls.take (i + 1)).count (ls.getD i 0) = _
    rw [dueI_cz nd h i (by omega), gd, List.take_add_one, g]
    show _ * _ * (ls.take i ++ [ls[i]'(by omega)]).count _ = czL ds (ls.take i ++ [ls[i]'(by omega)])
    rw [czL_snoc _ nd (h _ (List.getElem_mem _)), count_snoc, if_pos rfl]
/-- lengths that do not occur add nothing -/
theorem czL_rest {ls : List Nat} : ∀ {ds : List Nat}, (∀ d ∈ ds, d ∉ ls) → czL ds ls = 1
  | [], _ => rfl
  | d :: ds, h => by
    rw [czL_cons, czL_rest fun x hx => h x (List.mem_cons_of_mem _ hx), List.count_eq_zero.mpr (h d (List.mem_cons_self ..))]
    rfl
theorem czL_dp {ls : List Nat} {ds es : List Nat} (h : ds.Perm es) : czL ds ls = czL es ls := by
  unfold czL
  have hm := h.map fun d => d ^ ls.count d * factN (ls.count d)
  generalize ds.map (fun d => d ^ ls.count d * factN (ls.count d)) = a at hm
  generalize es.map (fun d => d ^ ls.count d * factN (ls.count d)) = b at hm
  induction hm with
  | nil => rfl
  | cons x _ ih => rw [List.foldr_cons, List.foldr_cons, ih]
  | swap x y l => simp only [List.foldr_cons, Nat.mul_left_comm]
  | trans _ _ i1 i2 => exact i1.trans i2
theorem czL_any {ls ds es : List Nat} (n1 : ds.Nodup) (n2 : es.Nodup) (h1 : ∀ x ∈ ls, x ∈ ds) (h2 : ∀ x ∈ ls, x ∈ es) : czL ds ls = czL es ls := by
  have a := dueI_cz n1 h1 ls.length (Nat.le_refl _)
  have b := dueI_cz n2 h2 ls.length (Nat.le_refl _)
  rw [List.take_length] at a b
  rw [← a, ← b]
/-! ### all permutations of few points, and which of them commute with one -/
def addL (L : List (List Int)) (x : List Int) : List (List Int) := if x ∈ L then L else L ++ [x]
def cloL (a b : List Int) : Nat → Nat → List (List Int) → List (List Int)
  | 0, _, L => L
  | f + 1, k, L => if k = L.length then L else cloL a b f (k + 1) (addL (addL L (mulL (L.getD k []) a)) (mulL (L.getD k []) b))
def turnL (n : Nat) : List Int := (List.range n).map fun i => (((i + 1) % n : Nat) : Int)
def swapL : Nat → List Int
  | 0 => [0]
  | 1 => [0]
  | n + 2 => 1 :: 0 :: (List.range n).map fun i => ((i + 2 : Nat) : Int)
def every (n : Nat) : List (List Int) := cloL (turnL n) (swapL n) 2000 0 [unitL n]
def allL (n : Nat) : Nat → List (List Int)
  | 0 => [[]]
  | k + 1 => (allL n k).flatMap fun r => (List.range n).map fun x : Nat => (x : Int) :: r
def comB (p g : List Int) : Bool := decide (mulL p g = mulL g p)
def ringF (p : List Int) : Nat → Int → List Int → List Int
  | 0, _, r => r.reverse
  | f + 1, y, r => if y ∈ r then r.reverse else ringF p f (p.getD y.toNat 0) (y :: r)
def cycF (p : List Int) : Nat → List (List Int)
  | 0 => []
  | i + 1 => if (i : Int) ∈ (cycF p i).flatten then cycF p i else cycF p i ++ [ringF p p.length i []]
def tnB (p r : List Int) : Bool := decide (0 < r.length) && (List.range r.length).all fun i => decide (p[(r.getD i 0).toNat]? = r[(i + 1) % r.length]?)
def fullB (n : Nat) (p : List Int) (R : List (List Int)) : Bool := R.all (tnB p) && (decide R.flatten.Nodup && (R.flatten.all (fun x => decide (0 ≤ x) && decide (x < n)) && ((List.range n).all (fun x => decide ((x : Int) ∈ R.flatten)) && (R.all (fun r => r.all fun x => decide (r.getD 0 0 ≤ x)) && decide ((R.map fun r => r.getD 0 0).Pairwise (· < ·))))))
theorem tnB_ok {p r : List Int} (h : tnB p r = true) : Turn p r := by
  unfold tnB at h
  rw [Bool.and_eq_true, decide_eq_true_iff] at h
  refine ⟨h.1, fun i x hx => ?_⟩
  have hi := (List.getElem?_eq_some_iff.mp hx).1
  have z := of_decide_eq_true (List.all_eq_true.mp h.2 i (List.mem_range.mpr hi))
  rwa [getD_of hx] at z
theorem fullB_ok {n : Nat} {p : List Int} {R : List (List Int)} (h : fullB n p R = true) : Full n p R := by
  unfold fullB at h
  simp only [Bool.and_eq_true, decide_eq_true_iff] at h
  obtain ⟨h1, h2, h3, h4, h5, h6⟩ := h
  refine ⟨⟨fun r hr => tnB_ok (List.all_eq_true.mp h1 r hr), h2, fun x hx => ?_⟩, fun x x0 xn => ?_, fun r hr x hx => ?_, h6⟩
  · have z := List.all_eq_true.mp h3 x hx
    rw [Bool.and_eq_true, decide_eq_true_iff, decide_eq_true_iff] at z
    exact z
  · have z := of_decide_eq_true (List.all_eq_true.mp h4 x.toNat (List.mem_range.mpr (by omega)))
    rwa [show ((x.toNat : Nat) : Int) = x by omega] at z
  · exact of_decide_eq_true (List.all_eq_true.mp (List.all_eq_true.mp h5 r hr) x hx)
theorem allL_mem {n : Nat} : ∀ {p : List Int} {k : Nat}, p.length = k → (∀ x ∈ p, 0 ≤ x ∧ x < (n : Int)) → p ∈ allL n k
  | [], 0, _, _ => List.mem_singleton.mpr rfl
  | [], k + 1, h, _ => by cases h
  | x :: p, 0, h, _ => by cases h
  | x :: p, k + 1, h, hb => by
    have ih := allL_mem (p := p) (k := k) (Nat.succ.inj h) fun y hy => hb y (List.mem_cons_of_mem _ hy)
    have b := hb x (List.mem_cons_self ..)
    refine List.mem_flatMap.mpr ⟨p, ih, List.mem_map.mpr ⟨x.toNat, List.mem_range.mpr (by omega), ?_⟩⟩
    rw [show ((x.toNat : Nat) : Int) = x by omega]
def okP (n : Nat) (E : List (List Int)) (p : List Int) : Bool := !decide p.Nodup || (fullB n p (cycF p n) && Nat.beq (E.filter (comB p)).length (czL (List.range 13) ((cycF p n).map List.length)))
theorem k1 : (allL 1 1).all (okP 1 (every 1)) = true := by decide +kernel
theorem k2 : (allL 2 2).all (okP 2 (every 2)) = true := by decide +kernel
theorem k3 : (allL 3 3).all (okP 3 (every 3)) = true := by decide +kernel
theorem k4 : (allL 4 4).all (okP 4 (every 4)) = true := by decide +kernel
theorem k5 : (allL 5 5).all (okP 5 (every 5)) = true := by decide +kernel
theorem few_commute {n : Nat} {p : List Int} (hp : IsPm n p) (h1 : 1 ≤ n) (h5 : n ≤ 5) : ∃ R, Full n p R ∧ ((every n).filter (comB p)).length = czL (List.range 13) (lensN R) := by
  have k : (allL n n).all (okP n (every n)) = true := by
    obtain rfl | rfl | rfl | rfl | rfl : n = 1 ∨ n = 2 ∨ n = 3 ∨ n = 4 ∨ n = 5 := by omega
    · exact k1
    · exact k2
    · exact k3
    · exact k4
    · exact k5
  have z := List.all_eq_true.mp k p (allL_mem hp.len hp.bd)
  unfold okP at z
  rw [decide_eq_true hp.nd, Bool.not_true, Bool.false_or, Bool.and_eq_true] at z
  exact ⟨_, fullB_ok z.1, Nat.eq_of_beq_eq_true z.2⟩
end KL
namespace KL
open PySem PySem.Spec PyProof.Rows L2 GA GxR
/-! ### a comprehension within a comprehension -/
def blkC2 (N : List Str) (scope : Scope) (own : List (Str × Nat)) (fs : List Str) : Bool :=
  (match scope.kind with | .function => true | _ => false) && ((scope.names.all fun y => decide (scope.names.lookup y.1 = some y.2)) && ((own.all fun p => decide (N[p.2]? = some p.1)) &&
    (scope.names.all fun y => match y.2 with
      | .free => decide (y.1 ∈ fs)
      | .local | .cell => decide (y.1 ∈ own.map (·.1)) || decide (y.1 ∉ N)
      | _ => true)))
theorem blkOk_f {N : List Str} {sc scope : Scope} {own : List (Str × Nat)} (fs : List Str) (h : blkC2 N scope own fs = true) (hf : ∀ x ∈ fs, sc.names.lookup x = some .cell ∨ sc.names.lookup x = some .free) : BlkOk N sc scope own := by
  unfold blkC2 at h
  simp only [Bool.and_eq_true, List.all_eq_true, decide_eq_true_eq] at h
  obtain ⟨h1, h2, h3, h4⟩ := h
  refine ⟨?_, h2, h3, fun y hy e => ?_, fun y hy e => ?_⟩
  · split at h1
    · assumption
    · cases h1
  · have q := h4 y hy
    rw [e] at q
    exact hf y.1 (of_decide_eq_true q)
  · have q := h4 y hy
    rcases e with e | e
    · rw [e] at q
      have q : (decide (y.1 ∈ own.map (·.1)) || decide (y.1 ∉ N)) = true := q
      rwa [Bool.or_eq_true, decide_eq_true_iff, decide_eq_true_iff] at q
    · rw [e] at q
      have q : (decide (y.1 ∈ own.map (·.1)) || decide (y.1 ∉ N)) = true := q
      rwa [Bool.or_eq_true, decide_eq_true_iff, decide_eq_true_iff] at q
theorem cut_take (xs : List V) (k : Nat) : cutV xs none (some (k : Int)) = xs.take k := by
  unfold cutV
  rw [HT.sIx_none, HT.sIx_nat, List.drop_zero, Nat.sub_zero]
  by_cases h : k ≤ xs.length
  · rw [Nat.min_eq_left h]
  · rw [Nat.min_eq_right (by omega), List.take_of_length_le (Nat.le_refl _), List.take_of_length_le (by omega)]
theorem flat_ints (S : List Int) : (S.map V.int).all flatV = true := by
  rw [List.all_map]
  exact List.all_eq_true.mpr fun _ _ => rfl
theorem inV_ints (x : Int) (S : List Int) : inV (.int x) (S.map V.int) = decide (x ∈ S) := by
  unfold inV
  rw [List.any_map, Bool.eq_iff_iff, decide_eq_true_iff, List.any_eq_true]
  constructor
  · rintro ⟨y, hy, e⟩
    have e : (y == x) = true := e
    rw [← eq_of_beq e]
    exact hy
  · intro h
    exact ⟨x, h, show (x == x) = true from beq_self_eq_true x⟩
end KL
/-! sorted(l, key=len), l a list of tuples; promises -/
namespace KL
open PySem PySem.Spec PyProof.Rows L2 GA GxR
abbrev lenD (z : Addr × List V) : PyData := .int ((z.2.length : Nat) : Int)
theorem le_len (x y : Addr × List V) : PySem.W.dataLe false lenD x y = decide (x.2.length ≤ y.2.length) := by
  show (!(lexLt itemOrd [.inl (y.2.length : Int)] [.inl (x.2.length : Int)])) = _
  rw [lex_cons]
  show (!(decide ((y.2.length : Int) < x.2.length) || (!decide ((x.2.length : Int) < y.2.length) && false))) = _
  rw [Bool.and_false, Bool.or_false]
  by_cases h : x.2.length ≤ y.2.length
  · rw [decide_eq_true h, decide_eq_false (by omega)]
    rfl
  · rw [decide_eq_false h, decide_eq_true (by omega)]
    rfl
abbrev RefTo (v : Value) (z : Addr × List V) : Prop := v = .ref z.1
theorem each_vals : ∀ {ps : List (Addr × List V)} {vs : List Value}, Vals (ps.map fun z => .ref z.1) vs → PySem.W.EachIs RefTo vs ps
  | [], _, h => by cases h; exact .nil
  | z :: ps, _, h => by
    cases h with
    | cons r t => exact .cons (show _ = Value.ref z.1 from r) (each_vals t)
theorem vals_each : ∀ {ps : List (Addr × List V)} {vs : List Value}, PySem.W.EachIs RefTo vs ps → Vals (ps.map fun z => .ref z.1) vs
  | [], _, h => by cases h; exact .nil
  | z :: ps, _, h => by
    cases h with
    | cons r t => exact .cons (show RelV (.ref z.1) _ from r) (vals_each t)
def tSortLen (K : PySem.W.Frag) (ta : TA) : TE := fun σ H Q => ta σ H fun vs H1 => ∃ (l : Addr) (ps : List (Addr × List V)), vs = [.ref l] ∧ SqL K H1 l (ps.map fun z => .ref z.1) ∧ (∀ z ∈ ps, H1 z.1 = some (.tup z.2)) ∧
  ∀ (p : Addr) (qs : List (Addr × List V)), H1 p = none → qs.Perm ps → qs.Pairwise (fun x y => x.2.length ≤ y.2.length) → Q (.ref p) (upd H1 p (.lst (qs.map fun z => .ref z.1)))
theorem pe_sortLen {X : Cx} {K : PySem.W.Frag} {a : Expr} {ta : TA} {p p2 pos kpos : Pos} {k : Nat} (h : X.K = K) (hr : Room k X.A) (hg : Gl X "sorted") (hm : X.mg "sorted" = none) (hg2 : Gl X "len") (hm2 : X.mg "len" = none) (ha : PA X [a] ta)
    (he : backTo pos (starEach [a] X.env) = (false, eval a X.env) :: backTo pos (starEach [] X.env) := by rfl) (hpl : (backTo pos (starEach [a] X.env)).any (·.1) = false := by rfl) :
    PE X (.Call (.Name "sorted" p) [a] [⟨some "key", .Name "len" p2, kpos⟩] pos) (tSortLen K ta) := by
  subst h
  refine ⟨fun pins s σ H Q I q => ?_⟩
  refine wpAny_Call_Name_kw (ld_blt (u := .builtin "sorted") I hg hm (by decide +kernel) (PyProof.Rows.callWith_kw (thn (ha.run pos pins s σ H _ I q) fun us s1 ⟨vs, H1, I1, r1, l, ps, ev, hl, hps, q1⟩ => ?_) he hpl rfl rfl))
  subst ev
  rw [Vals.ref1 r1]
  show wpAny _ _ (evalAll ((do let v ← eval (.Name "len" p2) X.env; standAt pos; pure v) :: [])) _ _ s1
  refine wpAny_evalAll_cons (wpAny_bind (ld_blt I1 hg2 hm2 boot_len (wpAny_bind (wpAny_standAt (wpAny_pure (wpAny_evalAll_nil ?_))))))
  obtain ⟨its, rv, pl, hz⟩ := I1.list hl
  have un := deepOf hr
  have line := line63
  have hb : ps.length ≤ sizeLine := by rwa [List.length_map] at hz
  refine PySem.W.sorted_key_data (R := RefTo) (bs := ps) (b := false) lenD pl.isList (each_vals rv) ?_ ?_ hb (fun x _ => by show X.A.units + 2 + 0 < cLine; omega) (ksk_s1 _ _) (fun _ => ksk_l1 _ _) (ksk_t4 "len") (fun v z hv hz2 g tk kp => ?_) fun out c g tk kp fr hg' hlen ea => ?_
  · intro d hd d' hd'
    obtain ⟨x, _, rfl⟩ := List.mem_map.mp hd
    obtain ⟨y, _, rfl⟩ := List.mem_map.mp hd'
    rfl
  · refine .inr fun d hd => ?_
    obtain ⟨x, _, rfl⟩ := List.mem_map.mp hd
    exact ⟨(fun z => by cases z), (fun xs z => by cases z)⟩
  · subst hv
    obtain ⟨its2, rv2, ⟨o, go, co, n, dt⟩, hz3⟩ := I1.tuple (show SqT X.K H1 z.1 z.2 from .inl (.inl (hps z hz2)))
    have e2 := rv2.length
    refine len_tuple (s := { s1 with heap := g, toks := tk }) (items := its2.toArray) ⟨o, kp _ _ go, co, n, dt⟩ (by simp only [List.size_toArray]; omega) ⟨g, _, rfl, fun _ _ e => e, ?_⟩
    rw [List.size_toArray, ← e2]
    exact .int _ _
  · have hp := List.mergeSort_perm ps (PySem.W.dataLe false lenD)
    have ho := PySem.W.sort_pairwise (PySem.W.sortLe_total (listOrd itemOrd) false fun b => PySem.W.keyToks (lenD b)) ps
    have ho2 : (ps.mergeSort (PySem.W.dataLe false lenD)).Pairwise fun x y => x.2.length ≤ y.2.length := ho.imp fun {x y} z => of_decide_eq_true ((le_len x y).symm.trans z)
    refine ⟨.ref _, upd H1 (s1.heap.objs.size + 1) (.lst ((ps.mergeSort (PySem.W.dataLe false lenD)).map fun z => .ref z.1)), I1.laid (t' := tk) (fun b u e => kp b u e) (Nat.le_succ _) ⟨?_, out, c, vals_each ea, hg'⟩, rfl, q1 _ _ (I1.hok.fresh (Nat.le_succ _)) hp ho2⟩
    rw [List.length_map, hp.length_eq]
    exact hb
/-! ### promises -/
def spConjugator (K : PySem.W.Frag) : Sp := fun vs H Q _ => ∃ (a b : Addr) (n : Nat) (p q : List Int), vs = [.ref a, .ref b] ∧ Pm H a n p ∧ Pm H b n q ∧ 1 ≤ n ∧ n ≤ 12 ∧ TabG H (PP K) ∧
  ∀ (v : V) (H' : Hp), Ex H H' → ((v = .non ∧ ¬ Alike n p q) ∨ ∃ (c : Addr) (g : List Int), v = .ref c ∧ Pm H' c n g ∧ mulL (mulL (invL g) p) g = q ∧ Alike n p q) → Q v H'
/-- the pairs of a length and the rows of that length -/
structure ByTs (H : Hp) (Ts : List Addr) (ds ls : List Nat) (D : Addr) : Prop where
  len : Ts.length = ds.length
  at_ : ∀ (i d : Nat), ds[i]? = some d → ∃ (t b : Addr) (Bs : List Addr), Ts[i]? = some t ∧ H t = some (.tup [.int d, .ref b]) ∧ H b = some (.lst (Bs.map V.ref)) ∧ b ≠ D ∧ Bs.length = ls.count d
theorem ByTs.ex {H H' : Hp} {Ts : List Addr} {ds ls : List Nat} {D : Addr} (B : ByTs H Ts ds ls D) (x : Ex H H') : ByTs H' Ts ds ls D :=
  ⟨B.len, fun i d e => let ⟨t, b, Bs, e1, e2, e3, e4, e5⟩ := B.at_ i d e; ⟨t, b, Bs, e1, x.st _ _ e2 trivial, x.st _ _ e3 refs_norow, e4, e5⟩⟩
theorem ByTs.upd {H : Hp} {Ts : List Addr} {ds ls : List Nat} {D : Addr} {ys : List V} {o : HO} (B : ByTs H Ts ds ls D) (h : H D = some (.lst ys)) : ByTs (upd H D o) Ts ds ls D :=
  ⟨B.len, fun i d e => let ⟨t, b, Bs, e1, e2, e3, e4, e5⟩ := B.at_ i d e; ⟨t, b, Bs, e1, kp e2 h (fun z => by cases z), by rw [upd_ne e4]; exact e3, e4, e5⟩⟩
theorem ByTs.nil {H : Hp} {ls : List Nat} {D : Addr} : ByTs H [] [] ls D := ⟨rfl, fun i d e => by cases i <;> cases e⟩
theorem ByTs.more {H : Hp} {Ts Bs : List Addr} {ds ls : List Nat} {D t b : Addr} {d : Nat} (B : ByTs H Ts ds ls D) (e2 : H t = some (.tup [.int d, .ref b])) (e3 : H b = some (.lst (Bs.map V.ref))) (e4 : b ≠ D) (e5 : Bs.length = ls.count d) : ByTs H (Ts ++ [t]) (ds ++ [d]) ls D := by
  refine ⟨by rw [List.length_append, List.length_append, B.len]; rfl, fun i y e => ?_⟩
  by_cases hi : i < ds.length
  · rw [List.getElem?_append_left hi] at e
    obtain ⟨t', b', Bs', f1, f2⟩ := B.at_ i y e
    exact ⟨t', b', Bs', by rw [List.getElem?_append_left (by rw [B.len]; exact hi)]; exact f1, f2⟩
  · have hl := (List.getElem?_eq_some_iff.mp e).1
    rw [List.length_append] at hl
    have hl : i < ds.length + 1 := hl
    have ei : i = ds.length := by omega
    subst ei
    rw [List.getElem?_append_right (Nat.le_refl _), Nat.sub_self] at e
    cases e
    exact ⟨t, b, Bs, by rw [List.getElem?_append_right (by rw [B.len]; exact Nat.le_refl _), B.len, Nat.sub_self]; rfl, e2, e3, e4, e5⟩
def spByLength : Sp := fun vs H Q _ => ∃ (a : Addr) (n : Nat) (p : List Int), vs = [.ref a] ∧ Pm H a n p ∧ n ≤ 12 ∧ ∀ (c : Addr) (H' : Hp) (R : List (List Int)) (Ts : List Addr) (ds : List Nat), Ex H H' → Full n p R → H' c = some (.lst (Ts.map V.ref)) → ds.Nodup → (∀ d, d ∈ ds ↔ d ∈ lensN R) → ByTs H' Ts ds (lensN R) c → Q (.ref c) H'
theorem ints_nats {ns : List Int} (h : ∀ x ∈ ns, 0 ≤ x) : ns = (ns.map Int.toNat).map Int.ofNat := by
  rw [List.map_map]
  refine (List.map_id ns).symm.trans (List.map_congr_left fun x hx => ?_)
  have := h x hx
  show x = ((x.toNat : Nat) : Int)
  omega
def spCent (K : PySem.W.Frag) : Sp := fun vs H Q _ => ∃ (a : Addr) (n : Nat) (p : List Int), vs = [.ref a] ∧ Pm H a n p ∧ 1 ≤ n ∧ n ≤ 12 ∧ TabG H (PP K) ∧ ∀ (H' : Hp) (R : List (List Int)), Ex H H' → Full n p R → Q (.int ((czL (List.range 13) (lensN R) : Nat) : Int)) H'
def spLengths : Sp := fun vs H Q _ => ∃ (a : Addr) (n : Nat) (p : List Int), vs = [.ref a] ∧ Pm H a n p ∧ n ≤ 12 ∧ ∀ (c : Addr) (H' : Hp) (R : List (List Int)) (ns : List Int), Ex H H' → Full n p R → ns.Perm (lensL R) → ns.Pairwise (· ≤ ·) → H' c = some (.lst (ns.map V.int)) → Q (.ref c) H'
def spDue : Sp := fun vs H Q _ => ∃ (a : Addr) (ls : List Nat), vs = [.ref a] ∧ H a = some (.lst ((ls.map Int.ofNat).map V.int)) ∧ ls.length ≤ 12 ∧ (∀ x ∈ ls, x ≤ 12) ∧ ∀ (H' : Hp), Ex H H' → Q (.int ((dueI ls ls.length : Nat) : Int)) H'
def spClosure : Sp := fun vs H Q _ => ∃ (t a b : Addr) (n : Nat) (g h : List Int), vs = [.int n, .ref t] ∧ H t = some (.tup [.ref a, .ref b]) ∧ Pm H a n g ∧ Pm H b n h ∧ 1 ≤ n ∧ n ≤ 12 ∧ ∀ (c : Addr) (H' : Hp) (As : List Addr), Ex H H' → H' c = some (.lst (As.map V.ref)) → RowsAt H' As (cloL g h 2000 0 [unitL n]) → (∀ r ∈ cloL g h 2000 0 [unitL n], IsPm n r) → Q (.ref c) H'
theorem nat_at {ls : List Nat} {i d : Nat} (h : ls[i]? = some d) : (ls.map Int.ofNat)[i]? = some (d : Int) := by
  rw [List.getElem?_map, h]
  rfl
theorem nat_map (ls : List Nat) (d : Nat) (k : Nat) : (((ls.take k).filter fun x => decide (x = d)).map Int.ofNat).length = (ls.take k).count d := by
  rw [List.length_map, List.count_eq_length_filter]
  congr 2
/-- where the law's lengths stand: the rows so far, what was seen -/
structure LG (H H1 : Hp) (l sA : Addr) (n : Nat) (p : List Int) (R : List (List Int)) (S : List Int) : Prop where
  ex : Ex H H1
  hl : H1 l = some (.lst ((lensL R).map V.int))
  seen : H1 sA = some (.lst (S.map V.int))
  cyc : Cyc n p R
  nd : S.Nodup
  bd : ∀ x ∈ S, 0 ≤ x ∧ x < (n : Int)
  mn : ∀ r ∈ R, ∀ x ∈ r, r.getD 0 0 ≤ x
  so : (R.map fun r => r.getD 0 0).Pairwise (· < ·)
theorem czL_app (d : Nat) (ls : List Nat) : ∀ as : List Nat, czL (as ++ [d]) ls = czL as ls * (d ^ ls.count d * factN (ls.count d))
  | [] => by
    show d ^ ls.count d * factN (ls.count d) * 1 = 1 * _
    rw [Nat.mul_one, Nat.one_mul]
  | x :: as => by
    rw [List.cons_append, czL_cons, czL_cons, czL_app d ls as]
    simp only [Nat.mul_assoc]
theorem fact_small : ∀ n, n ≤ 12 → factN n < 2 ^ 64 := by decide +kernel
/-! ### the closure's dict -/
def keyI (r : List Int) : List L2.Key := r.map Sum.inl
theorem keyI_at (r : List Int) : (keyI r).map kV = r.map V.int := by
  unfold keyI
  rw [List.map_map]
  rfl
theorem keyI_inj {r s : List Int} (h : keyI r = keyI s) : r = s := by
  unfold keyI at h
  exact (List.map_inj_right fun a b e => Sum.inl.inj e).mp h
theorem valV_has {α : Type} [DecidableEq α] (k : α) : ∀ kvs : List (α × V), (valV kvs k).isSome = decide (k ∈ kvs.map Prod.fst)
  | [] => rfl
  | kv :: kvs => by
    have ih := valV_has k kvs
    unfold valV at ih ⊢
    rw [List.find?_cons]
    by_cases h : kv.1 = k
    · rw [decide_eq_true h, List.map_cons, decide_eq_true (by rw [h]; exact List.mem_cons_self ..)]
      rfl
    · rw [decide_eq_false h, List.map_cons]
      show (Option.map (fun x => x.snd) (kvs.find? fun kv => decide (kv.1 = k))).isSome = decide (k ∈ kv.1 :: kvs.map Prod.fst)
      rw [ih, Bool.eq_iff_iff, decide_eq_true_iff, decide_eq_true_iff]
      exact ⟨fun z => List.mem_cons_of_mem _ z, fun z => (List.mem_cons.mp z).resolve_left fun e => h e.symm⟩
theorem valV_mem {α : Type} [DecidableEq α] {k : α} {kvs : List (α × V)} : (valV kvs k).isSome = true ↔ k ∈ kvs.map Prod.fst := by
  rw [valV_has]
  exact decide_eq_true_iff
theorem putK_new {α : Type} [DecidableEq α] {kvs : List (α × V)} {k : α} (v : V) (h : k ∉ kvs.map Prod.fst) : putK kvs k v = kvs ++ [(k, v)] := by
  unfold putK
  rw [if_neg]
  intro z
  obtain ⟨kv, hm, e⟩ := List.any_eq_true.mp z
  exact h (of_decide_eq_true e ▸ List.mem_map_of_mem hm)
theorem mem_keys {L : List (List Int)} {r : List Int} : keyI r ∈ L.map keyI ↔ r ∈ L := by
  constructor
  · intro h
    obtain ⟨s, hs, e⟩ := List.mem_map.mp h
    exact keyI_inj e ▸ hs
  · exact fun h => List.mem_map_of_mem h
/-- where the closure stands -/
structure CS (H H1 : Hp) (l d : Addr) (n : Nat) (As : List Addr) (L : List (List Int)) : Prop where
  ex : Ex H H1
  hl : H1 l = some (.lst (As.map V.ref))
  rows : RowsAt H1 As L
  hd : ∃ kvs : List (List L2.Key × V), H1 d = some (.dT kvs) ∧ kvs.map Prod.fst = L.map keyI
  pm : ∀ r ∈ L, IsPm n r
theorem CS.exx {H H1 H2 : Hp} {l d : Addr} {n : Nat} {As : List Addr} {L : List (List Int)} (C : CS H H1 l d n As L) (x : Ex H1 H2) : CS H H2 l d n As L := by
  obtain ⟨kvs, h1, h2⟩ := C.hd
  exact ⟨C.ex.trans x, x.st _ _ C.hl refs_norow, C.rows.ex x, ⟨kvs, x.st _ _ h1 trivial, h2⟩, C.pm⟩
theorem addL_get {L : List (List Int)} {i : Nat} {x y : List Int} (h : L[i]? = some x) : (addL L y)[i]? = some x := by
  unfold addL
  split
  · exact h
  · rw [List.getElem?_append_left (List.getElem?_eq_some_iff.mp h).1]
    exact h
theorem addL_len (L : List (List Int)) (y : List Int) : L.length ≤ (addL L y).length ∧ (addL L y).length ≤ L.length + 1 := by
  unfold addL
  split
  · omega
  · rw [List.length_append]
    show _ ∧ _ + 1 ≤ _
    have : (L.length ≤ L.length + [y].length) := Nat.le_add_right _ _
    exact ⟨this, Nat.le_refl _⟩
theorem addL_pm {L : List (List Int)} {y : List Int} {n : Nat} (h : ∀ r ∈ L, IsPm n r) (hy : IsPm n y) : ∀ r ∈ addL L y, IsPm n r := by
  unfold addL
  split
  · exact h
  · intro r hr
    rcases List.mem_append.mp hr with z | z
    · exact h r z
    · rw [List.mem_singleton.mp z]; exact hy
def addG (x : List Int) (G : List (List Int)) (L : List (List Int)) : List (List Int) := G.foldl (fun M q => addL M (mulL x q)) L
theorem addG_snoc (x q : List Int) (G L : List (List Int)) : addG x (G ++ [q]) L = addL (addG x G L) (mulL x q) := by
  unfold addG
  rw [List.foldl_append]
  rfl
theorem addG_get {x r : List Int} {i : Nat} : ∀ {G L : List (List Int)}, L[i]? = some r → (addG x G L)[i]? = some r
  | [], _, h => h
  | q :: G, L, h => addG_get (G := G) (L := addL L (mulL x q)) (addL_get h)
theorem addG_len {x : List Int} : ∀ {G L : List (List Int)}, L.length ≤ (addG x G L).length ∧ (addG x G L).length ≤ L.length + G.length
  | [], L => ⟨Nat.le_refl _, Nat.le_refl _⟩
  | q :: G, L => by
    have a := addL_len L (mulL x q)
    have b := addG_len (x := x) (G := G) (L := addL L (mulL x q))
    show L.length ≤ (addG x G (addL L (mulL x q))).length ∧ (addG x G (addL L (mulL x q))).length ≤ L.length + (G.length + 1)
    omega
end KL
/-! rows sorted by their lengths -/
namespace KL
open PySem PySem.Spec PyProof.Rows L2 GA GxR
abbrev toV (z : Addr × List Int) : Addr × List V := (z.1, z.2.map V.int)
theorem sort_rows {H : Hp} {As : List Addr} {R : List (List Int)} (h : RowsAt H As R) : ∃ ps : List (Addr × List V), (ps.map fun z => V.ref z.1) = As.map V.ref ∧ (∀ z ∈ ps, H z.1 = some (.tup z.2)) ∧
    ∀ qs : List (Addr × List V), qs.Perm ps → qs.Pairwise (fun x y => x.2.length ≤ y.2.length) → ∃ (Xs : List Addr) (Rs : List (List Int)), (qs.map fun z => V.ref z.1) = Xs.map V.ref ∧ Rs.Perm R ∧ Rs.Pairwise (fun x y => x.length ≤ y.length) ∧ RowsAt H Xs Rs := by
  have f1 : (As.zip R).map Prod.fst = As := List.map_fst_zip (by rw [h.len]; exact Nat.le_refl _)
  have f2 : (As.zip R).map Prod.snd = R := List.map_snd_zip (by rw [h.len]; exact Nat.le_refl _)
  have at0 : ∀ z ∈ As.zip R, H z.1 = some (.tup (z.2.map V.int)) := fun z hz => by
    obtain ⟨i, hi⟩ := List.mem_iff_getElem?.mp hz
    obtain ⟨a1, a2⟩ := List.getElem?_zip_eq_some.mp hi
    obtain ⟨a, b1, b2⟩ := h.at_ i z.2 a2
    rw [a1] at b1
    rw [Option.some.inj b1]
    exact b2
  refine ⟨(As.zip R).map toV, ?_, fun z hz => ?_, fun qs hp ho => ?_⟩
  · rw [List.map_map]
    conv => rhs; rw [← f1]
    rw [List.map_map]
    rfl
  · obtain ⟨y, hy, rfl⟩ := List.mem_map.mp hz
    exact at0 y hy
  · obtain ⟨ZI, zp, rfl⟩ := perm_lift toV hp (As.zip R) rfl
    refine ⟨ZI.map Prod.fst, ZI.map Prod.snd, ?_, ?_, ?_, ?_⟩
    · rw [List.map_map, List.map_map]
      rfl
    · have z := zp.map Prod.snd
      rwa [f2] at z
    · rw [List.pairwise_map] at ho ⊢
      exact ho.imp fun {x y} z => by
        have z : (x.2.map V.int).length ≤ (y.2.map V.int).length := z
        rwa [List.length_map, List.length_map] at z
    · refine ⟨by rw [List.length_map, List.length_map], fun i r e => ?_⟩
      rw [List.getElem?_map] at e
      obtain ⟨z, hz, rfl⟩ := Option.map_eq_some_iff.mp e
      exact ⟨z.1, by rw [List.getElem?_map, hz]; rfl, at0 z (zp.mem_iff.mp (List.mem_of_getElem? hz))⟩
theorem eqvL_ints (ns ms : List Int) : PyData.eqv (.list (ns.map PyData.int)) (.list (ms.map PyData.int)) = decide (ns = ms) := by
  rw [← PySem.W.ked_eqvAll, PyData.eqv]
theorem lens_sorted {Rs : List (List Int)} (h : Rs.Pairwise fun x y => x.length ≤ y.length) : (lensL Rs).Pairwise (· ≤ ·) := by
  unfold lensL
  rw [List.pairwise_map]
  exact h.imp fun z => Int.ofNat_le.mpr z
theorem lens_eq {Rs Ss : List (List Int)} (h : lensL Rs = lensL Ss) : Rs.map List.length = Ss.map List.length := by
  rw [lensL_N, lensL_N] at h
  exact (List.map_inj_right fun a b e => Int.ofNat.inj e).mp h
theorem turn_pm {n : Nat} (h1 : 1 ≤ n) (h5 : n ≤ 5) : IsPm n (turnL n) := by
  obtain rfl | rfl | rfl | rfl | rfl : n = 1 ∨ n = 2 ∨ n = 3 ∨ n = 4 ∨ n = 5 := by omega
  all_goals exact ⟨by decide, by decide, by decide⟩
theorem swap_pm {n : Nat} (h1 : 1 ≤ n) (h5 : n ≤ 5) : IsPm n (swapL n) := by
  obtain rfl | rfl | rfl | rfl | rfl : n = 1 ∨ n = 2 ∨ n = 3 ∨ n = 4 ∨ n = 5 := by omega
  all_goals exact ⟨by decide, by decide, by decide⟩
theorem swap_big {n : Nat} (h : 2 ≤ n) : [V.int 1, V.int 0] ++ rgV 2 n = (swapL n).map V.int := by
  obtain ⟨m, rfl⟩ : ∃ m, n = m + 2 := ⟨n - 2, by omega⟩
  show [V.int 1, V.int 0] ++ rgV 2 ((m + 2 : Nat) : Int) = V.int 1 :: V.int 0 :: ((List.range m).map fun i => ((i + 2 : Nat) : Int)).map V.int
  unfold rgV
  rw [show (((m + 2 : Nat) : Int) - 2).toNat = m by omega, List.map_map]
  show V.int 1 :: V.int 0 :: _ = _
  congr 2
  refine List.map_congr_left fun i _ => ?_
  show V.int (2 + (i : Int)) = V.int ((i + 2 : Nat) : Int)
  congr 1
  omega
def turnI (n i : Nat) : List Int := (List.range i).map fun i => (((i + 1) % n : Nat) : Int)
theorem cent_same {n : Nat} {p : List Int} {R S : List (List Int)} (hp : IsPm n p) (F : Full n p R) (G : Full n p S) : czL (List.range 13) (lensN R) = czL (List.range 13) (lensN S) :=
  czL_perm ((F.perm hp G).map List.length : (lensN R).Perm (lensN S))
theorem due_cent {n : Nat} {p : List Int} {R S : List (List Int)} {ns : List Int} {ls : List Nat} (hp : IsPm n p) (hn : n ≤ 12) (F : Full n p R) (G : Full n p S) (h : ns.Perm (lensL S)) (e : ns = ls.map Int.ofNat) : czL (List.range 13) (lensN R) = dueI ls ls.length ∧ ls.length ≤ 12 ∧ ∀ x ∈ ls, x ≤ 12 := by
  have hl : ls.Perm (lensN S) := by
    rw [e, lensL_N] at h
    have z := h.map Int.toNat
    rw [List.map_map, List.map_map] at z
    have i1 : ∀ l : List Nat, l.map (Int.toNat ∘ Int.ofNat) = l := fun l => (List.map_congr_left fun x _ => rfl).trans (List.map_id l)
    rwa [i1, i1] at z
  have le : ∀ x ∈ ls, x ≤ 12 := fun x hx => by
    obtain ⟨r, hr, rfl⟩ := List.mem_map.mp (hl.mem_iff.mp hx)
    have b := bd_len (nodup_row G.cyc.nd r hr) fun y hy => G.cyc.bd y (List.mem_flatten.mpr ⟨r, hr, hy⟩)
    omega
  have len : ls.length ≤ 12 := by
    rw [hl.length_eq]
    unfold lensN
    rw [List.length_map]
    have a := Nat.le_trans (rows_le G.cyc.tn) (bd_len G.cyc.nd G.cyc.bd)
    omega
  have d := dueI_cz (ds := List.range 13) List.nodup_range (fun x hx => List.mem_range.mpr (by have := le x hx; omega)) ls.length (Nat.le_refl _)
  rw [List.take_length] at d
  exact ⟨by rw [d, cent_same hp F G, czL_perm hl], len, le⟩
end KL
/-! texts of permutations: their signs, how they are read -/
namespace KL
open PySem PySem.Spec PyProof.Rows L2 GA GxR
/-- the code points -/
abbrev cp (x : Str) : List Nat := x.cps.toList
def ofL (l : List Nat) : Str := ⟨l.toArray⟩
theorem cp_ofL (l : List Nat) : cp (ofL l) = l := by
  unfold cp ofL
  simp
theorem ofL_cp (x : Str) : ofL (cp x) = x := by
  unfold cp ofL
  simp
theorem cp_inj {x y : Str} (h : cp x = cp y) : x = y := by rw [← ofL_cp x, ← ofL_cp y, h]
theorem cp_app (x y : Str) : cp (x ++ y) = cp x ++ cp y := by
  show (x.cps ++ y.cps).toList = _
  rw [Array.toList_append]
theorem cp_len (x : Str) : x.length = (cp x).length := by
  show x.cps.size = _
  rw [Array.length_toList]
/-! ### join with the table known -/
theorem pe_joinK {X : Cx} {K : PySem.W.Frag} {o e : Expr} {to te : TE} {apos pos : Pos} (hK : X.K = K) (ho : PE X o to) (he : PE X e te) (hs : starEach [e] X.env = [(false, eval e X.env)] := by rfl) (hbase : attributeBase o "join" X.env (eval o X.env) = eval o X.env := by rfl) (hline : (apos.endLine == pos.line) = true := by rfl) :
    PE X (.Call (.Attribute o "join" apos) [e] [] pos) (tM1 (fun x xs H Q => ∃ a p, ∃ ys : List Str, x = .str a ∧ xs = [.ref p] ∧ (SqL K H p (ys.map V.str) ∨ SqT K H p (ys.map V.str)) ∧
      (ys.map (·.length)).sum + ys.length * a.length ≤ 16777216 ∧ Q (.str (Txt.join a ys)) H) to te) := by
  subst hK
  exact pe_join ho he hs hbase hline
/-! ### s * n, s one sign -/
def rMulS : R2 := fun x y H Q => ∃ (c : Nat) (n : Nat), x = .str ⟨#[c]⟩ ∧ y = .int n ∧ n ≤ 1000 ∧ Q (.str (ofL (List.replicate n c))) H
theorem fold_one (c : Nat) : ∀ (n : Nat) (acc : Array Nat), (List.replicate n #[c]).foldl (· ++ ·) acc = acc ++ (List.replicate n c).toArray
  | 0, acc => by simp
  | n + 1, acc => by
    rw [List.replicate_succ, List.foldl_cons, fold_one c n, List.replicate_succ]
    apply Array.toList_inj.mp
    simp
theorem op_repS {X : Cx} : OpR X (binaryOp .Mult) rMulS := by
  intro pins s σ H x y v u Q I rx ry h
  obtain ⟨c, n, rfl, rfl, hn, q⟩ := h
  obtain ⟨t, rfl⟩ := rx
  obtain ⟨t', rfl⟩ := ry
  have l1 : Str.length ⟨#[c]⟩ = 1 := rfl
  refine PySem.P.mul_str (by rw [decide_eq_false (by omega), decide_eq_false (by omega)]; rfl) (fun h1 _ => ?_) (fun _ _ => ?_) ?_
  · rw [l1]
    have : (1 : Int) ≤ (2 ^ 63 - 1) / (n : Int) := by
      apply Int.le_ediv_of_mul_le (by omega)
      omega
    omega
  · rw [l1, Nat.one_mul, Int.toNat_natCast]
    show decide (n > sizeLine) = false
    exact decide_eq_false (by have : (1000 : Nat) < sizeLine := by decide
                              omega)
  · by_cases h0 : n = 0
    · subst h0
      exact ⟨by decide, .str _, H, I.tok _, ⟨_, rfl⟩, q⟩
    · rw [if_neg (show ¬ ((n : Int) < 1) by omega)]
      by_cases h1 : n = 1
      · subst h1
        exact ⟨.str _, H, I, ⟨_, rfl⟩, q⟩
      · rw [if_neg (by
          rw [l1]
          intro z
          have z : ((n : Int) == 1 || false) = true := z
          rw [Bool.or_false] at z
          have := eq_of_beq z
          omega)]
        rw [Int.toNat_natCast, fold_one, Array.empty_append]
        refine ⟨?_, .str _, H, I.tok _, ⟨_, rfl⟩, q⟩
        show (List.replicate n c).toArray.size ≤ sizeLine
        rw [List.size_toArray, List.length_replicate]
        have : (1000 : Nat) < sizeLine := by decide
        omega
/-! ### numbers as texts -/
def digs (n : Nat) : List Nat := if n < 10 then [48 + n] else [48 + n / 10, 48 + n % 10]
theorem digs_all : ∀ n, n < 13 → cp (Str.ofString (toString ((n : Nat) : Int))) = digs n ∧ PySem.intText? (ofL (digs n)) = some ((n : Nat) : Int) := by decide +kernel
theorem digs_str {n : Nat} (h : n < 13) : (Str.ofString (toString ((n : Nat) : Int))) = ofL (digs n) := cp_inj (by rw [(digs_all n h).1, cp_ofL])
abbrev TEN : Str := Str.ofString "0123456789"
theorem ten : cp TEN = [48, 49, 50, 51, 52, 53, 54, 55, 56, 57] := by decide +kernel
def isDig (c : Nat) : Bool := decide (48 ≤ c) && decide (c ≤ 57)
theorem in_ten (c : Nat) : decide (c ∈ cp TEN) = isDig c := by
  rw [ten, Bool.eq_iff_iff, decide_eq_true_iff]
  unfold isDig
  rw [Bool.and_eq_true, decide_eq_true_iff, decide_eq_true_iff]
  simp only [List.mem_cons, List.not_mem_nil, or_false]
  omega
theorem digs_dig {n : Nat} (h : n < 13) : ∀ c ∈ digs n, isDig c = true := by
  unfold digs isDig
  intro c hc
  rw [Bool.and_eq_true, decide_eq_true_iff, decide_eq_true_iff]
  split at hc
  · rw [List.mem_singleton.mp hc]; omega
  · simp only [List.mem_cons, List.not_mem_nil, or_false] at hc
    omega
theorem digs_ne (n : Nat) : ∃ c r, digs n = c :: r ∧ r.length ≤ 1 ∧ (0 < r.length → 10 ≤ n ∧ c = 48 + n / 10) := by
  unfold digs
  split
  · exact ⟨_, [], rfl, Nat.zero_le _, fun h => absurd h (Nat.lt_irrefl _)⟩
  · exact ⟨_, [_], rfl, Nat.le_refl _, fun _ => ⟨by omega, rfl⟩⟩
/-! ### texts in pieces -/
inductive Tok where
  | sp
  | num (n : Nat)
def encT : Tok → List Nat
  | .sp => [32]
  | .num n => digs n
def encB (b : List Tok) : List Nat := (b.map encT).flatten
def nums : List Tok → List Int
  | [] => []
  | .sp :: r => nums r
  | .num n :: r => (n : Int) :: nums r
theorem encB_app (a b : List Tok) : encB (a ++ b) = encB a ++ encB b := by
  unfold encB
  rw [List.map_append, List.flatten_append]
theorem nums_app : ∀ a b : List Tok, nums (a ++ b) = nums a ++ nums b
  | [], b => rfl
  | .sp :: r, b => nums_app r b
  | .num n :: r, b => congrArg ((n : Int) :: ·) (nums_app r b)
/-- no two numbers side by side; all below 12 -/
def Fine : List Tok → Prop
  | [] => True
  | .sp :: r => Fine r
  | .num n :: r => n < 12 ∧ (∀ m s, r ≠ .num m :: s) ∧ Fine r
inductive Pc where
  | sp
  | cyc (b : List Tok)
def encP : Pc → List Nat
  | .sp => [32]
  | .cyc b => 40 :: (encB b ++ [41])
def encPs (ps : List Pc) : List Nat := (ps.map encP).flatten
theorem encPs_app (a b : List Pc) : encPs (a ++ b) = encPs a ++ encPs b := by
  unfold encPs
  rw [List.map_append, List.flatten_append]
def rowsP : List Pc → List (List Int)
  | [] => []
  | .sp :: r => rowsP r
  | .cyc b :: r => nums b :: rowsP r
theorem rowsP_app : ∀ a b : List Pc, rowsP (a ++ b) = rowsP a ++ rowsP b
  | [], b => rfl
  | .sp :: r, b => rowsP_app r b
  | .cyc c :: r, b => congrArg (nums c :: ·) (rowsP_app r b)
def FineP : List Pc → Prop
  | [] => True
  | .sp :: r => FineP r
  | .cyc b :: r => Fine b ∧ FineP r
/-- the sign at a place -/
theorem sign_at {t : Str} {pre post : List Nat} {c : Nat} (h : cp t = pre ++ c :: post) : atI (cp t) ((pre.length : Nat) : Int) = some c := by
  rw [h]
  exact atI_nat (by rw [List.getElem?_append_right (Nat.le_refl _), Nat.sub_self]; rfl)
theorem text_cut {t : Str} {pre ds post : List Nat} (h : cp t = pre ++ (ds ++ post)) : cutS t (some ((pre.length : Nat) : Int)) (some ((pre.length + ds.length : Nat) : Int)) = ofL ds := by
  unfold cutS
  rw [HT.sIx_nat, HT.sIx_nat, cp_len, h]
  have l : (pre ++ (ds ++ post)).length = pre.length + (ds.length + post.length) := by rw [List.length_append, List.length_append]
  rw [l, Nat.min_eq_left (by omega), Nat.min_eq_left (by omega), show t.cps.toList = pre ++ (ds ++ post) from h, List.drop_left, Nat.add_sub_cancel_left, List.take_left]
  rfl
theorem one_sign {c k : Nat} {x : Str} (h : x = ⟨#[k]⟩) : decide (V.str ⟨#[c]⟩ = V.str x) = decide (c = k) := by
  subst h
  by_cases e : c = k
  · rw [e, decide_eq_true rfl, decide_eq_true rfl]
  · rw [decide_eq_false e, decide_eq_false]
    intro z
    have z2 := congrArg cp (V.str.inj z)
    exact e (List.cons.inj z2).1
theorem closing (c : Nat) : decide (V.str ⟨#[c]⟩ = V.str (Str.ofString ")")) = decide (c = 41) := one_sign (by decide +kernel)
theorem opening (c : Nat) : decide (V.str ⟨#[c]⟩ = V.str (Str.ofString "(")) = decide (c = 40) := one_sign (by decide +kernel)
theorem blank (c : Nat) : decide (V.str ⟨#[c]⟩ = V.str (Str.ofString " ")) = decide (c = 32) := one_sign (by decide +kernel)
theorem fine_after {n : Nat} {b : List Tok} {post : List Nat} (h : Fine (.num n :: b)) : ∀ c r, encB b ++ 41 :: post = c :: r → isDig c = false := by
  intro c r e
  cases b with
  | nil =>
    have e : 41 :: post = c :: r := e
    rw [← (List.cons.inj e).1]
    rfl
  | cons k b =>
    cases k with
    | sp =>
      have e : 32 :: (encB b ++ 41 :: post) = c :: r := e
      rw [← (List.cons.inj e).1]
      rfl
    | num m => exact absurd rfl (h.2.1 m b)
/-! ### promises -/
def spEndOf : Sp := fun vs H Q _ => ∃ (t : Str) (pre ds post : List Nat), vs = [.str t, .int ((pre.length : Nat) : Int)] ∧ cp t = pre ++ (ds ++ post) ∧ t.length ≤ 1000 ∧ (∀ c ∈ ds, isDig c = true) ∧ (∀ c r, post = c :: r → isDig c = false) ∧ Q (.int ((pre.length + ds.length : Nat) : Int)) H
def spNamed : Sp := fun vs H Q _ => ∃ (d n : Nat), vs = [.int d, .str (ofL (digs n))] ∧ n < 12 ∧ n < d ∧ Q (.int n) H
def spReadCycle : Sp := fun vs H Q _ => ∃ (t : Str) (d : Nat) (u : Addr) (us : List Int) (pre post : List Nat) (b : List Tok), vs = [.int d, .str t, .int ((pre.length : Nat) : Int), .ref u] ∧ cp t = pre ++ (encB b ++ 41 :: post) ∧ t.length ≤ 1000 ∧ Fine b ∧ H u = some (.lst (us.map V.int)) ∧ (us ++ nums b).Nodup ∧ (us ++ nums b).length ≤ 12 ∧ (∀ x ∈ nums b, x < d) ∧
  ∀ (a c : Addr) (H' : Hp), Ex H H' → H' a = some (.tup [.ref c, .int ((pre.length + (encB b).length + 1 : Nat) : Int)]) → H' c = some (.lst ((nums b).map V.int)) → H c = none → Q (.ref a) H'
/-- p turns each row, and fixes what is in none -/
structure FromRows (n : Nat) (p : List Int) (Rs : List (List Int)) : Prop where
  pm : IsPm n p
  tn : ∀ r ∈ Rs, r = [] ∨ Turn p r
  fx : ∀ x : Int, 0 ≤ x → x < n → x ∉ Rs.flatten → p[x.toNat]? = some x
  nd : Rs.flatten.Nodup
  bd : ∀ x ∈ Rs.flatten, 0 ≤ x ∧ x < (n : Int)
/-- L has p's images at the points of S, its own elsewhere -/
structure Turned (n : Nat) (p S L : List Int) : Prop where
  len : L.length = n
  at_ : ∀ x : Int, 0 ≤ x → x < n → L[x.toNat]? = if x ∈ S then p[x.toNat]? else some x
theorem Turned.start {n : Nat} {p : List Int} : Turned n p [] (unitL n) := by
  refine ⟨(unit_pm n).len, fun x h0 h1 => ?_⟩
  rw [if_neg (fun h => by cases h), unitL_get (by omega)]
  congr 1
  omega
theorem Turned.step {n : Nat} {p S L : List Int} {x y : Int} (t : Turned n p S L) (h0 : 0 ≤ x) (h1 : x < n) (hy : p[x.toNat]? = some y) : Turned n p (S ++ [x]) (L.set x.toNat y) := by
  refine ⟨by rw [List.length_set]; exact t.len, fun z z0 z1 => ?_⟩
  by_cases e : z = x
  · subst e
    rw [List.getElem?_set_self (by rw [t.len]; omega), if_pos (List.mem_append_right _ (List.mem_cons_self ..)), hy]
  · rw [List.getElem?_set_ne (by omega), t.at_ z z0 z1]
    by_cases c : z ∈ S
    · rw [if_pos c, if_pos (List.mem_append_left _ c)]
    · rw [if_neg c, if_neg (fun h => by
        rcases List.mem_append.mp h with h | h
        · exact c h
        · exact e (List.mem_singleton.mp h))]
theorem Turned.done {n : Nat} {p L : List Int} {Rs : List (List Int)} (t : Turned n p Rs.flatten L) (F : FromRows n p Rs) : L = p := by
  refine pm_ext (n := n) t.len F.pm.len fun j hj => ?_
  have z := t.at_ (j : Int) (by omega) (by omega)
  rw [show ((j : Nat) : Int).toNat = j by omega] at z
  rw [z]
  by_cases c : (j : Int) ∈ Rs.flatten
  · rw [if_pos c]
  · rw [if_neg c]
    have f := F.fx (j : Int) (by omega) (by omega) c
    rw [show ((j : Nat) : Int).toNat = j by omega] at f
    exact f.symm
/-- the rows as lists -/
structure ListsAt (H : Hp) (As : List Addr) (R : List (List Int)) : Prop where
  len : As.length = R.length
  at_ : ∀ (i : Nat) (r : List Int), R[i]? = some r → ∃ a : Addr, As[i]? = some a ∧ H a = some (.lst (r.map V.int))
theorem ListsAt.ex {H H' : Hp} {As : List Addr} {R : List (List Int)} (x : Ex H H') (h : ListsAt H As R) : ListsAt H' As R :=
  ⟨h.len, fun i r e => let ⟨a, e1, e2⟩ := h.at_ i r e; ⟨a, e1, x.i e2⟩⟩
def spFromCycles : Sp := fun vs H Q _ => ∃ (a : Addr) (n : Nat) (p : List Int) (As : List Addr) (Rs : List (List Int)), vs = [.int n, .ref a] ∧ H a = some (.lst (As.map V.ref)) ∧ ListsAt H As Rs ∧ FromRows n p Rs ∧ n ≤ 12 ∧ Rs.length ≤ 1000 ∧ ∀ c H', Ex H H' → Pm H' c n p → Q (.ref c) H'
def spRead : Sp := fun vs H Q _ => ∃ (t : Str) (n : Nat) (ps : List Pc) (p : List Int), vs = [.int n, .str t] ∧ 1 ≤ n ∧ n ≤ 12 ∧ cp t = encPs ps ∧ t.length ≤ 1000 ∧ FineP ps ∧ rowsP ps ≠ [] ∧ FromRows n p (rowsP ps) ∧ ∀ c H', Ex H H' → Pm H' c n p → Q (.ref c) H'
theorem rowsP_len : ∀ ps : List Pc, (rowsP ps).length ≤ (encPs ps).length
  | [] => Nat.le_refl _
  | .sp :: r => by
    have := rowsP_len r
    show (rowsP r).length ≤ ([32] ++ encPs r).length
    rw [List.length_append]
    omega
  | .cyc b :: r => by
    have := rowsP_len r
    show (nums b :: rowsP r).length ≤ (40 :: (encB b ++ [41]) ++ encPs r).length
    rw [List.length_append, List.length_cons, List.length_cons]
    omega
/-- where the reading stands -/
structure RD (H H1 : Hp) (l u : Addr) (As : List Addr) (R : List (List Int)) : Prop where
  ex : Ex H H1
  hl : H1 l = some (.lst (As.map V.ref))
  rows : ListsAt H1 As R
  hu : H1 u = some (.lst (R.flatten.map V.int))
  nl : ∀ a ∈ As, a ≠ l
  ul : u ≠ l
theorem RD.more {H H1 H2 : Hp} {l u c v : Addr} {As : List Addr} {R : List (List Int)} {r : List Int} (D : RD H H1 l u As R) (nl0 : H l = none) (x : Ex H1 H2) (hc : H2 c = some (.lst (r.map V.int))) (nc : H1 c = none) (nv : upd H2 l (.lst (As.map V.ref ++ [V.ref c])) v = none) :
    RD H (upd (upd H2 l (.lst (As.map V.ref ++ [V.ref c]))) v (.lst (R.flatten.map V.int ++ r.map V.int))) l v (As ++ [c]) (R ++ [r]) := by
  have hl2 := x.st _ _ D.hl refs_norow
  have cl : c ≠ l := fun z => by rw [z, D.hl] at nc; cases nc
  have x3 : Ex H (upd H2 l (.lst (As.map V.ref ++ [V.ref c]))) := (D.ex.trans x).own nl0
  have hl3 : upd H2 l (.lst (As.map V.ref ++ [V.ref c])) l = some (.lst (As.map V.ref ++ [V.ref c])) := upd_same
  have vl : v ≠ l := fun z => by rw [z, hl3] at nv; cases nv
  refine ⟨x3.trans (Ex.new nv), by rw [upd_ne (Ne.symm vl), hl3, List.map_append]; rfl, ⟨by rw [List.length_append, List.length_append, D.rows.len]; rfl, fun i s e => ?_⟩, ?_, ?_, vl⟩
  · by_cases hi : i < R.length
    · rw [List.getElem?_append_left hi] at e
      obtain ⟨a, f1, f2⟩ := (D.rows.ex x).at_ i s e
      have al := D.nl a (List.mem_of_getElem? f1)
      have a3 : upd H2 l (.lst (As.map V.ref ++ [V.ref c])) a = some (.lst (s.map V.int)) := by rw [upd_ne al]; exact f2
      exact ⟨a, by rw [List.getElem?_append_left (by rw [D.rows.len]; exact hi)]; exact f1, by rw [upd_ne (ne_of_none a3 nv)]; exact a3⟩
    · have hl := (List.getElem?_eq_some_iff.mp e).1
      rw [List.length_append] at hl
      have hl : i < R.length + 1 := hl
      have ei : i = R.length := by omega
      subst ei
      rw [List.getElem?_append_right (Nat.le_refl _), Nat.sub_self] at e
      cases e
      have c3 : upd H2 l (.lst (As.map V.ref ++ [V.ref c])) c = some (.lst (r.map V.int)) := by rw [upd_ne cl]; exact hc
      exact ⟨c, by rw [List.getElem?_append_right (by rw [D.rows.len]; exact Nat.le_refl _), D.rows.len, Nat.sub_self]; rfl, by rw [upd_ne (ne_of_none c3 nv)]; exact c3⟩
  · rw [upd_same, List.flatten_append, List.flatten_cons, List.flatten_nil, List.append_nil, List.map_append]
  · intro a ha
    rcases List.mem_append.mp ha with z | z
    · exact D.nl a z
    · rw [List.mem_singleton.mp z]; exact cl
end KL
/-! greatest powers, roots -/
namespace KL
open PySem PySem.Spec PyProof.Rows L2 GA GxR
def sqs (q j : Nat) : List Int := (List.range (j + 1)).map fun i => ((q ^ 2 ^ i : Nat) : Int)
theorem sqs_more (q j : Nat) : sqs q (j + 1) = sqs q j ++ [((q ^ 2 ^ (j + 1) : Nat) : Int)] := by
  unfold sqs
  rw [List.range_succ, List.map_append]
  rfl
theorem sqs_len (q j : Nat) : (sqs q j).length = j + 1 := by
  unfold sqs
  rw [List.length_map, List.length_range]
theorem sqs_get {q j i : Nat} (h : i ≤ j) : (sqs q j)[i]? = some ((q ^ 2 ^ i : Nat) : Int) := by
  unfold sqs
  rw [List.getElem?_map, List.getElem?_range (by omega)]
  rfl
theorem sq_mul (q j : Nat) : q ^ 2 ^ j * q ^ 2 ^ j = q ^ 2 ^ (j + 1) := by
  rw [← Nat.pow_add, Nat.pow_succ]
  congr 1
  omega
/-- the squares that divide are few -/
theorem sq_few {q n j : Nat} (hq : 2 ≤ q) (hs : ∀ k, q ^ k ∣ n → q ^ k ≤ 4000) (h : q ^ 2 ^ j ∣ n) : j < 4 := by
  have a := hs _ h
  have b : 2 ^ 2 ^ j ≤ q ^ 2 ^ j := Nat.pow_le_pow_left hq _
  have c : 2 ^ j < 12 := (Nat.pow_lt_pow_iff_right (by omega : 1 < 2)).mp (show 2 ^ 2 ^ j < 2 ^ 12 by omega)
  exact (Nat.pow_lt_pow_iff_right (by omega : 1 < 2)).mp (show 2 ^ j < 2 ^ 4 by omega)
theorem sq_step {s x : Nat} (hs : 0 < s) (h : s ∣ x) (n : ¬ s * s ∣ x) : ¬ s ∣ x / s := fun z => by
  obtain ⟨y, rfl⟩ := h
  rw [Nat.mul_div_cancel_left _ hs] at z
  exact n (Nat.mul_dvd_mul_left s z)
theorem great_end {q x k : Nat} (hq : 2 ≤ q) (h : ¬ q ∣ x) : q ^ k ∣ x * q ^ k ∧ ¬ q ^ (k + 1) ∣ x * q ^ k := by
  refine ⟨Nat.dvd_mul_left _ _, fun z => h ?_⟩
  rw [Nat.pow_succ, Nat.mul_comm x] at z
  exact Nat.dvd_of_mul_dvd_mul_left (Nat.pow_pos (by omega)) z
theorem mod_dvd {a b : Nat} : decide (((a : Nat) : Int) % ((b : Nat) : Int) = 0) = decide (b ∣ a) := by
  rw [decide_eq_decide, ← Int.natCast_emod]
  constructor
  · intro h
    exact Nat.dvd_of_mod_eq_zero (by omega)
  · intro h
    rw [Nat.mod_eq_zero_of_dvd h]
    rfl
def spGreatest : Sp := fun vs H Q _ => ∃ q n : Nat, vs = [.int q, .int n] ∧ 2 ≤ q ∧ q ≤ 11 ∧ 1 ≤ n ∧ (∀ k, q ^ k ∣ n → q ^ k ≤ 4000) ∧ ∀ (k : Nat) H', Ex H H' → q ^ k ∣ n → ¬ q ^ (k + 1) ∣ n → Q (.int ((q ^ k : Nat) : Int)) H'
def spRingL : Sp := fun vs H Q _ => ∃ (a : Addr) (n : Nat) (p : List Int) (x : Int), vs = [.ref a, .int x] ∧ Pm H a n p ∧ n ≤ 12 ∧ 0 ≤ x ∧ x < n ∧ ∀ (c : Addr) (H' : Hp) (r : List Int), Ex H H' → Turn p r → r.Nodup → r[0]? = some x → (∀ y ∈ r, 0 ≤ y ∧ y < n) → H' c = some (.lst (r.map V.int)) → Q (.ref c) H'
def spLawPowerN : Sp := fun vs H Q _ => ∃ (a : Addr) (n : Nat) (p : List Int) (e : Nat), vs = [.ref a, .int e] ∧ Pm H a n p ∧ n ≤ 12 ∧ ∀ c H', Ex H H' → Pm H' c n (pwL n p e) → Q (.ref c) H'
def spFromCyclesT : Sp := fun vs H Q _ => ∃ (a : Addr) (n : Nat) (p : List Int) (As : List Addr) (Rs : List (List Int)), vs = [.int n, .ref a] ∧ H a = some (.lst (As.map V.ref)) ∧ RowsAt H As Rs ∧ FromRows n p Rs ∧ n ≤ 12 ∧ Rs.length ≤ 1000 ∧ ∀ c H', Ex H H' → Pm H' c n p → Q (.ref c) H'
end KL
/-! roots: the mathematics -/
namespace KL
open PySem PySem.Spec PyProof.Rows L2 GA GxR
/-! ### the divisor of a length and an exponent -/
def gpN (q : Nat) : Nat → Nat → Nat
  | 0, _ => 1
  | f + 1, e => if e % q = 0 then q * gpN q f (e / q) else 1
theorem gpN_pow {q : Nat} (hq : 2 ≤ q) : ∀ (f e k : Nat), q ^ k ∣ e → ¬ q ^ (k + 1) ∣ e → k ≤ f → gpN q f e = q ^ k
  | 0, e, k, _, _, hk => by
    have : k = 0 := by omega
    subst this
    rfl
  | f + 1, e, 0, _, h2, _ => by
    unfold gpN
    rw [if_neg (fun h => h2 (by rw [Nat.zero_add, Nat.pow_one]; exact Nat.dvd_of_mod_eq_zero h))]
    rfl
  | f + 1, e, k + 1, h1, h2, hk => by
    have hd : q ∣ e := Nat.dvd_trans ⟨q ^ k, by rw [Nat.pow_succ, Nat.mul_comm]⟩ h1
    obtain ⟨y, rfl⟩ := hd
    have q0 : 0 < q := by omega
    unfold gpN
    rw [if_pos (Nat.mul_mod_right _ _), Nat.mul_div_cancel_left _ q0, gpN_pow hq f y k ?_ ?_ (by omega), Nat.pow_succ, Nat.mul_comm]
    · rw [Nat.pow_succ, Nat.mul_comm] at h1
      exact Nat.dvd_of_mul_dvd_mul_left q0 h1
    · intro z
      refine h2 ?_
      rw [Nat.pow_succ q (k + 1), Nat.mul_comm]
      exact Nat.mul_dvd_mul_left q z
/-- an exponent with few small factors -/
structure EOk (e : Nat) : Prop where
  pos : 1 ≤ e
  sm : ∀ q, 2 ≤ q → q ≤ 11 → ∀ k, q ^ k ∣ e → q ^ k ≤ 4000
theorem EOk.k11 {e q k : Nat} (h : EOk e) (h2 : 2 ≤ q) (h11 : q ≤ 11) (hk : q ^ k ∣ e) : k ≤ 11 := by
  have a := h.sm q h2 h11 k hk
  have b : 2 ^ k ≤ q ^ k := Nat.pow_le_pow_left h2 _
  have c : k < 12 := (Nat.pow_lt_pow_iff_right (by omega : 1 < 2)).mp (show 2 ^ k < 2 ^ 12 by omega)
  omega
theorem EOk.max {e q : Nat} (h : EOk e) (h2 : 2 ≤ q) (h11 : q ≤ 11) : ∃ k, q ^ k ∣ e ∧ ¬ q ^ (k + 1) ∣ e ∧ k ≤ 11 := by
  apply Classical.byContradiction
  intro hn
  have all : ∀ k, q ^ k ∣ e := by
    intro k
    induction k with
    | zero => rw [Nat.pow_zero]; exact Nat.one_dvd _
    | succ k ih =>
      apply Classical.byContradiction
      intro z
      exact hn ⟨k, ih, z, h.k11 h2 h11 ih⟩
  have := h.k11 h2 h11 (all 12)
  omega
def prs : List Nat := [2, 3, 5, 7, 11]
def dvP (ps : List Nat) (l e : Nat) : Nat := ps.foldl (fun d q => if l % q = 0 then d * gpN q 12 e else d) 1
def dvN (l e : Nat) : Nat := dvP prs l e
theorem dvP_snoc (ps : List Nat) (q l e : Nat) : dvP (ps ++ [q]) l e = if l % q = 0 then dvP ps l e * gpN q 12 e else dvP ps l e := by
  unfold dvP
  rw [List.foldl_append]
  rfl
theorem pow_dvd {a b : Nat} (h : a ∣ b) (n : Nat) : a ^ n ∣ b ^ n := by
  obtain ⟨c, rfl⟩ := h
  exact ⟨c ^ n, Nat.mul_pow _ _ _⟩
/-- what one prime gives -/
theorem EOk.part {e : Nat} (h : EOk e) (l q : Nat) (h2 : 2 ≤ q) (h11 : q ≤ 11) : ∃ k, (if l % q = 0 then gpN q 12 e else 1) = q ^ k ∧ q ^ k ∣ e ∧ (l % q = 0 → ¬ q ^ (k + 1) ∣ e) ∧ q ^ k ∣ l ^ 11 := by
  by_cases c : l % q = 0
  · obtain ⟨k, a, b, d⟩ := h.max h2 h11
    exact ⟨k, by rw [if_pos c, gpN_pow h2 12 e k a b (by omega)], a, fun _ => b, Nat.dvd_trans (Nat.pow_dvd_pow q d) (pow_dvd (Nat.dvd_of_mod_eq_zero c) 11)⟩
  · exact ⟨0, by rw [if_neg c]; rfl, by rw [Nat.pow_zero]; exact Nat.one_dvd _, fun z => absurd z c, by rw [Nat.pow_zero]; exact Nat.one_dvd _⟩
theorem if_mul (c : Prop) [Decidable c] (d x : Nat) : (if c then d * x else d) = d * (if c then x else 1) := by
  by_cases h : c
  · rw [if_pos h, if_pos h]
  · rw [if_neg h, if_neg h, Nat.mul_one]
theorem dvN_parts {e : Nat} (h : EOk e) (l : Nat) : ∃ a b c d f, dvN l e = 2 ^ a * 3 ^ b * 5 ^ c * 7 ^ d * 11 ^ f ∧ (2 ^ a ∣ e ∧ (l % 2 = 0 → ¬ 2 ^ (a + 1) ∣ e) ∧ 2 ^ a ∣ l ^ 11) ∧ (3 ^ b ∣ e ∧ (l % 3 = 0 → ¬ 3 ^ (b + 1) ∣ e) ∧ 3 ^ b ∣ l ^ 11) ∧ (5 ^ c ∣ e ∧ (l % 5 = 0 → ¬ 5 ^ (c + 1) ∣ e) ∧ 5 ^ c ∣ l ^ 11) ∧ (7 ^ d ∣ e ∧ (l % 7 = 0 → ¬ 7 ^ (d + 1) ∣ e) ∧ 7 ^ d ∣ l ^ 11) ∧ (11 ^ f ∣ e ∧ (l % 11 = 0 → ¬ 11 ^ (f + 1) ∣ e) ∧ 11 ^ f ∣ l ^ 11) := by
  obtain ⟨a, a1, a2, a3, a4⟩ := h.part l 2 (by omega) (by omega)
  obtain ⟨b, b1, b2, b3, b4⟩ := h.part l 3 (by omega) (by omega)
  obtain ⟨c, c1, c2, c3, c4⟩ := h.part l 5 (by omega) (by omega)
  obtain ⟨d, d1, d2, d3, d4⟩ := h.part l 7 (by omega) (by omega)
  obtain ⟨f, f1, f2, f3, f4⟩ := h.part l 11 (by omega) (by omega)
  refine ⟨a, b, c, d, f, ?_, ⟨a2, a3, a4⟩, ⟨b2, b3, b4⟩, ⟨c2, c3, c4⟩, ⟨d2, d3, d4⟩, ⟨f2, f3, f4⟩⟩
  unfold dvN dvP prs
  simp only [List.foldl_cons, List.foldl_nil, if_mul, a1, b1, c1, d1, f1, Nat.one_mul]
theorem cop {p q : Nat} (h : Nat.Coprime p q) (a b : Nat) : Nat.Coprime (p ^ a) (q ^ b) := Nat.Coprime.pow a b h
theorem five_dvd {a b c d f X : Nat} (a2 : 2 ^ a ∣ X) (b2 : 3 ^ b ∣ X) (c2 : 5 ^ c ∣ X) (d2 : 7 ^ d ∣ X) (f2 : 11 ^ f ∣ X) : 2 ^ a * 3 ^ b * 5 ^ c * 7 ^ d * 11 ^ f ∣ X := by
  have h23 := cop (show Nat.Coprime 2 3 by decide) a b
  have h25 := cop (show Nat.Coprime 2 5 by decide) a c
  have h27 := cop (show Nat.Coprime 2 7 by decide) a d
  have h2b := cop (show Nat.Coprime 2 11 by decide) a f
  have h35 := cop (show Nat.Coprime 3 5 by decide) b c
  have h37 := cop (show Nat.Coprime 3 7 by decide) b d
  have h3b := cop (show Nat.Coprime 3 11 by decide) b f
  have h57 := cop (show Nat.Coprime 5 7 by decide) c d
  have h5b := cop (show Nat.Coprime 5 11 by decide) c f
  have h7b := cop (show Nat.Coprime 7 11 by decide) d f
  have k1 := Nat.Coprime.mul_dvd_of_dvd_of_dvd h23 a2 b2
  have c1 := Nat.Coprime.mul_left h25 h35
  have k2 := Nat.Coprime.mul_dvd_of_dvd_of_dvd c1 k1 c2
  have c2' := Nat.Coprime.mul_left (Nat.Coprime.mul_left h27 h37) h57
  have k3 := Nat.Coprime.mul_dvd_of_dvd_of_dvd c2' k2 d2
  have c3' := Nat.Coprime.mul_left (Nat.Coprime.mul_left (Nat.Coprime.mul_left h2b h3b) h5b) h7b
  exact Nat.Coprime.mul_dvd_of_dvd_of_dvd c3' k3 f2
theorem dvN_dvd {e : Nat} (h : EOk e) (l : Nat) : dvN l e ∣ e := by
  obtain ⟨a, b, c, d, f, ed, ⟨a2, _⟩, ⟨b2, _⟩, ⟨c2, _⟩, ⟨d2, _⟩, ⟨f2, _⟩⟩ := dvN_parts h l
  rw [ed]
  exact five_dvd a2 b2 c2 d2 f2
theorem dvN_pow {e : Nat} (h : EOk e) (l : Nat) : dvN l e ∣ l ^ 11 := by
  obtain ⟨a, b, c, d, f, ed, ⟨_, _, a2⟩, ⟨_, _, b2⟩, ⟨_, _, c2⟩, ⟨_, _, d2⟩, ⟨_, _, f2⟩⟩ := dvN_parts h l
  rw [ed]
  exact five_dvd a2 b2 c2 d2 f2
theorem dvN_pos {e : Nat} (h : EOk e) (l : Nat) : 0 < dvN l e := Nat.pos_of_dvd_of_pos (dvN_dvd h l) h.pos
theorem small_div : ∀ g, g < 13 → g ≠ 1 → g ≠ 0 → ∃ q, (q = 2 ∨ q = 3 ∨ q = 5 ∨ q = 7 ∨ q = 11) ∧ g % q = 0 := by
  intro g h1 h2 h3
  have z : g = 2 ∨ g = 3 ∨ g = 4 ∨ g = 5 ∨ g = 6 ∨ g = 7 ∨ g = 8 ∨ g = 9 ∨ g = 10 ∨ g = 11 ∨ g = 12 := by omega
  rcases z with rfl | rfl | rfl | rfl | rfl | rfl | rfl | rfl | rfl | rfl | rfl
  · exact ⟨2, .inl rfl, rfl⟩
  · exact ⟨3, .inr (.inl rfl), rfl⟩
  · exact ⟨2, .inl rfl, rfl⟩
  · exact ⟨5, .inr (.inr (.inl rfl)), rfl⟩
  · exact ⟨2, .inl rfl, rfl⟩
  · exact ⟨7, .inr (.inr (.inr (.inl rfl))), rfl⟩
  · exact ⟨2, .inl rfl, rfl⟩
  · exact ⟨3, .inr (.inl rfl), rfl⟩
  · exact ⟨2, .inl rfl, rfl⟩
  · exact ⟨11, .inr (.inr (.inr (.inr rfl))), rfl⟩
  · exact ⟨2, .inl rfl, rfl⟩
/-- what is left of the exponent has no factor with the length in common -/
theorem dvN_cop {e l x : Nat} (h : EOk e) (h1 : 1 ≤ l) (h12 : l ≤ 12) (hx : e = dvN l e * x) : Nat.Coprime x l := by
  apply Classical.byContradiction
  intro hn
  have hg : Nat.gcd x l ≠ 1 := hn
  have gl : Nat.gcd x l ∣ l := Nat.gcd_dvd_right _ _
  have gx : Nat.gcd x l ∣ x := Nat.gcd_dvd_left _ _
  have g13 : Nat.gcd x l < 13 := by have := Nat.le_of_dvd (by omega) gl; omega
  have g0 : Nat.gcd x l ≠ 0 := fun z => by
    have := Nat.eq_zero_of_gcd_eq_zero_right z
    omega
  obtain ⟨q, hq, hm⟩ := small_div _ g13 hg g0
  have qg : q ∣ Nat.gcd x l := Nat.dvd_of_mod_eq_zero hm
  have ql : l % q = 0 := Nat.mod_eq_zero_of_dvd (Nat.dvd_trans qg gl)
  obtain ⟨y, hy⟩ := Nat.dvd_trans qg gx
  obtain ⟨a, b, c, d, f, ed, ⟨_, a3, _⟩, ⟨_, b3, _⟩, ⟨_, c3, _⟩, ⟨_, d3, _⟩, ⟨_, f3, _⟩⟩ := dvN_parts h l
  have key : ∀ k m, dvN l e = q ^ k * m → q ^ (k + 1) ∣ e := fun k m em => by
    rw [hx, em, hy]
    exact ⟨m * y, by rw [Nat.pow_succ]; simp only [Nat.mul_assoc, Nat.mul_comm, Nat.mul_left_comm]⟩
  rcases hq with rfl | rfl | rfl | rfl | rfl
  · exact a3 ql (key a (3 ^ b * 5 ^ c * 7 ^ d * 11 ^ f) (by rw [ed]; simp only [Nat.mul_assoc, Nat.mul_comm, Nat.mul_left_comm]))
  · exact b3 ql (key b (2 ^ a * 5 ^ c * 7 ^ d * 11 ^ f) (by rw [ed]; simp only [Nat.mul_assoc, Nat.mul_comm, Nat.mul_left_comm]))
  · exact c3 ql (key c (2 ^ a * 3 ^ b * 7 ^ d * 11 ^ f) (by rw [ed]; simp only [Nat.mul_assoc, Nat.mul_comm, Nat.mul_left_comm]))
  · exact d3 ql (key d (2 ^ a * 3 ^ b * 5 ^ c * 11 ^ f) (by rw [ed]; simp only [Nat.mul_assoc, Nat.mul_comm, Nat.mul_left_comm]))
  · exact f3 ql (key f (2 ^ a * 3 ^ b * 5 ^ c * 7 ^ d) (by rw [ed]; simp only [Nat.mul_assoc, Nat.mul_comm, Nat.mul_left_comm]))
/-- it divides what the exponent has in common with a cycle of which such ones come -/
theorem dvN_gcd {e l L : Nat} (h : EOk e) (h1 : 1 ≤ l) (h12 : l ≤ 12) (hL : L = l * Nat.gcd L e) : dvN l e ∣ Nat.gcd L e := by
  obtain ⟨x, hx⟩ := dvN_dvd h l
  have hc := dvN_cop h h1 h12 hx
  have D0 := dvN_pos h l
  have G0 : 0 < Nat.gcd L e := Nat.gcd_pos_of_pos_right _ h.pos
  have g0 : 0 < Nat.gcd (dvN l e) (Nat.gcd L e) := Nat.gcd_pos_of_pos_left _ D0
  obtain ⟨D', G', cop', eD, eG⟩ : ∃ D' G', Nat.Coprime D' G' ∧ dvN l e = Nat.gcd (dvN l e) (Nat.gcd L e) * D' ∧ Nat.gcd L e = Nat.gcd (dvN l e) (Nat.gcd L e) * G' := by
    refine ⟨dvN l e / Nat.gcd (dvN l e) (Nat.gcd L e), Nat.gcd L e / Nat.gcd (dvN l e) (Nat.gcd L e), Nat.coprime_div_gcd_div_gcd g0, ?_, ?_⟩
    · rw [Nat.mul_div_cancel' (Nat.gcd_dvd_left _ _)]
    · rw [Nat.mul_div_cancel' (Nat.gcd_dvd_right _ _)]
  generalize Nat.gcd (dvN l e) (Nat.gcd L e) = d0 at g0 eD eG
  have Ge : Nat.gcd L e ∣ e := Nat.gcd_dvd_right _ _
  have G'x : G' ∣ x := by
    have z : d0 * G' ∣ d0 * (D' * x) := by
      rw [← Nat.mul_assoc, ← eD, ← hx, ← eG]
      exact Ge
    have z2 := Nat.dvd_of_mul_dvd_mul_left g0 z
    exact (Nat.Coprime.symm cop').dvd_of_dvd_mul_left z2
  obtain ⟨y, rfl⟩ := G'x
  have e3 : e = Nat.gcd L e * (D' * y) := by
    conv => lhs; rw [hx, eD]
    conv => rhs; rw [eG]
    simp only [Nat.mul_assoc, Nat.mul_comm, Nat.mul_left_comm]
  have c1 : Nat.Coprime l (D' * y) := by
    have z := Nat.gcd_mul_left (Nat.gcd L e) l (D' * y)
    rw [← e3, Nat.mul_comm, ← hL] at z
    have z2 : Nat.gcd L e * 1 = Nat.gcd L e * Nat.gcd l (D' * y) := by rw [Nat.mul_one]; exact z
    exact (Nat.eq_of_mul_eq_mul_left G0 z2).symm
  have c2 : Nat.Coprime D' l := (Nat.Coprime.coprime_mul_right_right c1).symm
  have d1 : D' ∣ l ^ 11 := Nat.dvd_trans ⟨d0, by rw [eD, Nat.mul_comm]⟩ (dvN_pow h l)
  have c3 : Nat.Coprime D' (l ^ 11) := Nat.Coprime.pow_right 11 c2
  have one : D' = 1 := Nat.Coprime.eq_one_of_dvd c3 d1
  rw [eD, eG, one, Nat.mul_one]
  exact Nat.dvd_mul_right _ _
/-! ### the places of a merged cycle -/
def plc (D l e : Nat) : List Int := (List.range (D * l)).map fun t => (((t / l + t % l * e) % (D * l) : Nat) : Int)
theorem plc_inj {e D l x i j i' j' : Nat} (he : e = D * x) (hc : Nat.Coprime x l) (hD : 0 < D) (hl : 0 < l) (hi : i < D) (hi' : i' < D) (hj : j < l) (hj' : j' < l) (h : (i + j * e) % (D * l) = (i' + j' * e) % (D * l)) : i = i' ∧ j = j' := by
  have a : (i + j * e) % D = (i' + j' * e) % D := by
    have z := congrArg (· % D) h
    simp only [Nat.mod_mul_right_mod] at z
    exact z
  have e1 : ∀ i j : Nat, i < D → (i + j * e) % D = i := fun i j hi => by
    rw [he, ← Nat.mul_assoc, Nat.mul_right_comm, Nat.mul_comm _ D, Nat.add_mul_mod_self_left, Nat.mod_eq_of_lt hi]
  have ei : i = i' := by rw [e1 i j hi, e1 i' j' hi'] at a; exact a
  subst ei
  refine ⟨rfl, ?_⟩
  have key : ∀ j j' : Nat, j ≤ j' → j' < l → (i + j * e) % (D * l) = (i + j' * e) % (D * l) → j = j' := fun j j' hle hj' h => by
    have le1 : i + j * e ≤ i + j' * e := Nat.add_le_add_left (Nat.mul_le_mul_right _ hle) _
    have d := (Nat.sub_mod_eq_zero_of_mod_eq h.symm)
    have e2 : i + j' * e - (i + j * e) = D * (x * (j' - j)) := by
      rw [Nat.add_sub_add_left, ← Nat.sub_mul, he, Nat.mul_comm, Nat.mul_assoc]
    rw [e2] at d
    have d2 := Nat.dvd_of_mod_eq_zero d
    have d3 := Nat.dvd_of_mul_dvd_mul_left hD d2
    have d4 := (Nat.Coprime.symm hc).dvd_of_dvd_mul_left d3
    by_cases z : j' - j = 0
    · omega
    · have := Nat.le_of_dvd (by omega) d4
      omega
  rcases Nat.le_total j j' with z | z
  · exact key j j' z hj' h
  · exact (key j' j z hj h.symm).symm
theorem plc_pm {e D l x : Nat} (he : e = D * x) (hc : Nat.Coprime x l) (hD : 0 < D) (hl : 0 < l) : IsPm (D * l) (plc D l e) := by
  have s0 : 0 < D * l := Nat.mul_pos hD hl
  refine ⟨by unfold plc; rw [List.length_map, List.length_range], ?_, fun y hy => ?_⟩
  · unfold plc
    rw [List.nodup_iff_pairwise_ne, List.pairwise_iff_getElem]
    intro a b ha hb hab z
    rw [List.length_map, List.length_range] at ha hb
    rw [List.getElem_map, List.getElem_map, List.getElem_range, List.getElem_range] at z
    have z := Int.ofNat.inj z
    have q := plc_inj he hc hD hl ((Nat.div_lt_iff_lt_mul hl).mpr ha) ((Nat.div_lt_iff_lt_mul hl).mpr hb) (Nat.mod_lt _ hl) (Nat.mod_lt _ hl) z
    have := Nat.div_add_mod a l
    have := Nat.div_add_mod b l
    rw [q.1, q.2] at *
    omega
  · obtain ⟨t, _, rfl⟩ := List.mem_map.mp hy
    have := Nat.mod_lt (t / l + t % l * e) s0
    omega
theorem plc_get {D l e i j : Nat} (hl : 0 < l) (hi : i < D) (hj : j < l) : (plc D l e)[i * l + j]? = some (((i + j * e) % (D * l) : Nat) : Int) := by
  have lt : i * l + j < D * l := by
    have : (i + 1) * l ≤ D * l := Nat.mul_le_mul_right _ hi
    rw [Nat.succ_mul] at this
    omega
  unfold plc
  rw [List.getElem?_map, List.getElem?_range lt]
  show some ((((i * l + j) / l + (i * l + j) % l * e) % (D * l) : Nat) : Int) = some _
  rw [show (i * l + j) / l = i by rw [Nat.mul_comm, Nat.mul_add_div hl, Nat.div_eq_of_lt hj, Nat.add_zero], show (i * l + j) % l = j by rw [Nat.mul_comm, Nat.mul_add_mod, Nat.mod_eq_of_lt hj]]
/-- L is made of the rows C -/
structure Mg (e : Nat) (C : List (List Int)) (l : Nat) (L : List Int) : Prop where
  l1 : 1 ≤ l
  c1 : 1 ≤ C.length
  row : ∀ r ∈ C, r.length = l
  len : L.length = C.length * l
  per : (l * e) % (C.length * l) = 0
  nd : L.Nodup
  mem : ∀ x, x ∈ L ↔ x ∈ C.flatten
  at_ : ∀ (i : Nat) (r : List Int) (j : Nat) (x : Int), C[i]? = some r → r[j]? = some x → L[(i + j * e) % (C.length * l)]? = some x
theorem flat_row : ∀ {C : List (List Int)} {l : Nat}, (∀ r ∈ C, r.length = l) → C.flatten.length = C.length * l
  | [], _, _ => by rw [List.flatten_nil, List.length_nil, List.length_nil, Nat.zero_mul]
  | r :: C, l, h => by
    rw [List.flatten_cons, List.length_append, flat_row fun x hx => h x (List.mem_cons_of_mem _ hx), h r (List.mem_cons_self ..), List.length_cons, Nat.succ_mul, Nat.add_comm]
theorem flat_ix {C : List (List Int)} {l i j : Nat} {r : List Int} {x : Int} (h : ∀ r ∈ C, r.length = l) (hr : C[i]? = some r) (hx : r[j]? = some x) : C.flatten[i * l + j]? = some x := by
  have z := flat_get hr hx
  rw [flat_row (C := C.take i) (l := l) fun r hr => h r (List.mem_of_mem_take hr), List.length_take, Nat.min_eq_left (Nat.le_of_lt (List.getElem?_eq_some_iff.mp hr).1)] at z
  exact z
theorem mg_of {e l x : Nat} {C : List (List Int)} {L : List Int} (he : e = C.length * x) (hc : Nat.Coprime x l) (c1 : 1 ≤ C.length) (l1 : 1 ≤ l) (row : ∀ r ∈ C, r.length = l) (nd : C.flatten.Nodup)
    (h : Filled (C.length * l) (plc C.length l e) (fun t => C.flatten.getD t 0) (C.length * l) L) : Mg e C l L := by
  have pp := plc_pm he hc c1 l1
  have fl := flat_row row
  have at0 : ∀ t, t < C.length * l → ∃ y : Int, (plc C.length l e)[t]? = some y ∧ 0 ≤ y ∧ y < (C.length * l : Nat) ∧ C.flatten[t]? = some (C.flatten.getD t 0) ∧ L[y.toNat]? = some (C.flatten.getD t 0) := fun t ht => by
    obtain ⟨y, hy, y0, yb⟩ := pp.get ht
    have g : C.flatten[t]? = some (C.flatten[t]'(by omega)) := List.getElem?_eq_getElem (by omega)
    exact ⟨y, hy, y0, yb, by rw [getD_of g]; exact g, h.at_ t y ht hy⟩
  have onto : ∀ k, k < C.length * l → ∃ t, t < C.length * l ∧ (plc C.length l e)[t]? = some (k : Int) := fun k hk => pp.onto hk
  refine ⟨l1, c1, row, h.len, ?_, ?_, fun y => ⟨fun hy => ?_, fun hy => ?_⟩, fun i r j y hr hy => ?_⟩
  · rw [he, show l * (C.length * x) = (C.length * l) * x by simp only [Nat.mul_assoc, Nat.mul_comm, Nat.mul_left_comm]]
    exact Nat.mul_mod_right _ _
  · rw [List.nodup_iff_pairwise_ne, List.pairwise_iff_getElem]
    intro a b ha hb hab z
    obtain ⟨t, ht, et⟩ := onto a (by rw [← h.len]; exact ha)
    obtain ⟨u, hu, eu⟩ := onto b (by rw [← h.len]; exact hb)
    have g1 := h.at_ t _ ht et
    have g2 := h.at_ u _ hu eu
    rw [show ((a : Nat) : Int).toNat = a by omega, List.getElem?_eq_getElem ha] at g1
    rw [show ((b : Nat) : Int).toNat = b by omega, List.getElem?_eq_getElem hb] at g2
    have q1 : C.flatten[t]? = some (C.flatten[t]'(by omega)) := List.getElem?_eq_getElem (by omega)
    have q2 : C.flatten[u]? = some (C.flatten[u]'(by omega)) := List.getElem?_eq_getElem (by omega)
    rw [getD_of q1] at g1
    rw [getD_of q2] at g2
    have q3 : C.flatten[t]'(by omega) = C.flatten[u]'(by omega) := by rw [← Option.some.inj g1, ← Option.some.inj g2, z]
    have q4 := (List.getElem_inj nd).mp q3
    subst q4
    rw [et] at eu
    have := Option.some.inj eu
    omega
  · obtain ⟨k, hk, ek⟩ := List.getElem_of_mem hy
    obtain ⟨t, ht, et⟩ := onto k (by rw [← h.len]; exact hk)
    have g1 := h.at_ t _ ht et
    rw [show ((k : Nat) : Int).toNat = k by omega, List.getElem?_eq_getElem hk, ek] at g1
    have q1 : C.flatten[t]? = some (C.flatten[t]'(by omega)) := List.getElem?_eq_getElem (by omega)
    rw [getD_of q1] at g1
    rw [Option.some.inj g1]
    exact List.getElem_mem _
  · obtain ⟨t, ht, et⟩ := List.getElem_of_mem hy
    obtain ⟨z, hz, z0, zb, gz, gl⟩ := at0 t (by omega)
    have q1 : C.flatten[t]? = some y := by rw [List.getElem?_eq_getElem ht, et]
    rw [getD_of q1] at gl
    exact List.mem_of_getElem? gl
  · have hi := (List.getElem?_eq_some_iff.mp hr).1
    have hj := (List.getElem?_eq_some_iff.mp hy).1
    rw [row r (List.mem_of_getElem? hr)] at hj
    have g := plc_get (e := e) l1 hi hj
    have f := flat_ix row hr hy
    have lt := (List.getElem?_eq_some_iff.mp f).1
    have q := h.at_ _ _ (by omega) g
    rw [getD_of f] at q
    rw [← q]
    congr 1
/-! ### a permutation with given rows -/
theorem same_row {M : List (List Int)} (nd : M.flatten.Nodup) {r s : List Int} {x : Int} (hr : r ∈ M) (hs : s ∈ M) (h1 : x ∈ r) (h2 : x ∈ s) : r = s := by
  induction M with
  | nil => cases hr
  | cons a M ih =>
    rw [List.flatten_cons] at nd
    have q := List.nodup_append.mp nd
    rcases List.mem_cons.mp hr with rfl | hr'
    · rcases List.mem_cons.mp hs with rfl | hs'
      · rfl
      · exact absurd rfl (q.2.2 x h1 x (List.mem_flatten.mpr ⟨s, hs', h2⟩))
    · rcases List.mem_cons.mp hs with rfl | hs'
      · exact absurd rfl (q.2.2 x h2 x (List.mem_flatten.mpr ⟨r, hr', h1⟩))
      · exact ih q.2.1 hr' hs'
def nx (M : List (List Int)) (k : Int) : Int := match M.find? (fun r => decide (k ∈ r)) with
  | some r => r.getD ((r.idxOf k + 1) % r.length) 0
  | none => k
theorem nx_in {M : List (List Int)} (nd : M.flatten.Nodup) {r : List Int} {i : Nat} {x : Int} (hr : r ∈ M) (hx : r[i]? = some x) : nx M x = r.getD ((i + 1) % r.length) 0 := by
  have hm := List.mem_of_getElem? hx
  unfold nx
  cases e : M.find? (fun r => decide (x ∈ r)) with
  | none =>
    have z := List.find?_eq_none.mp e r hr
    exact absurd (decide_eq_true hm) z
  | some s =>
    have h0 : decide (x ∈ s) = true := List.find?_some (p := fun r : List Int => decide (x ∈ r)) e
    have h1 := of_decide_eq_true h0
    have h2 := List.mem_of_find?_eq_some e
    have es := same_row nd h2 hr h1 hm
    subst es
    obtain ⟨hi, ei⟩ := List.getElem?_eq_some_iff.mp hx
    show s.getD ((s.idxOf x + 1) % s.length) 0 = _
    rw [← ei, List.Nodup.idxOf_getElem (nodup_row nd s hr)]
theorem nx_out {M : List (List Int)} {x : Int} (h : x ∉ M.flatten) : nx M x = x := by
  unfold nx
  cases e : M.find? (fun r => decide (x ∈ r)) with
  | none => rfl
  | some s =>
    have h0 : decide (x ∈ s) = true := List.find?_some (p := fun r : List Int => decide (x ∈ r)) e
    have h1 := of_decide_eq_true h0
    exact absurd (List.mem_flatten.mpr ⟨s, List.mem_of_find?_eq_some e, h1⟩) h
theorem rows_pm {n : Nat} {M : List (List Int)} (nd : M.flatten.Nodup) (bd : ∀ x ∈ M.flatten, 0 ≤ x ∧ x < (n : Int)) : ∃ g, FromRows n g M := by
  have get : ∀ x : Int, 0 ≤ x → x < n → ((unitL n).map (nx M))[x.toNat]? = some (nx M x) := fun x h0 h1 => by
    rw [List.getElem?_map, unitL_get (by omega)]
    show some (nx M ((x.toNat : Nat) : Int)) = _
    rw [show ((x.toNat : Nat) : Int) = x by omega]
  have len : ((unitL n).map (nx M)).length = n := by rw [List.length_map]; exact (unit_pm n).len
  have tn : ∀ r ∈ M, r = [] ∨ Turn ((unitL n).map (nx M)) r := fun r hr => by
    cases r with
    | nil => exact .inl rfl
    | cons a t =>
      refine .inr ⟨Nat.succ_pos _, fun i x hx => ?_⟩
      have b := bd x (List.mem_flatten.mpr ⟨_, hr, List.mem_of_getElem? hx⟩)
      have hm : (i + 1) % (a :: t).length < (a :: t).length := Nat.mod_lt _ (Nat.succ_pos _)
      rw [get x b.1 b.2, nx_in nd hr hx, List.getElem?_eq_getElem hm, getD_of (List.getElem?_eq_getElem hm)]
  have fx : ∀ x : Int, 0 ≤ x → x < n → x ∉ M.flatten → ((unitL n).map (nx M))[x.toNat]? = some x := fun x h0 h1 h => by rw [get x h0 h1, nx_out h]
  have bnd : ∀ y ∈ (unitL n).map (nx M), 0 ≤ y ∧ y < (n : Int) := fun y hy => by
    obtain ⟨x, hx, rfl⟩ := List.mem_map.mp hy
    have bx := (unit_pm n).bd x hx
    by_cases c : x ∈ M.flatten
    · obtain ⟨r, hr, hm⟩ := List.mem_flatten.mp c
      obtain ⟨i, hi, ei⟩ := List.getElem_of_mem hm
      have hx2 : r[i]? = some x := by rw [List.getElem?_eq_getElem hi, ei]
      have hm : (i + 1) % r.length < r.length := Nat.mod_lt _ (by omega)
      rw [nx_in nd hr hx2, getD_of (List.getElem?_eq_getElem hm)]
      exact bd _ (List.mem_flatten.mpr ⟨r, hr, List.getElem_mem hm⟩)
    · rw [nx_out c]
      exact bx
  refine ⟨(unitL n).map (nx M), ⟨len, ?_, bnd⟩, tn, fx, nd, bd⟩
  refine nodup_of_len (ks := unitL n) (unit_pm n).nd (fun k => ⟨fun hk => ?_, fun hk => ?_⟩) (by rw [len]; exact (unit_pm n).len)
  · have bk := (unit_pm n).bd k hk
    by_cases c : k ∈ M.flatten
    · obtain ⟨r, hr, hm⟩ := List.mem_flatten.mp c
      obtain ⟨i, hi, ei⟩ := List.getElem_of_mem hm
      obtain ⟨j, hj, ej⟩ : ∃ j, j < r.length ∧ (j + 1) % r.length = i := by
        by_cases z : i = 0
        · exact ⟨r.length - 1, by omega, by rw [z, show r.length - 1 + 1 = r.length by omega, Nat.mod_self]⟩
        · exact ⟨i - 1, by omega, by rw [show i - 1 + 1 = i by omega, Nat.mod_eq_of_lt hi]⟩
      have bj := bd _ (List.mem_flatten.mpr ⟨r, hr, List.getElem_mem hj⟩)
      have g := get _ bj.1 bj.2
      rw [nx_in nd hr (List.getElem?_eq_getElem hj), ej, getD_of (List.getElem?_eq_getElem hi), ei] at g
      exact List.mem_of_getElem? g
    · exact List.mem_of_getElem? (fx k bk.1 bk.2 c)
  · have b := bnd k hk
    exact List.mem_map.mpr ⟨k.toNat, List.mem_range.mpr (by omega), by show ((k.toNat : Nat) : Int) = k; omega⟩
/-- chunks of rows and what is made of them -/
structure Mgs (e : Nat) (Cs : List (List (List Int))) (M : List (List Int)) : Prop where
  len : M.length = Cs.length
  at_ : ∀ (m : Nat) (C : List (List Int)) (L : List Int), Cs[m]? = some C → M[m]? = some L → ∃ l, Mg e C l L
theorem Mgs.nil {e : Nat} : Mgs e [] [] := ⟨rfl, fun m C L h => by cases m <;> cases h⟩
theorem Mgs.more {e l : Nat} {Cs : List (List (List Int))} {M : List (List Int)} {C : List (List Int)} {L : List Int} (h : Mgs e Cs M) (g : Mg e C l L) : Mgs e (Cs ++ [C]) (M ++ [L]) := by
  refine ⟨by rw [List.length_append, List.length_append, h.len]; rfl, fun m D N hD hN => ?_⟩
  by_cases c : m < Cs.length
  · rw [List.getElem?_append_left c] at hD
    rw [List.getElem?_append_left (by rw [h.len]; exact c)] at hN
    exact h.at_ m D N hD hN
  · have lt := (List.getElem?_eq_some_iff.mp hD).1
    rw [List.length_append] at lt
    have lt : m < Cs.length + 1 := lt
    have em : m = Cs.length := by omega
    subst em
    rw [List.getElem?_append_right (Nat.le_refl _), Nat.sub_self] at hD
    rw [← h.len, List.getElem?_append_right (Nat.le_refl _), Nat.sub_self] at hN
    cases hD
    cases hN
    exact ⟨l, g⟩
theorem Mgs.flat {e : Nat} : ∀ {Cs : List (List (List Int))} {M : List (List Int)}, Mgs e Cs M → Cs.flatten.flatten.Nodup → M.flatten.Perm Cs.flatten.flatten
  | [], [], _, _ => .nil
  | [], L :: M, h, _ => absurd h.len (by rw [List.length_cons, List.length_nil]; omega)
  | C :: Cs, [], h, _ => absurd h.len (by rw [List.length_cons, List.length_nil]; omega)
  | C :: Cs, L :: M, h, nd => by
    rw [List.flatten_cons, List.flatten_append] at nd
    have q := List.nodup_append.mp nd
    obtain ⟨l, g⟩ := h.at_ 0 C L rfl rfl
    have ih := Mgs.flat (Cs := Cs) (M := M) ⟨by have := h.len; rw [List.length_cons, List.length_cons] at this; omega, fun m C L h1 h2 => h.at_ (m + 1) C L h1 h2⟩ q.2.1
    rw [List.flatten_cons, List.flatten_cons, List.flatten_append]
    exact ((List.perm_ext_iff_of_nodup g.nd q.1).mpr g.mem).append ih
theorem mgs_root {n e : Nat} {p g : List Int} {Cs : List (List (List Int))} {M : List (List Int)} (hp : IsPm n p) (F : FromRows n g M) (h : Mgs e Cs M) (all : ∀ x : Int, 0 ≤ x → x < n → x ∈ Cs.flatten.flatten) (tn : ∀ r ∈ Cs.flatten, Turn p r) : pwL n g e = p := by
  refine pm_ext (n := n) (pwL_pm F.pm e).len hp.len fun j hj => ?_
  obtain ⟨r, hr, hx⟩ := List.mem_flatten.mp (all (j : Int) (by omega) (by omega))
  obtain ⟨C, hC, hrC⟩ := List.mem_flatten.mp hr
  obtain ⟨m, hm, em⟩ := List.getElem_of_mem hC
  obtain ⟨i, hi, ei⟩ := List.getElem_of_mem hrC
  obtain ⟨t, ht, et⟩ := List.getElem_of_mem hx
  have gC : Cs[m]? = some C := by rw [List.getElem?_eq_getElem hm, em]
  have gr : C[i]? = some r := by rw [List.getElem?_eq_getElem hi, ei]
  have gx : r[t]? = some (j : Int) := by rw [List.getElem?_eq_getElem ht, et]
  have hM : M[m]? = some (M[m]'(by rw [h.len]; exact hm)) := List.getElem?_eq_getElem (by rw [h.len]; exact hm)
  obtain ⟨l, G⟩ := h.at_ m C _ gC hM
  have hLM := List.mem_of_getElem? hM
  generalize M[m]'(by rw [h.len]; exact hm) = L at hM G hLM
  have T := tn r hr
  have el := G.row r hrC
  have gL := G.at_ i r t _ gr gx
  have TL : Turn g L := (F.tn L hLM).resolve_left fun z => by
    rw [z] at gL
    cases gL
  have pw := TL.pw F.pm (fun y hy => F.bd y (List.mem_flatten.mpr ⟨L, hLM, hy⟩)) gL e
  rw [show ((j : Nat) : Int).toNat = j by omega] at pw
  have st := T.st t _ gx
  rw [show ((j : Nat) : Int).toNat = j by omega] at st
  rw [pw, st, G.len]
  have s0 : (t + 1) % r.length < r.length := Nat.mod_lt _ T.ne
  have g2 := G.at_ i r _ _ gr (List.getElem?_eq_getElem s0)
  rw [List.getElem?_eq_getElem s0, ← g2]
  congr 1
  rw [Nat.mod_add_mod]
  have hper := G.per
  by_cases c : t + 1 < r.length
  · rw [Nat.mod_eq_of_lt c, Nat.succ_mul, Nat.add_assoc]
  · have e1 : t + 1 = r.length := by omega
    rw [e1, Nat.mod_self, Nat.zero_mul, Nat.add_zero, Nat.add_assoc, ← Nat.succ_mul, Nat.succ_eq_add_one, e1, el, Nat.add_mod, hper, Nat.add_zero, Nat.mod_mod]
end KL
/-! roots: lengths counted, few points -/
namespace KL
open PySem PySem.Spec PyProof.Rows L2 GA GxR
/-- the length of the row with x -/
def szI (R : List (List Int)) (x : Int) : Nat := match R.find? (fun r => decide (x ∈ r)) with
  | some r => r.length
  | none => 0
theorem szI_in {R : List (List Int)} (nd : R.flatten.Nodup) {r : List Int} {x : Int} (hr : r ∈ R) (hx : x ∈ r) : szI R x = r.length := by
  unfold szI
  cases e : R.find? (fun r => decide (x ∈ r)) with
  | none =>
    have z := List.find?_eq_none.mp e r hr
    exact absurd (decide_eq_true hx) z
  | some s =>
    have h0 : decide (x ∈ s) = true := List.find?_some (p := fun r : List Int => decide (x ∈ r)) e
    have es := same_row nd (List.mem_of_find?_eq_some e) hr (of_decide_eq_true h0) hx
    rw [es]
theorem sz_count {R : List (List Int)} (nd : R.flatten.Nodup) (l : Nat) : ∀ {S : List (List Int)}, (∀ r ∈ S, r ∈ R) → (S.flatten.map (szI R)).count l = l * (lensN S).count l
  | [], _ => by
    show 0 = l * 0
    rw [Nat.mul_zero]
  | r :: S, h => by
    have ih := sz_count nd l (S := S) fun s hs => h s (List.mem_cons_of_mem _ hs)
    have e1 : r.map (szI R) = List.replicate r.length r.length := by
      rw [← List.map_const' ]
      exact List.map_congr_left fun x hx => szI_in nd (h r (List.mem_cons_self ..)) hx
    rw [List.flatten_cons, List.map_append, List.count_append, ih, e1, List.count_replicate]
    show _ + l * (lensN S).count l = l * (r.length :: lensN S).count l
    rw [List.count_cons]
    by_cases c : r.length = l
    · rw [if_pos (by rw [c]; exact beq_self_eq_true l), if_pos (by rw [c]; exact beq_self_eq_true l), Nat.mul_add, c, Nat.mul_one, Nat.add_comm]
    · rw [if_neg (fun z => c (eq_of_beq z)), if_neg (fun z => c (eq_of_beq z)), Nat.zero_add, Nat.add_zero]
def szL (n : Nat) (R : List (List Int)) : List Nat := (List.range n).map fun k => szI R ((k : Nat) : Int)
theorem Full.perm_unit {n : Nat} {p : List Int} {R : List (List Int)} (F : Full n p R) : R.flatten.Perm (unitL n) :=
  (List.perm_ext_iff_of_nodup F.cyc.nd (unit_pm n).nd).mpr fun x => ⟨fun h => by
    have b := F.cyc.bd x h
    exact List.mem_map.mpr ⟨x.toNat, List.mem_range.mpr (by omega), by show ((x.toNat : Nat) : Int) = x; omega⟩, fun h => by
    have b := (unit_pm n).bd x h
    exact F.all x b.1 b.2⟩
theorem szL_count {n : Nat} {p : List Int} {R : List (List Int)} (F : Full n p R) (l : Nat) : (szL n R).count l = l * (lensN R).count l := by
  have e : szL n R = (unitL n).map (szI R) := by
    unfold szL unitL
    rw [List.map_map]
    rfl
  rw [e, ← (F.perm_unit.map (szI R)).count_eq l]
  exact sz_count F.cyc.nd l fun r h => h
theorem szL_mem {n : Nat} {p : List Int} {R : List (List Int)} (F : Full n p R) (l : Nat) : l ∈ szL n R ↔ l ∈ lensN R := by
  rw [← List.count_pos_iff, ← List.count_pos_iff, szL_count F]
  constructor
  · intro h
    exact Nat.pos_of_mul_pos_left h
  · intro h
    refine Nat.mul_pos ?_ h
    obtain ⟨r, hr, e⟩ := List.mem_map.mp (List.count_pos_iff.mp h)
    rw [← e]
    exact (F.cyc.tn r hr).ne
theorem ring_sz {n : Nat} {p r : List Int} {R : List (List Int)} {x : Int} (hp : IsPm n p) (F : Full n p R) (a : Ring n p x r) (h0 : 0 ≤ x) (h1 : x < n) : r.length = szI R x := by
  obtain ⟨s, hs, hx⟩ := List.mem_flatten.mp (F.all x h0 h1)
  rw [szI_in F.cyc.nd hs hx]
  exact len_nodup a.nd (fun k => ring_mem hp a (F.cyc.tn s hs) (fun y hy => F.cyc.bd y (List.mem_flatten.mpr ⟨s, hs, hy⟩)) hx) (nodup_row F.cyc.nd s hs)
/-! ### free of obstacles -/
def cnt (R : List (List Int)) (l : Nat) : Nat := (lensN R).count l
def FreeR (e : Nat) (R : List (List Int)) : Prop := ∀ l ∈ lensN R, cnt R l % dvN l e = 0
def inP (E : List (List Int)) (p : List Int) : Bool := !decide p.Nodup || decide (p ∈ E)
theorem e1 : (allL 1 1).all (inP (every 1)) = true := by decide +kernel
theorem e2 : (allL 2 2).all (inP (every 2)) = true := by decide +kernel
theorem e3 : (allL 3 3).all (inP (every 3)) = true := by decide +kernel
theorem e4 : (allL 4 4).all (inP (every 4)) = true := by decide +kernel
theorem e5 : (allL 5 5).all (inP (every 5)) = true := by decide +kernel
theorem every_all {n : Nat} {p : List Int} (hp : IsPm n p) (h1 : 1 ≤ n) (h5 : n ≤ 5) : p ∈ every n := by
  have k : (allL n n).all (inP (every n)) = true := by
    obtain rfl | rfl | rfl | rfl | rfl : n = 1 ∨ n = 2 ∨ n = 3 ∨ n = 4 ∨ n = 5 := by omega
    · exact e1
    · exact e2
    · exact e3
    · exact e4
    · exact e5
  have z := List.all_eq_true.mp k p (allL_mem hp.len hp.bd)
  unfold inP at z
  rw [decide_eq_true hp.nd, Bool.not_true, Bool.false_or] at z
  exact of_decide_eq_true z
theorem cyc_full {n : Nat} {p : List Int} (hp : IsPm n p) (h1 : 1 ≤ n) (h5 : n ≤ 5) : Full n p (cycF p n) := by
  have k : (allL n n).all (okP n (every n)) = true := by
    obtain rfl | rfl | rfl | rfl | rfl : n = 1 ∨ n = 2 ∨ n = 3 ∨ n = 4 ∨ n = 5 := by omega
    · exact k1
    · exact k2
    · exact k3
    · exact k4
    · exact k5
  have z := List.all_eq_true.mp k p (allL_mem hp.len hp.bd)
  unfold okP at z
  rw [decide_eq_true hp.nd, Bool.not_true, Bool.false_or, Bool.and_eq_true] at z
  exact fullB_ok z.1
theorem Full.flen {n : Nat} {p : List Int} {R : List (List Int)} (F : Full n p R) : R.flatten.length = n := by
  rw [F.perm_unit.length_eq]
  exact (unit_pm n).len
theorem turn_dvd {n t : Nat} {p r : List Int} {x : Int} (hp : IsPm n p) (T : Turn p r) (nd : r.Nodup) (bd : ∀ y ∈ r, 0 ≤ y ∧ y < (n : Int)) (hx : x ∈ r) : r.length ∣ t ↔ (pwL n p t)[x.toNat]? = some x := by
  obtain ⟨i, hi, ei⟩ := List.getElem_of_mem hx
  have gi : r[i]? = some x := by rw [List.getElem?_eq_getElem hi, ei]
  have e := T.pw hp bd gi t
  have hm : (i + t) % r.length < r.length := Nat.mod_lt _ T.ne
  rw [e]
  constructor
  · rintro ⟨s, rfl⟩
    rw [Nat.add_mul_mod_self_left, Nat.mod_eq_of_lt hi, gi]
  · intro h
    rw [← gi, List.getElem?_eq_getElem hm, List.getElem?_eq_getElem hi] at h
    have z := (List.getElem_inj nd).mp (Option.some.inj h)
    have z2 : (i + t) % r.length = (i + 0) % r.length := by rw [z, Nat.add_zero, Nat.mod_eq_of_lt hi]
    have z3 := Nat.sub_mod_eq_zero_of_mod_eq z2
    rw [Nat.add_sub_add_left, Nat.sub_zero] at z3
    exact Nat.dvd_of_mod_eq_zero z3
theorem pwL_mul {n : Nat} {g : List Int} (hg : IsPm n g) (e : Nat) : ∀ t, pwL n (pwL n g e) t = pwL n g (e * t)
  | 0 => rfl
  | t + 1 => by
    show mulL (pwL n (pwL n g e) t) (pwL n g e) = _
    rw [pwL_mul hg e t, pwL_add hg, Nat.mul_succ]
/-- the lengths of a power -/
theorem pow_sz {n e : Nat} {g : List Int} {R S : List (List Int)} {x : Int} (hg : IsPm n g) (F : Full n (pwL n g e) R) (G : Full n g S) (h0 : 0 ≤ x) (h1 : x < n) : szI S x = szI R x * Nat.gcd (szI S x) e := by
  have hp := pwL_pm hg e
  obtain ⟨r, hr, hx⟩ := List.mem_flatten.mp (F.all x h0 h1)
  obtain ⟨s, hs, hy⟩ := List.mem_flatten.mp (G.all x h0 h1)
  rw [szI_in F.cyc.nd hr hx, szI_in G.cyc.nd hs hy]
  have sp := (G.cyc.tn s hs).ne
  have k1 : ∀ t, r.length ∣ t ↔ s.length ∣ e * t := fun t => by
    rw [turn_dvd hp (F.cyc.tn r hr) (nodup_row F.cyc.nd r hr) (fun y hy => F.cyc.bd y (List.mem_flatten.mpr ⟨r, hr, hy⟩)) hx, pwL_mul hg, turn_dvd hg (G.cyc.tn s hs) (nodup_row G.cyc.nd s hs) (fun y hy => G.cyc.bd y (List.mem_flatten.mpr ⟨s, hs, hy⟩)) hy]
  have g0 : 0 < Nat.gcd s.length e := Nat.gcd_pos_of_pos_left _ sp
  obtain ⟨a, ha⟩ := Nat.gcd_dvd_left s.length e
  obtain ⟨b, hb⟩ := Nat.gcd_dvd_right s.length e
  have cab : Nat.Coprime a b := by
    have z := Nat.gcd_mul_left (Nat.gcd s.length e) a b
    rw [← ha, ← hb] at z
    have z2 : Nat.gcd s.length e * 1 = Nat.gcd s.length e * Nat.gcd a b := by rw [Nat.mul_one]; exact z
    exact (Nat.eq_of_mul_eq_mul_left g0 z2).symm
  have k2 : ∀ t, a ∣ t ↔ s.length ∣ e * t := fun t => by
    constructor
    · rintro ⟨c, rfl⟩
      refine ⟨b * c, ?_⟩
      conv => lhs; rw [hb]
      conv => rhs; rw [ha]
      simp only [Nat.mul_assoc, Nat.mul_comm, Nat.mul_left_comm]
    · intro z
      have z2 : Nat.gcd s.length e * a ∣ Nat.gcd s.length e * (b * t) := by
        rw [← Nat.mul_assoc, ← ha, ← hb]
        exact z
      exact cab.dvd_of_dvd_mul_left (Nat.dvd_of_mul_dvd_mul_left g0 z2)
  have ea : r.length = a := Nat.dvd_antisymm ((k1 a).mpr ((k2 a).mp (Nat.dvd_refl _))) ((k2 r.length).mpr ((k1 r.length).mp (Nat.dvd_refl _)))
  rw [ea, Nat.mul_comm]
  exact ha
theorem count_dvd {S : List (List Int)} {f : Int → Nat} {l D : Nat} : (∀ s ∈ S, (∀ x ∈ s, f x = l) ∧ l * D ∣ s.length ∨ ∀ x ∈ s, f x ≠ l) → l * D ∣ (S.flatten.map f).count l := by
  induction S with
  | nil => intro _; exact Nat.dvd_zero _
  | cons s S ih =>
    intro h
    rw [List.flatten_cons, List.map_append, List.count_append]
    refine Nat.dvd_add ?_ (ih fun r hr => h r (List.mem_cons_of_mem _ hr))
    rcases h s (List.mem_cons_self ..) with ⟨a, b⟩ | a
    · have e1 : s.map f = List.replicate s.length l := by
        rw [← List.map_const']
        exact List.map_congr_left fun x hx => a x hx
      rw [e1, List.count_replicate, if_pos (beq_self_eq_true l)]
      exact b
    · rw [List.count_eq_zero.mpr fun z => by
        obtain ⟨x, hx, e⟩ := List.mem_map.mp z
        exact a x hx e]
      exact Nat.dvd_zero _
/-- a power has no obstacle -/
theorem pow_free {n e : Nat} {g p : List Int} {R S : List (List Int)} (hg : IsPm n g) (n12 : n ≤ 12) (he : EOk e) (hp : pwL n g e = p) (F : Full n p R) (G : Full n g S) : FreeR e R := by
  subst hp
  intro l hl
  have l1 : 1 ≤ l := by
    obtain ⟨r, hr, e⟩ := List.mem_map.mp hl
    rw [← e]
    exact (F.cyc.tn r hr).ne
  have l12 : l ≤ 12 := by
    obtain ⟨r, hr, e⟩ := List.mem_map.mp hl
    have := bd_len (nodup_row F.cyc.nd r hr) fun y hy => F.cyc.bd y (List.mem_flatten.mpr ⟨r, hr, hy⟩)
    omega
  have c := szL_count F l
  have e1 : szL n R = (unitL n).map (szI R) := by
    unfold szL unitL
    rw [List.map_map]
    rfl
  rw [e1, ← (G.perm_unit.map (szI R)).count_eq l] at c
  have d : l * dvN l e ∣ (S.flatten.map (szI R)).count l := count_dvd fun s hs => by
    have key : ∀ x ∈ s, s.length = szI R x * Nat.gcd s.length e := fun x hx => by
      have b := G.cyc.bd x (List.mem_flatten.mpr ⟨s, hs, hx⟩)
      have z := pow_sz hg F G b.1 b.2
      rwa [szI_in G.cyc.nd hs hx] at z
    have g0 : 0 < Nat.gcd s.length e := Nat.gcd_pos_of_pos_right _ he.pos
    have sp := (G.cyc.tn s hs).ne
    have h0 := List.getElem_mem sp
    have k0 := key _ h0
    have all : ∀ x ∈ s, szI R x = szI R (s[0]'sp) := fun x hx => by
      have a := key x hx
      rw [k0] at a
      have a2 : szI R (s[0]'sp) * Nat.gcd s.length e = szI R x * Nat.gcd s.length e := by
        rw [← k0, ← key x hx]
      exact (Nat.eq_of_mul_eq_mul_right g0 a2).symm
    by_cases q : szI R (s[0]'sp) = l
    · refine .inl ⟨fun x hx => (all x hx).trans q, ?_⟩
      rw [q] at k0
      have z := Nat.mul_dvd_mul_left l (dvN_gcd he l1 l12 k0)
      rwa [← k0] at z
    · exact .inr fun x hx => by rw [all x hx]; exact q
  rw [c] at d
  exact Nat.mod_eq_zero_of_dvd (Nat.dvd_of_mul_dvd_mul_left l1 d)
end KL
/-! a tuple of ints among the module's names; promises of roots -/
namespace KL
open PySem PySem.Spec PyProof.Rows L2 GA GxR
def intsB : List Value → List Int → Bool
  | [], [] => true
  | .int i _ :: r, n :: s => decide (i = n) && intsB r s
  | _, _ => false
theorem intsB_ok : ∀ {us : List Value} {ns : List Int}, intsB us ns = true → Vals (ns.map V.int) us
  | [], [], _ => .nil
  | .int i t :: r, n :: s, h => by
    have h : (decide (i = n) && intsB r s) = true := h
    rw [Bool.and_eq_true, decide_eq_true_iff] at h
    rw [h.1]
    exact .cons ⟨_, rfl⟩ (intsB_ok h.2)
def tupF (K : PySem.W.Frag) (x : Str) (ns : List Int) : Bool :=
  He.eqO (PySem.W.nsIn K mainGlobals x) (some (some (.ref (He.ga K x)))) && (match K.lookup (He.ga K x) with
  | some ⟨.type T, _, .seq its _, _⟩ => decide (T = "tuple") && intsB its.toList ns
  | _ => false)
theorem tup_ok {K : PySem.W.Frag} {h : Heap} {mg : Str → Option Value} {x : Str} {ns : List Int} (X : K.In h) (G : h.Ns mainGlobals mg) (q : tupF K x ns = true) (hl : ns.length ≤ 1000) :
    (∃ u, mg x = some u ∧ RelV (.ref (He.ga K x)) u) ∧ ∀ H, SqT K H (He.ga K x) (ns.map V.int) := by
  unfold tupF at q
  rw [Bool.and_eq_true] at q
  refine ⟨⟨_, PySem.W.mg_of X G (He.eqO_ok q.1), rfl⟩, fun H => ?_⟩
  have q2 := q.2
  split at q2
  · rename_i T d its n sl e
    rw [Bool.and_eq_true, decide_eq_true_iff] at q2
    have v := intsB_ok q2.2
    have el := v.length
    rw [List.length_map] at el
    have es : its.toList.length = its.size := Array.length_toList
    refine .inr ⟨_, its, n, e, by rw [q2.1], rfl, ?_, v⟩
    have : (1000 : Nat) < sizeLine := by decide
    omega
  · cases q2
theorem prs_get {i : Nat} (h : i < 5) : ∃ q : Nat, prs[i]? = some q ∧ 2 ≤ q ∧ q ≤ 11 ∧ (∀ a ∈ prs.take i, Nat.Coprime a q) ∧ prs.take (i + 1) = prs.take i ++ [q] := by
  obtain rfl | rfl | rfl | rfl | rfl : i = 0 ∨ i = 1 ∨ i = 2 ∨ i = 3 ∨ i = 4 := by omega
  all_goals exact ⟨_, rfl, by decide, by decide, by decide, rfl⟩
theorem dvP_cop {e : Nat} (he : EOk e) (l : Nat) : ∀ i, i ≤ 5 → dvP (prs.take i) l e ∣ e ∧ ∀ q, (∀ a ∈ prs.take i, Nat.Coprime a q) → Nat.Coprime (dvP (prs.take i) l e) q
  | 0, _ => ⟨Nat.one_dvd _, fun q _ => Nat.coprime_one_left_eq_true q ▸ trivial⟩
  | i + 1, hi => by
    obtain ⟨h1, h2⟩ := dvP_cop he l i (by omega)
    obtain ⟨q, hq, q2, q11, hc, et⟩ := prs_get (i := i) (by omega)
    obtain ⟨k, ek, kd, _⟩ := he.part l q q2 q11
    rw [et, dvP_snoc, if_mul, ek]
    have c := h2 q hc
    refine ⟨Nat.Coprime.mul_dvd_of_dvd_of_dvd (Nat.Coprime.pow_right k c) h1 kd, fun x hx => Nat.Coprime.mul_left (h2 x fun a ha => hx a (List.mem_append_left _ ha)) (Nat.Coprime.pow_left k (hx q (List.mem_append_right _ (List.mem_singleton.mpr rfl))))⟩
theorem cop_dvd {D q m e : Nat} (h1 : D ∣ e) (h2 : Nat.Coprime D q) : D * q ^ m ∣ e ↔ q ^ m ∣ e :=
  ⟨fun h => Nat.dvd_trans (Nat.dvd_mul_left _ _) h, fun h => Nat.Coprime.mul_dvd_of_dvd_of_dvd (Nat.Coprime.pow_right m h2) h1 h⟩
def spDivisor : Sp := fun vs H Q _ => ∃ l e : Nat, vs = [.int l, .int e] ∧ 1 ≤ l ∧ l ≤ 12 ∧ EOk e ∧ ∀ H', Ex H H' → Q (.int ((dvN l e : Nat) : Int)) H'
def spMerged : Sp := fun vs H Q _ => ∃ (a : Addr) (As : List Addr) (C : List (List Int)) (l e x : Nat), vs = [.ref a, .int e] ∧ H a = some (.lst (As.map V.ref)) ∧ RowsAt H As C ∧ e = C.length * x ∧ Nat.Coprime x l ∧ 1 ≤ C.length ∧ 1 ≤ l ∧ (∀ r ∈ C, r.length = l) ∧ C.flatten.Nodup ∧ C.length * l ≤ 12 ∧
  ∀ (c : Addr) (H' : Hp) (L : List Int), Ex H H' → H' c = some (.tup (L.map V.int)) → Mg e C l L → Q (.ref c) H'
/-- the pairs of a length and the rows of that length -/
structure ByR (H : Hp) (Ts : List Addr) (ds : List Nat) (R : List (List Int)) (D : Addr) : Prop where
  len : Ts.length = ds.length
  at_ : ∀ (i d : Nat), ds[i]? = some d → ∃ (t b : Addr) (Bs : List Addr), Ts[i]? = some t ∧ H t = some (.tup [.int d, .ref b]) ∧ H b = some (.lst (Bs.map V.ref)) ∧ b ≠ D ∧ RowsAt H Bs (R.filter fun r => decide (r.length = d))
theorem ByR.ex {H H' : Hp} {Ts : List Addr} {ds : List Nat} {R : List (List Int)} {D : Addr} (B : ByR H Ts ds R D) (x : Ex H H') : ByR H' Ts ds R D :=
  ⟨B.len, fun i d e => let ⟨t, b, Bs, e1, e2, e3, e4, e5⟩ := B.at_ i d e; ⟨t, b, Bs, e1, x.st _ _ e2 trivial, x.st _ _ e3 refs_norow, e4, e5.ex x⟩⟩
theorem ByR.upd {H : Hp} {Ts : List Addr} {ds : List Nat} {R : List (List Int)} {D : Addr} {ys : List V} {o : HO} (B : ByR H Ts ds R D) (h : H D = some (.lst ys)) : ByR (upd H D o) Ts ds R D :=
  ⟨B.len, fun i d e => let ⟨t, b, Bs, e1, e2, e3, e4, e5⟩ := B.at_ i d e; ⟨t, b, Bs, e1, kp e2 h (fun z => by cases z), by rw [upd_ne e4]; exact e3, e4, e5.upd h (fun _ z => by cases z)⟩⟩
theorem ByR.nil {H : Hp} {R : List (List Int)} {D : Addr} : ByR H [] [] R D := ⟨rfl, fun i d e => by cases i <;> cases e⟩
theorem ByR.more {H : Hp} {Ts Bs : List Addr} {ds : List Nat} {R : List (List Int)} {D t b : Addr} {d : Nat} (B : ByR H Ts ds R D) (e2 : H t = some (.tup [.int d, .ref b])) (e3 : H b = some (.lst (Bs.map V.ref))) (e4 : b ≠ D) (e5 : RowsAt H Bs (R.filter fun r => decide (r.length = d))) : ByR H (Ts ++ [t]) (ds ++ [d]) R D := by
  refine ⟨by rw [List.length_append, List.length_append, B.len]; rfl, fun i y e => ?_⟩
  by_cases hi : i < ds.length
  · rw [List.getElem?_append_left hi] at e
    obtain ⟨t', b', Bs', f1, f2⟩ := B.at_ i y e
    exact ⟨t', b', Bs', by rw [List.getElem?_append_left (by rw [B.len]; exact hi)]; exact f1, f2⟩
  · have hl := (List.getElem?_eq_some_iff.mp e).1
    rw [List.length_append] at hl
    have hl : i < ds.length + 1 := hl
    have ei : i = ds.length := by omega
    subst ei
    rw [List.getElem?_append_right (Nat.le_refl _), Nat.sub_self] at e
    cases e
    exact ⟨t, b, Bs, by rw [List.getElem?_append_right (by rw [B.len]; exact Nat.le_refl _), B.len, Nat.sub_self]; rfl, e2, e3, e4, e5⟩
def spByLengthR : Sp := fun vs H Q _ => ∃ (a : Addr) (n : Nat) (p : List Int), vs = [.ref a] ∧ Pm H a n p ∧ n ≤ 12 ∧ ∀ (c : Addr) (H' : Hp) (R : List (List Int)) (Ts : List Addr) (ds : List Nat), Ex H H' → Full n p R → H' c = some (.lst (Ts.map V.ref)) → ds.Pairwise (· < ·) → (∀ d, d ∈ ds ↔ d ∈ lensN R) → ByR H' Ts ds R c → Q (.ref c) H'
theorem filt_len (R : List (List Int)) (d : Nat) : (R.filter fun r => decide (r.length = d)).length = cnt R d := by
  unfold cnt lensN
  rw [List.count_eq_countP, List.countP_map, List.countP_eq_length_filter]
  congr 1
/-- what root_obstacle tells -/
def Told (H : Hp) (v : V) (e : Nat) (R : List (List Int)) : Prop := (v = .non ∧ FreeR e R) ∨ ∃ (t : Addr) (d : Nat), v = .ref t ∧ H t = some (.tup [.int d, .int ((cnt R d : Nat) : Int), .int ((dvN d e : Nat) : Int)]) ∧ d ∈ lensN R ∧ cnt R d % dvN d e ≠ 0 ∧ ∀ k ∈ lensN R, k < d → cnt R k % dvN k e = 0
theorem Told.ex {H H' : Hp} {v : V} {e : Nat} {R : List (List Int)} (x : Ex H H') (h : Told H v e R) : Told H' v e R := by
  rcases h with h | ⟨t, d, e1, e2, h⟩
  · exact .inl h
  · exact .inr ⟨t, d, e1, x.st _ _ e2 trivial, h⟩
def spObstacle (K : PySem.W.Frag) : Sp := fun vs H Q _ => ∃ (a : Addr) (n e : Nat) (p : List Int), vs = [.ref a, .int e] ∧ Pm H a n p ∧ 1 ≤ n ∧ n ≤ 12 ∧ TabG H (PP K) ∧ EOk e ∧ ∀ (v : V) (H' : Hp) (R : List (List Int)), Ex H H' → Full n p R → Told H' v e R → Q v H'
def spRoot (K : PySem.W.Frag) : Sp := fun vs H Q _ => ∃ (a : Addr) (n e : Nat) (p : List Int), vs = [.ref a, .int e] ∧ Pm H a n p ∧ 1 ≤ n ∧ n ≤ 12 ∧ TabG H (PP K) ∧ EOk e ∧ ∀ (v : V) (H' : Hp) (R : List (List Int)), Ex H H' → Full n p R → ((v = .non ∧ ¬ FreeR e R) ∨ ∃ (c : Addr) (g : List Int), v = .ref c ∧ Pm H' c n g ∧ pwL n g e = p ∧ FreeR e R) → Q v H'
def spJudged (K : PySem.W.Frag) : Sp := fun vs H Q _ => ∃ (a : Addr) (n e : Nat) (p : List Int), vs = [.ref a, .int e] ∧ Pm H a n p ∧ 1 ≤ n ∧ n ≤ 12 ∧ TabG H (PP K) ∧ EOk e ∧ ∀ H', Ex H H' → Q (.bl true) H'
theorem lens_bd {n : Nat} {p : List Int} {R : List (List Int)} (F : Full n p R) {d : Nat} (h : d ∈ lensN R) : 1 ≤ d ∧ d ≤ n ∧ 1 ≤ cnt R d ∧ d * cnt R d ≤ n := by
  obtain ⟨r, hr, e⟩ := List.mem_map.mp h
  have a := (F.cyc.tn r hr).ne
  have b := bd_len (nodup_row F.cyc.nd r hr) fun y hy => F.cyc.bd y (List.mem_flatten.mpr ⟨r, hr, hy⟩)
  have c : 1 ≤ cnt R d := List.count_pos_iff.mpr h
  have s : d * cnt R d ≤ R.flatten.length := by
    have z := sz_count F.cyc.nd d (S := R) fun r h => h
    have y := List.count_le_length (a := d) (l := R.flatten.map (szI R))
    rw [z, List.length_map] at y
    exact y
  rw [F.flen] at s
  exact ⟨by omega, by omega, c, s⟩
end KL
namespace KL
open PySem PySem.Spec PyProof.Rows L2 GA GxR
theorem rg_small : ∀ m, m < 13 → ∀ D, D < 13 → 0 < D → m % D = 0 → Builtin.Range.small 0 ((m : Nat) : Int) ((D : Nat) : Int) = true ∧ Builtin.Range.rangeSize 0 ((m : Nat) : Int) ((D : Nat) : Int) = ((m / D : Nat) : Int) := by decide +kernel
theorem rgC_of {m D : Nat} (hm : m < 13) (h0 : 0 < D) (hD : D < 13) (h : m % D = 0) : RgC 0 (m : Nat) (D : Nat) (m / D) := by
  have z := rg_small m hm D hD h0 h
  exact ⟨by omega, by omega, z.1, z.2⟩
theorem cut_of {xs : List V} {a b : Nat} (h : a ≤ b) (hb : b ≤ xs.length) : cutV xs (some ((a : Nat) : Int)) (some ((b : Nat) : Int)) = (xs.drop a).take (b - a) := by
  have e : ∀ c : Nat, c ≤ xs.length → ∀ d, HT.sIx xs.length d (some ((c : Nat) : Int)) = c := fun c hc d => by
    rw [HT.sIx_nat]
    omega
  unfold cutV
  rw [e a (by omega), e b hb]
/-- what comes earlier in order stands earlier -/
theorem take_lt {α : Type} {lt : α → α → Prop} {l : List α} {i : Nat} {k d : α} (h : l.Pairwise fun a b => ¬ lt b a) (irr : ¬ lt d d) (hd : l[i]? = some d) (hk : k ∈ l) (hl : lt k d) : k ∈ l.take i := by
  obtain ⟨j, hj, ej⟩ := List.getElem_of_mem hk
  obtain ⟨hi, ei⟩ := List.getElem?_eq_some_iff.mp hd
  by_cases c : j < i
  · rw [← ej]
    exact List.mem_take_iff_getElem.mpr ⟨j, by omega, rfl⟩
  · exfalso
    by_cases c2 : j = i
    · subst c2
      rw [ei] at ej
      exact irr (ej ▸ hl)
    · have z := List.pairwise_iff_getElem.mp h i j hi hj (by omega)
      rw [ei, ej] at z
      exact z hl
def grp (R : List (List Int)) (d : Nat) : List (List Int) := R.filter fun r => decide (r.length = d)
theorem grps_perm : ∀ {ds : List Nat} {R : List (List Int)}, ds.Nodup → (∀ r ∈ R, r.length ∈ ds) → (ds.flatMap (grp R)).Perm R
  | [], R, _, h => by
    cases R with
    | nil => exact .nil
    | cons r R => exact absurd (h r (List.mem_cons_self ..)) (by simp)
  | d :: ds, R, nd, h => by
    rw [List.nodup_cons] at nd
    have ih := grps_perm (ds := ds) (R := R.filter fun r => !decide (r.length = d)) nd.2 fun r hr => by
      have z := List.mem_filter.mp hr
      refine (List.mem_cons.mp (h r z.1)).resolve_left fun e => ?_
      have y := z.2
      rw [decide_eq_true e] at y
      cases y
    have e : ds.flatMap (grp R) = ds.flatMap (grp (R.filter fun r => !decide (r.length = d))) := by
      rw [List.flatMap_def, List.flatMap_def]
      congr 1
      refine List.map_congr_left fun x hx => ?_
      unfold grp
      rw [List.filter_filter]
      refine List.filter_congr fun r _ => ?_
      by_cases c : r.length = x
      · have c2 : ¬ r.length = d := fun z => nd.1 (by rw [← z, c]; exact hx)
        rw [decide_eq_true c, decide_eq_false c2]
        rfl
      · rw [decide_eq_false c]
        rfl
    rw [List.flatMap_cons, e]
    exact (List.Perm.append_left _ ih).trans (List.filter_append_perm _ _)
theorem chunk_flat {B : List (List Int)} {D c : Nat} : B.take (D * c) ++ (B.drop (D * c)).take D = B.take (D * (c + 1)) := by
  rw [Nat.mul_succ, List.take_add]
theorem RowsAt.cut {H : Hp} {As : List Addr} {R : List (List Int)} (h : RowsAt H As R) (a b : Nat) : RowsAt H ((As.drop a).take b) ((R.drop a).take b) := by
  refine ⟨by rw [List.length_take, List.length_take, List.length_drop, List.length_drop, h.len], fun i r e => ?_⟩
  rw [List.getElem?_take] at e
  by_cases c : i < b
  · rw [if_pos c, List.getElem?_drop] at e
    obtain ⟨x, hx, hxt⟩ := h.at_ _ r e
    exact ⟨x, by rw [List.getElem?_take, if_pos c, List.getElem?_drop]; exact hx, hxt⟩
  · rw [if_neg c] at e
    cases e
theorem Mgs.few {e : Nat} {Cs : List (List (List Int))} {M : List (List Int)} (h : Mgs e Cs M) : M.length ≤ Cs.flatten.length := by
  rw [h.len]
  have key : ∀ {Cs : List (List (List Int))}, (∀ C ∈ Cs, 1 ≤ C.length) → Cs.length ≤ Cs.flatten.length := by
    intro Cs
    induction Cs with
    | nil => intro _; exact Nat.le_refl _
    | cons C Cs ih =>
      intro hc
      have a := hc C (List.mem_cons_self ..)
      have b := ih fun x hx => hc x (List.mem_cons_of_mem _ hx)
      rw [List.flatten_cons, List.length_append, List.length_cons]
      omega
  refine key fun C hC => ?_
  obtain ⟨m, hm, em⟩ := List.getElem_of_mem hC
  have gC : Cs[m]? = some C := by rw [List.getElem?_eq_getElem hm, em]
  obtain ⟨l, g⟩ := h.at_ m C _ gC (List.getElem?_eq_getElem (by rw [h.len]; exact hm))
  exact g.c1
end KL
namespace KL
open PySem PySem.Spec PyProof.Rows L2 GA GxR
/-- the heap without what stands at l -/
def hide (H : Hp) (l : Addr) : Hp := fun b => if b = l then none else H b
theorem hide_ne {H : Hp} {l a : Addr} (h : a ≠ l) : hide H l a = H a := if_neg h
theorem hide_same {H : Hp} {l : Addr} : hide H l l = none := if_pos rfl
theorem Ex.hide {H H' : Hp} {l : Addr} (x : Ex H H') (h : H l = none) : Ex H (KL.hide H' l) := by
  have ne : ∀ {a : Addr} {o : HO}, H a = some o → a ≠ l := fun e z => by rw [z, h] at e; cases e
  refine ⟨fun a o e s => by rw [hide_ne (ne e)]; exact x.st a o e s, fun P t => ?_, fun r s t => ?_, fun a e => ?_⟩
  · obtain ⟨ps, e, _⟩ := id t
    obtain ⟨ps', e', t'⟩ := x.tab P t
    exact ⟨ps', by rw [hide_ne (ne e)]; exact e', t'⟩
  · obtain ⟨_, _, _, e, _⟩ := id t
    obtain ⟨i, j, k, e', t'⟩ := x.row r s t
    exact ⟨i, j, k, by rw [hide_ne (ne e)]; exact e', t'⟩
  · by_cases z : a = l
    · rw [z]; exact h
    · rw [hide_ne z] at e
      exact x.no a e
theorem Ex.shown {H : Hp} {l : Addr} : Ex (KL.hide H l) H := by
  have ne : ∀ {a : Addr} {o : HO}, KL.hide H l a = some o → H a = some o := fun {a o} e => by
    by_cases z : a = l
    · rw [z, hide_same] at e; cases e
    · rwa [hide_ne z] at e
  refine ⟨fun a o e _ => ne e, fun P t => ?_, fun r s t => ?_, fun a e => ?_⟩
  · obtain ⟨ps, e, t⟩ := t
    exact ⟨ps, ne e, t⟩
  · obtain ⟨i, j, k, e, t⟩ := t
    exact ⟨i, j, k, ne e, t⟩
  · by_cases z : a = l
    · rw [z, hide_same]
    · rw [hide_ne z]; exact e
theorem hide_at {H : Hp} {l a : Addr} {o u : HO} (h : H a = some o) (e : H l = some u) (n : o ≠ u) : hide H l a = some o := by
  rw [hide_ne (fun z => by rw [z, e] at h; exact n (Option.some.inj h).symm)]
  exact h
theorem RowsAt.hide {H : Hp} {As : List Addr} {R : List (List Int)} {l : Addr} {xs : List V} (h : RowsAt H As R) (e : H l = some (.lst xs)) : RowsAt (KL.hide H l) As R :=
  ⟨h.len, fun i r k => let ⟨a, e1, e2⟩ := h.at_ i r k; ⟨a, e1, hide_at e2 e (fun z => by cases z)⟩⟩
theorem ByR.hide {H : Hp} {Ts : List Addr} {ds : List Nat} {R : List (List Int)} {D l : Addr} (B : ByR H Ts ds R D) (e : H l = some (.lst [])) (h : ∀ d ∈ ds, 1 ≤ cnt R d) : ByR (KL.hide H l) Ts ds R D :=
  ⟨B.len, fun i d k => by
    obtain ⟨t, b, Bs, e1, e2, e3, e4, e5⟩ := B.at_ i d k
    refine ⟨t, b, Bs, e1, hide_at e2 e (fun z => by cases z), hide_at e3 e (fun z => ?_), e4, e5.hide e⟩
    have l1 := h d (List.mem_of_getElem? k)
    rw [← filt_len, ← e5.len] at l1
    have z := HO.lst.inj z
    rw [List.map_eq_nil_iff] at z
    rw [z] at l1
    exact absurd l1 (by decide)⟩
end KL
namespace KL
theorem sub_flat {A B : List (List Int)} (h : A.Sublist B) : A.flatten.Sublist B.flatten := by
  induction h with
  | slnil => exact .slnil
  | cons a _ ih => rw [List.flatten_cons]; exact ih.trans (List.sublist_append_right _ _)
  | cons_cons a _ ih => rw [List.flatten_cons, List.flatten_cons]; exact (List.Sublist.refl _).append ih
end KL
namespace KL
open PySem PySem.Spec PyProof.Rows L2 GA GxR
def spBlocksM (K : PySem.W.Frag) : Sp := fun vs H Q _ => ∃ (r s : Addr) (ns : List Int) (m : Nat), vs = [.ref r, .int m] ∧ RowAt H r s ∧ SqL K H s (ns.map V.int) ∧ 1 ≤ m ∧ m ≤ 12 ∧ ∀ (c : Addr) (H' : Hp) (n : Nat) (p : List Int), Ex H H' → 1 ≤ n → n ≤ m → Pm H' c n p → Q (.ref c) H'
end KL
namespace KL
open PySem PySem.Spec PyProof.Rows L2 GA GxR
theorem szL_len (n : Nat) (R : List (List Int)) : (szL n R).length = n := by
  unfold szL
  rw [List.length_map, List.length_range]
theorem szL_take {n i : Nat} {R : List (List Int)} (h : i < n) : (szL n R).take (i + 1) = (szL n R).take i ++ [szI R ((i : Nat) : Int)] := by
  have g : (szL n R)[i]? = some (szI R ((i : Nat) : Int)) := by
    unfold szL
    rw [List.getElem?_map, List.getElem?_range h]
    rfl
  rw [List.take_add_one, g]
  rfl
theorem count_nat (ls : List Nat) (l : Nat) : (ls.map Int.ofNat).count ((l : Nat) : Int) = ls.count l := by
  induction ls with
  | nil => rfl
  | cons a ls ih =>
    rw [List.map_cons, List.count_cons, List.count_cons, ih]
    congr 1
    by_cases h : a = l
    · rw [if_pos (show (Int.ofNat a == ((l : Nat) : Int)) = true by rw [h]; exact beq_self_eq_true _), if_pos (show (a == l) = true by rw [h]; exact beq_self_eq_true _)]
    · rw [if_neg (show ¬ (Int.ofNat a == ((l : Nat) : Int)) = true from fun z => h (Int.ofNat.inj (eq_of_beq z))), if_neg (show ¬ (a == l) = true from fun z => h (eq_of_beq z))]
end KL
/-! rows compared with nothing; exponents -/
namespace KL
open PySem PySem.Spec PyProof.Rows L2 GA GxR
def rowD (r : List Int) : PyData := .tuple (r.map PyData.int)
theorem can_rows : ∀ Rs : List (List Int), PyData.canLayAll0 (Rs.map rowD) = true
  | [] => rfl
  | r :: Rs => by
    show (PyData.canLayAll0 (r.map PyData.int) && PyData.canLayAll0 (Rs.map rowD)) = true
    rw [PySem.W.ke_canLayAll0, can_rows Rs]
    rfl
theorem depth_rows : ∀ Rs : List (List Int), PyData.depthAll (Rs.map rowD) ≤ 1
  | [] => by show 0 ≤ 1; omega
  | r :: Rs => by
    show max (PyData.depthAll (r.map PyData.int) + 1) (PyData.depthAll (Rs.map rowD)) ≤ 1
    rw [PySem.W.ke_depthAll]
    have := depth_rows Rs
    omega
theorem shaped_rows (Rs : List (List Int)) : SeqAt.shaped (.list (Rs.map rowD)) = true := by
  show (PyData.canLayAll0 (Rs.map rowD) && decide (PyData.depthAll (Rs.map rowD) + 1 ≤ 64)) = true
  have := depth_rows Rs
  rw [can_rows, decide_eq_true (by omega)]
  rfl
theorem eqv_rows0 (Rs : List (List Int)) : PyData.eqv (.list (Rs.map rowD)) (.list []) = decide (Rs = []) := by
  cases Rs with
  | nil => rfl
  | cons r Rs =>
    rw [decide_eq_false (by intro h; cases h)]
    show PyData.eqvAll (rowD r :: Rs.map rowD) [] = false
    simp [PyData.eqvAll]
theorem dpAll_rows {K : PySem.W.Frag} {H : Hp} : ∀ {Bs : List Addr} {Rs : List (List Int)}, RowsAt H Bs Rs → DpAll K H (Bs.map V.ref) (Rs.map rowD)
  | [], [], _ => .nil
  | [], r :: Rs, h => absurd h.len (by rw [List.length_cons, List.length_nil]; omega)
  | b :: Bs, [], h => absurd h.len (by rw [List.length_cons, List.length_nil]; omega)
  | b :: Bs, r :: Rs, h => by
    obtain ⟨x, hx, hxt⟩ := h.at_ 0 r rfl
    cases (Option.some.inj hx)
    refine .cons (dpT_ints hxt) (dpAll_rows ⟨by have := h.len; rw [List.length_cons, List.length_cons] at this; omega, fun i s e => h.at_ (i + 1) s e⟩)
theorem eok_small {e : Nat} (h1 : 1 ≤ e) (h : e ≤ 2520) : EOk e := ⟨h1, fun q _ _ k hk => by have := Nat.le_of_dvd (by omega) hk; omega⟩
theorem eok_big {e X : Nat} (h1 : 1 ≤ e) (h : e ≤ 2520) (hX : X = (13 ^ 64) ^ 64) : EOk (e * X) := by
  have X0 : 0 < X := by rw [hX]; exact Nat.pow_pos (Nat.pow_pos (by omega))
  refine ⟨Nat.mul_pos h1 X0, fun q q2 q11 k hk => ?_⟩
  have c : Nat.Coprime q 13 := by
    obtain rfl | rfl | rfl | rfl | rfl | rfl | rfl | rfl | rfl | rfl : q = 2 ∨ q = 3 ∨ q = 4 ∨ q = 5 ∨ q = 6 ∨ q = 7 ∨ q = 8 ∨ q = 9 ∨ q = 10 ∨ q = 11 := by omega
    all_goals decide
  have c2 : Nat.Coprime (q ^ k) X := by
    rw [hX]
    exact Nat.Coprime.pow_left k (Nat.Coprime.pow_right 64 (Nat.Coprime.pow_right 64 c))
  have := Nat.le_of_dvd (by omega) (c2.dvd_of_dvd_mul_right hk)
  omega
theorem big_bits : (Builtin.Int.intBits 13 : Int) * 64 ≤ 2 ^ 27 ∧ (Builtin.Int.intBits (13 ^ (64 : Int).toNat) : Int) * 64 ≤ 2 ^ 27 := by decide +kernel
end KL
namespace KL
open PySem PySem.Spec PyProof.Rows L2 GA GxR
/-! ### the text -/
def topS (i : Nat) : Stmt := PySem.Challenge.pw_stronggens_k06_whole_roots.main.body.getD i (.Pass ⟨0, 0, 0, 0⟩)
abbrev sgreatest_power : Stmt := topS 1
abbrev sis_between : Stmt := topS 8
abbrev sis_tuple_of : Stmt := topS 9
abbrev sis_degree : Stmt := topS 10
abbrev sis_point : Stmt := topS 11
abbrev sare_points : Stmt := topS 12
abbrev sare_distinct_points : Stmt := topS 13
abbrev sis_permutation : Stmt := topS 14
abbrev sis_any_permutation : Stmt := topS 15
abbrev scheck_any_permutation : Stmt := topS 16
abbrev sfull_cycles : Stmt := topS 18
abbrev sfrom_cycles : Stmt := topS 19
abbrev sroot : Stmt := topS 22
abbrev sroot_obstacle : Stmt := topS 23
abbrev s_by_length : Stmt := topS 24
abbrev s_divisor : Stmt := topS 25
abbrev s_merged_cycle : Stmt := topS 26
abbrev s_law_taken : Stmt := topS 28
abbrev s_law_pick : Stmt := topS 29
abbrev s_law_alike : Stmt := topS 30
abbrev s_law_unit : Stmt := topS 31
abbrev s_law_mul : Stmt := topS 32
abbrev s_law_inv : Stmt := topS 33
abbrev s_law_conj : Stmt := topS 34
abbrev s_law_is_perm : Stmt := topS 35
abbrev s_law_perm : Stmt := topS 36
abbrev s_law_closure : Stmt := topS 37
abbrev s_law_ring : Stmt := topS 38
abbrev s_law_power : Stmt := topS 39
abbrev s_law_divisor : Stmt := topS 40
abbrev s_law_blocks : Stmt := topS 41
abbrev s_law_judged : Stmt := topS 42
abbrev slaw : Stmt := topS 43
theorem scgreatest_power : FnScope ["prime", "number", "squares", "greatest", "square"] ["prime", "number"] (defScope sgreatest_power) := ⟨rfl, rfl, rfl, by decide +kernel, rfl, by decide +kernel, by decide +kernel⟩
theorem scis_between : FnScope ["value", "low", "high"] ["value", "low", "high"] (defScope sis_between) := ⟨rfl, rfl, rfl, by decide +kernel, rfl, by decide +kernel, by decide +kernel⟩
theorem scis_tuple_of : FnScope ["value", "size"] ["value", "size"] (defScope sis_tuple_of) := ⟨rfl, rfl, rfl, by decide +kernel, rfl, by decide +kernel, by decide +kernel⟩
theorem scis_degree : FnScope ["value"] ["value"] (defScope sis_degree) := ⟨rfl, rfl, rfl, by decide +kernel, rfl, by decide +kernel, by decide +kernel⟩
theorem scis_point : FnScope ["degree", "value"] ["degree", "value"] (defScope sis_point) := ⟨rfl, rfl, rfl, by decide +kernel, rfl, by decide +kernel, by decide +kernel⟩
theorem scare_points : FnScope ["degree", "value", "x"] ["degree", "value"] (defScope sare_points) := ⟨rfl, rfl, rfl, by decide +kernel, rfl, by decide +kernel, by decide +kernel⟩
theorem scare_distinct_points : FnScope ["degree", "value"] ["degree", "value"] (defScope sare_distinct_points) := ⟨rfl, rfl, rfl, by decide +kernel, rfl, by decide +kernel, by decide +kernel⟩
theorem scis_permutation : FnScope ["degree", "value"] ["degree", "value"] (defScope sis_permutation) := ⟨rfl, rfl, rfl, by decide +kernel, rfl, by decide +kernel, by decide +kernel⟩
theorem scis_any_permutation : FnScope ["value"] ["value"] (defScope sis_any_permutation) := ⟨rfl, rfl, rfl, by decide +kernel, rfl, by decide +kernel, by decide +kernel⟩
theorem sccheck_any_permutation : FnScope ["value"] ["value"] (defScope scheck_any_permutation) := ⟨rfl, rfl, rfl, by decide +kernel, rfl, by decide +kernel, by decide +kernel⟩
theorem scfull_cycles : FnScope ["p", "rows", "seen", "first", "row", "point"] ["p"] (defScope sfull_cycles) := ⟨rfl, rfl, rfl, by decide +kernel, rfl, by decide +kernel, by decide +kernel⟩
theorem scfrom_cycles : FnScope ["degree", "rows", "images", "row", "place", "point"] ["degree", "rows"] (defScope sfrom_cycles) := ⟨rfl, rfl, rfl, by decide +kernel, rfl, by decide +kernel, by decide +kernel⟩
theorem scroot : FnScope ["p", "exponent", "merged", "length", "rows", "divisor", "start"] ["p", "exponent"] (defScope sroot) := ⟨rfl, rfl, rfl, by decide +kernel, rfl, by decide +kernel, by decide +kernel⟩
theorem scroot_obstacle : FnScope ["p", "exponent", "length", "rows", "divisor"] ["p", "exponent"] (defScope sroot_obstacle) := ⟨rfl, rfl, rfl, by decide +kernel, rfl, by decide +kernel, by decide +kernel⟩
theorem sc_by_length : FnScope ["p", "rows", "lengths", "length", "row"] ["p"] (defScope s_by_length) := ⟨rfl, rfl, rfl, by decide +kernel, rfl, by decide +kernel, by decide +kernel⟩
theorem sc_divisor : FnScope ["length", "exponent", "divisor", "prime"] ["length", "exponent"] (defScope s_divisor) := ⟨rfl, rfl, rfl, by decide +kernel, rfl, by decide +kernel, by decide +kernel⟩
theorem sc_merged_cycle : FnScope ["rows", "exponent", "size", "places", "start", "row", "step", "point"] ["rows", "exponent"] (defScope s_merged_cycle) := ⟨rfl, rfl, rfl, by decide +kernel, rfl, by decide +kernel, by decide +kernel⟩
theorem sc_law_taken : FnScope ["row", "many", "cell", "found"] ["row", "many"] (defScope s_law_taken) := ⟨rfl, rfl, rfl, by decide +kernel, rfl, by decide +kernel, by decide +kernel⟩
theorem sc_law_pick : FnScope ["row", "things"] ["row", "things"] (defScope s_law_pick) := ⟨rfl, rfl, rfl, by decide +kernel, rfl, by decide +kernel, by decide +kernel⟩
theorem sc_law_alike : FnScope ["found", "due", "k"] ["found", "due"] (defScope s_law_alike) := ⟨rfl, rfl, rfl, by decide +kernel, rfl, by decide +kernel, by decide +kernel⟩
theorem sc_law_unit : FnScope ["degree"] ["degree"] (defScope s_law_unit) := ⟨rfl, rfl, rfl, by decide +kernel, rfl, by decide +kernel, by decide +kernel⟩
theorem sc_law_mul : FnScope ["p", "q", "image"] ["p", "q"] (defScope s_law_mul) := ⟨rfl, rfl, rfl, by decide +kernel, rfl, by decide +kernel, by decide +kernel⟩
theorem sc_law_inv : FnScope ["p", "found", "point"] ["p"] (defScope s_law_inv) := ⟨rfl, rfl, rfl, by decide +kernel, rfl, by decide +kernel, by decide +kernel⟩
theorem sc_law_conj : FnScope ["p", "g"] ["p", "g"] (defScope s_law_conj) := ⟨rfl, rfl, rfl, by decide +kernel, rfl, by decide +kernel, by decide +kernel⟩
theorem sc_law_is_perm : FnScope ["degree", "value", "image"] ["degree", "value"] (defScope s_law_is_perm) := ⟨rfl, rfl, rfl, by decide +kernel, rfl, by decide +kernel, by decide +kernel⟩
theorem sc_law_perm : FnScope ["row", "degree", "found", "at", "other"] ["row", "degree"] (defScope s_law_perm) := ⟨rfl, rfl, rfl, by decide +kernel, rfl, by decide +kernel, by decide +kernel⟩
theorem sc_law_closure : FnScope ["degree", "gens", "turn", "found", "seen", "at", "g", "p"] ["degree", "gens"] (defScope s_law_closure) := ⟨rfl, rfl, rfl, by decide +kernel, rfl, by decide +kernel, by decide +kernel⟩
theorem sc_law_ring : FnScope ["p", "first", "turn", "found", "point"] ["p", "first"] (defScope s_law_ring) := ⟨rfl, rfl, rfl, by decide +kernel, rfl, by decide +kernel, by decide +kernel⟩
theorem sc_law_power : FnScope ["p", "exponent", "found", "point", "ring"] ["p", "exponent"] (defScope s_law_power) := ⟨rfl, rfl, rfl, by decide +kernel, rfl, by decide +kernel, by decide +kernel⟩
theorem sc_law_divisor : FnScope ["size", "exponent", "found", "prime", "turn"] ["size", "exponent"] (defScope s_law_divisor) := ⟨rfl, rfl, rfl, by decide +kernel, rfl, by decide +kernel, by decide +kernel⟩
theorem sc_law_blocks : FnScope ["row", "most", "turn", "found", "sizes", "size", "begin", "at"] ["row", "most"] (defScope s_law_blocks) := ⟨rfl, rfl, rfl, by decide +kernel, rfl, by decide +kernel, by decide +kernel⟩
theorem sc_law_judged : FnScope ["p", "exponent", "sizes", "size", "told", "found", "many", "divisor", "point"] ["p", "exponent"] (defScope s_law_judged) := ⟨rfl, rfl, rfl, by decide +kernel, rfl, by decide +kernel, by decide +kernel⟩
theorem sclaw : FnScope ["script", "row", "exponent", "p", "few", "size", "turn", "swap", "roots", "g", "at"] ["script"] (defScope slaw) := ⟨rfl, rfl, rfl, by decide +kernel, rfl, by decide +kernel, by decide +kernel⟩
/-! ### the facts -/
structure TX (K : PySem.W.Frag) (mg : Str → Option Value) (base : Heap) : Prop where
  F_greatest_power : Fun K "greatest_power" "greatest_power" sgreatest_power (He.ga K "greatest_power") (fdK K "greatest_power")
  b_greatest_power : Binds K (fdK K "greatest_power") ["prime", "number"] []
  g_greatest_power : mg "greatest_power" = some (.ref (He.ga K "greatest_power"))
  F_is_between : Fun K "is_between" "is_between" sis_between (He.ga K "is_between") (fdK K "is_between")
  b_is_between : Binds K (fdK K "is_between") ["value", "low", "high"] []
  g_is_between : mg "is_between" = some (.ref (He.ga K "is_between"))
  F_is_tuple_of : Fun K "is_tuple_of" "is_tuple_of" sis_tuple_of (He.ga K "is_tuple_of") (fdK K "is_tuple_of")
  b_is_tuple_of : Binds K (fdK K "is_tuple_of") ["value", "size"] []
  g_is_tuple_of : mg "is_tuple_of" = some (.ref (He.ga K "is_tuple_of"))
  F_is_degree : Fun K "is_degree" "is_degree" sis_degree (He.ga K "is_degree") (fdK K "is_degree")
  b_is_degree : Binds K (fdK K "is_degree") ["value"] []
  g_is_degree : mg "is_degree" = some (.ref (He.ga K "is_degree"))
  F_is_point : Fun K "is_point" "is_point" sis_point (He.ga K "is_point") (fdK K "is_point")
  b_is_point : Binds K (fdK K "is_point") ["degree", "value"] []
  g_is_point : mg "is_point" = some (.ref (He.ga K "is_point"))
  F_are_points : Fun K "are_points" "are_points" sare_points (He.ga K "are_points") (fdK K "are_points")
  b_are_points : Binds K (fdK K "are_points") ["degree", "value"] []
  g_are_points : mg "are_points" = some (.ref (He.ga K "are_points"))
  F_are_distinct_points : Fun K "are_distinct_points" "are_distinct_points" sare_distinct_points (He.ga K "are_distinct_points") (fdK K "are_distinct_points")
  b_are_distinct_points : Binds K (fdK K "are_distinct_points") ["degree", "value"] []
  g_are_distinct_points : mg "are_distinct_points" = some (.ref (He.ga K "are_distinct_points"))
  F_is_permutation : Fun K "is_permutation" "is_permutation" sis_permutation (He.ga K "is_permutation") (fdK K "is_permutation")
  b_is_permutation : Binds K (fdK K "is_permutation") ["degree", "value"] []
  g_is_permutation : mg "is_permutation" = some (.ref (He.ga K "is_permutation"))
  F_is_any_permutation : Fun K "is_any_permutation" "is_any_permutation" sis_any_permutation (He.ga K "is_any_permutation") (fdK K "is_any_permutation")
  b_is_any_permutation : Binds K (fdK K "is_any_permutation") ["value"] []
  g_is_any_permutation : mg "is_any_permutation" = some (.ref (He.ga K "is_any_permutation"))
  F_check_any_permutation : Fun K "check_any_permutation" "check_any_permutation" scheck_any_permutation (He.ga K "check_any_permutation") (fdK K "check_any_permutation")
  b_check_any_permutation : Binds K (fdK K "check_any_permutation") ["value"] []
  g_check_any_permutation : mg "check_any_permutation" = some (.ref (He.ga K "check_any_permutation"))
  F_full_cycles : Fun K "full_cycles" "full_cycles" sfull_cycles (He.ga K "full_cycles") (fdK K "full_cycles")
  b_full_cycles : Binds K (fdK K "full_cycles") ["p"] []
  g_full_cycles : mg "full_cycles" = some (.ref (He.ga K "full_cycles"))
  F_from_cycles : Fun K "from_cycles" "from_cycles" sfrom_cycles (He.ga K "from_cycles") (fdK K "from_cycles")
  b_from_cycles : Binds K (fdK K "from_cycles") ["degree", "rows"] []
  g_from_cycles : mg "from_cycles" = some (.ref (He.ga K "from_cycles"))
  F_root : Fun K "root" "root" sroot (He.ga K "root") (fdK K "root")
  b_root : Binds K (fdK K "root") ["p", "exponent"] []
  g_root : mg "root" = some (.ref (He.ga K "root"))
  F_root_obstacle : Fun K "root_obstacle" "root_obstacle" sroot_obstacle (He.ga K "root_obstacle") (fdK K "root_obstacle")
  b_root_obstacle : Binds K (fdK K "root_obstacle") ["p", "exponent"] []
  g_root_obstacle : mg "root_obstacle" = some (.ref (He.ga K "root_obstacle"))
  F__by_length : Fun K "_by_length" "_by_length" s_by_length (He.ga K "_by_length") (fdK K "_by_length")
  b__by_length : Binds K (fdK K "_by_length") ["p"] []
  g__by_length : mg "_by_length" = some (.ref (He.ga K "_by_length"))
  F__divisor : Fun K "_divisor" "_divisor" s_divisor (He.ga K "_divisor") (fdK K "_divisor")
  b__divisor : Binds K (fdK K "_divisor") ["length", "exponent"] []
  g__divisor : mg "_divisor" = some (.ref (He.ga K "_divisor"))
  F__merged_cycle : Fun K "_merged_cycle" "_merged_cycle" s_merged_cycle (He.ga K "_merged_cycle") (fdK K "_merged_cycle")
  b__merged_cycle : Binds K (fdK K "_merged_cycle") ["rows", "exponent"] []
  g__merged_cycle : mg "_merged_cycle" = some (.ref (He.ga K "_merged_cycle"))
  F__law_taken : Fun K "_law_taken" "_law_taken" s_law_taken (He.ga K "_law_taken") (fdK K "_law_taken")
  b__law_taken : Binds K (fdK K "_law_taken") ["row", "many"] []
  g__law_taken : mg "_law_taken" = some (.ref (He.ga K "_law_taken"))
  F__law_pick : Fun K "_law_pick" "_law_pick" s_law_pick (He.ga K "_law_pick") (fdK K "_law_pick")
  b__law_pick : Binds K (fdK K "_law_pick") ["row", "things"] []
  g__law_pick : mg "_law_pick" = some (.ref (He.ga K "_law_pick"))
  F__law_alike : Fun K "_law_alike" "_law_alike" s_law_alike (He.ga K "_law_alike") (fdK K "_law_alike")
  b__law_alike : Binds K (fdK K "_law_alike") ["found", "due"] []
  g__law_alike : mg "_law_alike" = some (.ref (He.ga K "_law_alike"))
  F__law_unit : Fun K "_law_unit" "_law_unit" s_law_unit (He.ga K "_law_unit") (fdK K "_law_unit")
  b__law_unit : Binds K (fdK K "_law_unit") ["degree"] []
  g__law_unit : mg "_law_unit" = some (.ref (He.ga K "_law_unit"))
  F__law_mul : Fun K "_law_mul" "_law_mul" s_law_mul (He.ga K "_law_mul") (fdK K "_law_mul")
  b__law_mul : Binds K (fdK K "_law_mul") ["p", "q"] []
  g__law_mul : mg "_law_mul" = some (.ref (He.ga K "_law_mul"))
  F__law_inv : Fun K "_law_inv" "_law_inv" s_law_inv (He.ga K "_law_inv") (fdK K "_law_inv")
  b__law_inv : Binds K (fdK K "_law_inv") ["p"] []
  g__law_inv : mg "_law_inv" = some (.ref (He.ga K "_law_inv"))
  F__law_conj : Fun K "_law_conj" "_law_conj" s_law_conj (He.ga K "_law_conj") (fdK K "_law_conj")
  b__law_conj : Binds K (fdK K "_law_conj") ["p", "g"] []
  g__law_conj : mg "_law_conj" = some (.ref (He.ga K "_law_conj"))
  F__law_is_perm : Fun K "_law_is_perm" "_law_is_perm" s_law_is_perm (He.ga K "_law_is_perm") (fdK K "_law_is_perm")
  b__law_is_perm : Binds K (fdK K "_law_is_perm") ["degree", "value"] []
  g__law_is_perm : mg "_law_is_perm" = some (.ref (He.ga K "_law_is_perm"))
  F__law_perm : Fun K "_law_perm" "_law_perm" s_law_perm (He.ga K "_law_perm") (fdK K "_law_perm")
  b__law_perm : Binds K (fdK K "_law_perm") ["row", "degree"] []
  g__law_perm : mg "_law_perm" = some (.ref (He.ga K "_law_perm"))
  F__law_closure : Fun K "_law_closure" "_law_closure" s_law_closure (He.ga K "_law_closure") (fdK K "_law_closure")
  b__law_closure : Binds K (fdK K "_law_closure") ["degree", "gens"] []
  g__law_closure : mg "_law_closure" = some (.ref (He.ga K "_law_closure"))
  F__law_ring : Fun K "_law_ring" "_law_ring" s_law_ring (He.ga K "_law_ring") (fdK K "_law_ring")
  b__law_ring : Binds K (fdK K "_law_ring") ["p", "first"] []
  g__law_ring : mg "_law_ring" = some (.ref (He.ga K "_law_ring"))
  F__law_power : Fun K "_law_power" "_law_power" s_law_power (He.ga K "_law_power") (fdK K "_law_power")
  b__law_power : Binds K (fdK K "_law_power") ["p", "exponent"] []
  g__law_power : mg "_law_power" = some (.ref (He.ga K "_law_power"))
  F__law_divisor : Fun K "_law_divisor" "_law_divisor" s_law_divisor (He.ga K "_law_divisor") (fdK K "_law_divisor")
  b__law_divisor : Binds K (fdK K "_law_divisor") ["size", "exponent"] []
  g__law_divisor : mg "_law_divisor" = some (.ref (He.ga K "_law_divisor"))
  F__law_blocks : Fun K "_law_blocks" "_law_blocks" s_law_blocks (He.ga K "_law_blocks") (fdK K "_law_blocks")
  b__law_blocks : Binds K (fdK K "_law_blocks") ["row", "most"] []
  g__law_blocks : mg "_law_blocks" = some (.ref (He.ga K "_law_blocks"))
  F__law_judged : Fun K "_law_judged" "_law_judged" s_law_judged (He.ga K "_law_judged") (fdK K "_law_judged")
  b__law_judged : Binds K (fdK K "_law_judged") ["p", "exponent"] []
  g__law_judged : mg "_law_judged" = some (.ref (He.ga K "_law_judged"))
  F_law : Fun K "law" "law" slaw (He.ga K "law") (fdK K "law")
  b_law : Binds K (fdK K "law") ["script"] []
  g_law : mg "law" = some (.ref (He.ga K "law"))
  n_all : mg "all" = none
  n_bool : mg "bool" = none
  n_enumerate : mg "enumerate" = none
  n_int : mg "int" = none
  n_isinstance : mg "isinstance" = none
  n_len : mg "len" = none
  n_list : mg "list" = none
  n_range : mg "range" = none
  n_reversed : mg "reversed" = none
  n_set : mg "set" = none
  n_sorted : mg "sorted" = none
  n_str : mg "str" = none
  n_tuple : mg "tuple" = none
  n_type : mg "type" = none
  c_MOST_DEGREE : ∃ u, mg "MOST_DEGREE" = some u ∧ RelV (.int 12) u
  c_PRIMES : (∃ u, mg "PRIMES" = some u ∧ RelV (.ref (He.ga K "PRIMES")) u) ∧ ∀ H, SqT K H (He.ga K "PRIMES") (([2, 3, 5, 7, 11] : List Int).map V.int)
  tab_are_points : GxR.TabB base mg (He.cT K ("are_points", none)).1 (He.cT K ("are_points", none)).2
def tabL : List Str := ["are_points"]
end KL
namespace KL
open PySem PySem.Spec PyProof.Rows L2 GA GxR
local macro_rules | `(tactic| walk_at "sx") => `(tactic| simp only [L2.start, List.map_cons, List.map_nil, List.length_cons, List.length_nil, Nat.reduceAdd, Nat.reduceSub, List.replicate, List.cons_append, List.nil_append, tRet, tSeq, tNext, tIfS, tAsg, tDrop, gName, gSub, rSetL, gTup, gCons, gNil, tB, tNot, tTest, tAndV, tOrV, tNotV, tAnd, tOr, tIf, tOp, tUn, tThenZ, tThen, r1, kTyp, kTup, tVar, tC, tChain, tCB, tCons, tNil, rI0, rI, rEq, rNe, rRep, rIxT, rIxL, tCall, tTup, tLst, tTupRg, tLstRg, tRg1, tRg2, tPar, List.getElem?_cons_zero, List.getElem?_cons_succ, List.set_cons_zero, List.set_cons_succ, Option.some.injEq, exists_eq_left', exists_eq_left, V.ty.injEq, V.int.injEq, V.bl.injEq, V.ref.injEq, List.cons.injEq, and_true, true_and, wipe, exists_and_left, List.append_nil, reduceCtorEq, false_and, exists_false, false_or, or_false])
section
variable {P : Program} {w : World} {K : PySem.W.Frag} {mg : Str → Option Value} {base : Heap}
theorem ok_greatest_power (T : TX K mg base) : FnOk P w K mg base CX0 1 (He.ga K "greatest_power") (fdK K "greatest_power") ["prime", "number"] spGreatest := by
  refine T.F_greatest_power.ok scgreatest_power (fun vs H Q E h => ?_) (fun cdv A outer s H vs Q E hr h => ?_)
  · obtain ⟨q, n, rfl, _⟩ := h
    rfl
  · obtain ⟨q, n, rfl, hq2, hq11, hn1, hs, z⟩ := h
    refine ⟨_, (pss_cons (ps_set (i := 2) scgreatest_power.nd rfl (.inl rfl) (pe_lst (pa_cons (pv 0) pa_nil)))
      (pss_cons (ps_while PassesOwn.never (pt_cmpR op_eq (pe_op op_mod (pv 1) (pe_ix (ixL (K := K) rfl) (pv 2) (pe_un un_neg pe_int) (fun _ _ => rfl))) pe_int (nomark _)) (pss_one (ps_expr (pe_bm PySem.F.plainAttrs_list PySem.F.slot_list_append PySem.F.type_list_append mt_append (pv 2) (pa_cons (pe_op op_mul (pe_ix (ixL (K := K) rfl) (pv 2) (pe_un un_neg pe_int) (fun _ _ => rfl)) (pe_ix (ixL (K := K) rfl) (pv 2) (pe_un un_neg pe_int) (fun _ _ => rfl))) pa_nil)))))
      (pss_cons (ps_set (i := 3) scgreatest_power.nd rfl (.inl rfl) pe_int)
      (pss_cons (ps_for PassesOwn.never rfl (RT.pi_revA (by rfl) T.n_reversed (pv 2)) (pg_name (i := 4) scgreatest_power.nd rfl (.inl rfl)) (pss_one (ps_if (pt_cmpR op_eq (pe_op op_mod (pv 1) (pv 4)) pe_int (nomark _)) (pss_cons (ps_set (i := 1) scgreatest_power.nd rfl (.inl rfl) (pe_op op_fdivW (pv 1) (pv 4)))
      (pss_one (ps_set (i := 3) scgreatest_power.nd rfl (.inl rfl) (pe_op op_mul (pv 3) (pv 4))))) pss_nil)))
      (pss_one (ps_ret (pv 3))))))), ?_⟩
    walk_at "sx"
    refine ⟨by show 1 ≤ sizeLine; decide, fun l nl => ?_⟩
    have xl : Ex H (upd H l (.lst [.int q])) := Ex.new nl
    have e0 : [V.int q] = (sqs q 0).map V.int := by
      show [V.int q] = [V.int ((q ^ 2 ^ 0 : Nat) : Int)]
      rw [Nat.pow_zero, Nat.pow_one]
    rw [e0] at xl ⊢
    refine ⟨fun m σ H1 => ∃ j, m = 20 - j ∧ σ = [some (.int q), some (.int n), some (.ref l), none, none] ∧ Ex H H1 ∧ H1 l = some (.lst ((sqs q j).map V.int)) ∧ ∀ i, i < j → q ^ 2 ^ i ∣ n,
      ⟨20, 0, rfl, rfl, xl, upd_same, fun i h => by omega⟩, fun m σ H1 ⟨j, em, es, x1, hl, hd⟩ => ?_⟩
    subst em es
    have j15 : j ≤ 4 := by
      by_cases c : j = 0
      · omega
      · have := sq_few hq2 hs (hd (j - 1) (by omega))
        omega
    have hg := sqs_get (q := q) (j := j) (i := j) (Nat.le_refl _)
    have ha : atI ((sqs q j).map V.int) (-1) = some (.int ((q ^ 2 ^ j : Nat) : Int)) := by
      cases j with
      | zero => exact atI_last [] _
      | succ j => rw [sqs_more, List.map_append]; exact atI_last _ _
    have hpos : 0 < q ^ 2 ^ j := Nat.pow_pos (by omega)
    walk_at "sx"
    refine ⟨1, rfl, (sqs q j).map V.int, -1, rfl, sl_at hl, _, ha, _, rfl, by omega, rfl, ?_⟩
    rw [mod_dvd]
    by_cases c : q ^ 2 ^ j ∣ n
    · rw [decide_eq_true c]
      refine iteT ⟨fun σ' H' => σ' = [some (.int q), some (.int n), some (.ref l), none, none] ∧ Ex H H' ∧ H' l = some (.lst ((sqs q (j + 1)).map V.int)), fun σ' H' ⟨e1, e2, e3⟩ => ⟨20 - (j + 1), by omega, j + 1, rfl, e1, e2, e3, fun i hi => ?_⟩, ?_⟩
      · by_cases e : i = j
        · rw [e]; exact c
        · exact hd i (by omega)
      · simp only [tBM, rAppend]
        walk_at "sx"
        have c4 := hs _ c
        refine ⟨.inl ⟨rfl, _, sl_at hl⟩, 1, rfl, _, -1, rfl, sl_at hl, _, ha, 1, rfl, _, -1, rfl, sl_at hl, _, ha, _, rfl, _, rfl, .inl ⟨by omega, by omega⟩, _, hl, by rw [List.length_map, sqs_len]; exact small1000 (by omega), x1.own nl, ?_⟩
        rw [upd_same, sqs_more, List.map_append, ← Int.natCast_mul, sq_mul]
        rfl
    · rw [decide_eq_false c]
      refine iteF ?_
      have hlen : ((sqs q j).map V.int).length = j + 1 := by rw [List.length_map, sqs_len]
      refine ⟨.ref l, rfl, l, (sqs q j).map V.int, rfl, .inl ⟨sl_at hl, for_it walk_rev (fun t σ H2 => ∃ y4 x k, σ = [some (.int q), some (.int (x : Nat)), some (.ref l), some (.int ((q ^ k : Nat) : Int)), y4] ∧ Ex H H2 ∧ H2 l = some (.lst ((sqs q j).map V.int)) ∧ x * q ^ k = n ∧ ¬ q ^ 2 ^ (j + 1 - t) ∣ x)
        ⟨none, n, 0, by rw [Nat.pow_zero]; rfl, x1, hl, by rw [Nat.pow_zero, Nat.mul_one], fun h => c ?_⟩ (fun t σ H2 _ ⟨_, _, _, _, _, h, _⟩ => sl_at h) (fun t y σ H2 H3 ht ⟨y4, x, k, es, x2, hl2, en, nd⟩ ⟨e, hy⟩ => ?_) (fun σ H2 ⟨y4, x, k, es, x2, hl2, en, nd⟩ => ?_)⟩⟩
      · rw [Nat.sub_zero, ← sq_mul] at h
        exact Nat.dvd_trans (Nat.dvd_mul_left _ _) h
      · subst es e
        rw [hlen] at ht
        have ei : ((sqs q j).map V.int).length - 1 - t = j - t := by omega
        rw [ei, List.getElem?_map, sqs_get (by omega)] at hy
        have ey : V.int ((q ^ 2 ^ (j - t) : Nat) : Int) = y := Option.some.inj hy
        subst ey
        have s0 : 0 < q ^ 2 ^ (j - t) := Nat.pow_pos (by omega)
        have nd2 : ¬ q ^ 2 ^ (j - t) * q ^ 2 ^ (j - t) ∣ x := by
          rw [sq_mul, show j - t + 1 = j + 1 - t by omega]
          exact nd
        walk_at "sx"
        refine ⟨by omega, rfl, ?_⟩
        rw [mod_dvd]
        have et : j + 1 - (t + 1) = j - t := by omega
        by_cases c2 : q ^ 2 ^ (j - t) ∣ x
        · have hk4 := hs k ⟨x, by rw [← en, Nat.mul_comm]⟩
          have hs4 := hs (2 ^ (j - t)) (Nat.dvd_trans c2 ⟨q ^ k, en.symm⟩)
          rw [decide_eq_true c2]
          refine iteT ⟨⟨by omega, ?_⟩, .inl ⟨by omega, by omega⟩, _, x / q ^ 2 ^ (j - t), k + 2 ^ (j - t), ⟨?_, ?_, rfl⟩, x2, hl2, ?_, ?_⟩
          · have := Nat.log2_le_self (((q ^ 2 ^ (j - t) : Nat) : Int).natAbs)
            omega
          · rw [Int.natCast_ediv]
          · rw [Nat.pow_add, Int.natCast_mul]
          · rw [Nat.pow_add, Nat.mul_comm (q ^ k), ← Nat.mul_assoc, Nat.div_mul_cancel c2, en]
          · rw [et]
            exact sq_step s0 c2 nd2
        · rw [decide_eq_false c2]
          refine iteF ⟨_, x, k, ⟨rfl, rfl, rfl⟩, x2, hl2, en, ?_⟩
          rw [et]
          exact c2
      · subst es
        rw [hlen, Nat.sub_self, Nat.pow_zero, Nat.pow_one] at nd
        have ge := great_end (k := k) hq2 nd
        rw [en] at ge
        walk_at "sx"
        exact z k H2 x2 ge.1 ge.2
theorem ok_is_between (T : TX K mg base) : FnOk P w K mg base CX0 1 (He.ga K "is_between") (fdK K "is_between") ["value", "low", "high"] spBetween := by
  refine T.F_is_between.ok scis_between (fun vs H Q E h => ?_) (fun cdv A outer s H vs Q E hr h => ?_)
  · obtain ⟨v, lo, hi, rfl, _⟩ := h
    rfl
  · obtain ⟨v, lo, hi, rfl, ⟨n, hn⟩, q⟩ := h
    refine ⟨_, (pss_one (ps_ret (pe_and (pe_cmpR op_isTy (pe_typeOf (by rfl) T.n_type (pv 0)) (pe_bltn (v := .ty "int") (by rfl) T.n_int (by decide +kernel) rfl) (nomark _)) (pe_one (pe_chain op_le op_le (pv 1) (pv 0) (pv 2)))))), ?_⟩
    walk_at "sx"
    simp only [hn, Option.some.injEq, exists_eq_left']
    by_cases e : n = "int"
    · subst e
      obtain ⟨i, rfl⟩ := zty_int v H hn
      refine ite2 (fun _ => ⟨i, rfl, ite2 (fun c => ⟨i, rfl, ?_⟩) (fun c => ?_)⟩) (fun z => absurd rfl z)
      · simpa only [btV, c, Bool.true_and] using q
      · simpa only [btV, Bool.eq_false_iff.mpr c, Bool.false_and] using q
    · rw [if_neg (by simpa using e)]
      have eb : btV lo hi v = false := by
        cases v with
        | int i => exact absurd (Option.some.inj hn).symm e
        | _ => rfl
      rw [eb] at q
      exact q
theorem ok_is_tuple_of (T : TX K mg base) : FnOk P w K mg base CX0 1 (He.ga K "is_tuple_of") (fdK K "is_tuple_of") ["value", "size"] spTupleOf := by
  refine T.F_is_tuple_of.ok scis_tuple_of (fun vs H Q E h => ?_) (fun cdv A outer s H vs Q E hr h => ?_)
  · obtain ⟨v, n, rfl, _⟩ := h
    rfl
  · obtain ⟨v, n, rfl, ⟨m, hm⟩, q⟩ := h
    refine ⟨_, (pss_one (ps_ret (pe_and (pe_cmpR op_isTy (pe_typeOf (by rfl) T.n_type (pv 0)) (pe_bltn (v := .ty "tuple") (by rfl) T.n_tuple (by decide +kernel) rfl) (nomark _)) (pe_one (pe_cmpR op_eq (pe_callB (lenS (K := K) rfl) (by rfl) T.n_len PySem.boot_len (pa_cons (pv 0) pa_nil)) (pv 1) (nomark _)))))), ?_⟩
    walk_at "sx"
    simp only [hm, Option.some.injEq, exists_eq_left']
    cases ht : tupOf H v with
    | none =>
      rw [if_neg (by simpa using zty_not v H m hm ht)]
      simpa only [lenB, ht] using q
    | some xs =>
      obtain ⟨a, rfl, ha⟩ := tupOf_some ht
      have em : m = "tuple" := Option.some.inj (hm.symm.trans (zty_tup _ H xs ht))
      rw [if_pos (by simpa using em)]
      refine ⟨a, rfl, xs, .inr (.inl (.inl ha)), rfl, ?_⟩
      simpa only [lenB, ht, V.int.injEq] using q
theorem ok_is_degree (T : TX K mg base) : FnOk P w K mg base CX0 2 (He.ga K "is_degree") (fdK K "is_degree") ["value"] spDegree := by
  refine T.F_is_degree.ok scis_degree (fun vs H Q E h => ?_) (fun cdv A outer s H vs Q E hr h => ?_)
  · obtain ⟨v, rfl, _⟩ := h
    rfl
  · obtain ⟨v, rfl, t, q⟩ := h
    refine ⟨_, (pss_one (ps_ret (pe_call (ok_is_between T) hr (by rfl) T.g_is_between T.F_is_between.kp T.b_is_between .nil pass0 (pa_cons (pv 0) (pa_cons pe_int (pa_cons (C8.pe_gc rfl T.c_MOST_DEGREE) pa_nil)))))), ?_⟩
    walk_at "sx"
    exact ⟨v, 1, 12, rfl, t, q⟩
theorem bd : BtDef sis_between := ⟨⟨_, _, _, _, _, _, _, _, _, _, _, rfl⟩, rfl, rfl, rfl, by decide +kernel, rfl, rfl, rfl, rfl, rfl⟩
theorem pd : PtDef sis_point := ⟨⟨_, _, _, _, _, _, _, _, _, _, rfl⟩, rfl, rfl, rfl, by decide +kernel, rfl, rfl, rfl⟩
theorem ok_are_points (T : TX K mg base) : FnOk P w K mg base CX0 3 (He.ga K "are_points") (fdK K "are_points") ["degree", "value"] (spPoints K) := by
  refine okC T.F_are_points scare_points (fun vs H Q E h => ?_) (fun cdv A outer s H vs Q E hcd hr h => ?_)
  · obtain ⟨v, d, rfl, _⟩ := h
    rfl
  · obtain ⟨v, d, rfl, ⟨⟨m, hm⟩, hit⟩, hT, q⟩ := h
    refine ⟨_, (pss_one (ps_ret (pe_and (pe_cmpR op_isTy (pe_typeOf (by rfl) T.n_type (pv 1)) (pe_bltn (v := .ty "tuple") (by rfl) T.n_tuple (by decide +kernel) rfl) (nomark _)) (pe_one (pe_allT hr (by rfl) T.n_all T.tab_are_points hcd (by exact genS_by rfl rfl (by decide) rfl rfl rfl) (pv 1) (by intro _; rfl) (by decide +kernel)))))), ?_⟩
    walk_at "sx"
    simp only [hm, Option.some.injEq, exists_eq_left', tAllT]
    cases ht : tupOf H v with
    | none =>
      rw [if_neg (by simpa using zty_not v H m hm ht)]
      have q := q H (Ex.refl H)
      simpa only [ptsB, ht] using q
    | some xs =>
      obtain ⟨a, rfl, ha⟩ := tupOf_some ht
      have em : m = "tuple" := Option.some.inj (hm.symm.trans (zty_tup _ H xs ht))
      rw [if_pos (by simpa using em)]
      walk_at "sx"
      refine ⟨xs, .inl (.inl ha), hT, btV 0 (d - 1), fun pins s1 I => ?_, fun H2 hTb => ?_⟩
      · exact elt_point (i := 0) (k := 0) I hT (by exact genS_by rfl rfl (by decide) rfl rfl rfl) ⟨rfl, rfl, rfl, rfl⟩ rfl rfl rfl T.F_is_point pd T.b_is_point T.g_is_point T.F_is_between bd T.b_is_between T.g_is_between T.n_type T.n_int hr (hit xs ht).2 (base_ne I hT)
      · have q := q H2 (Ex.tabbed hT hTb)
        simpa only [ptsB, ht] using q
theorem ok_are_distinct_points (T : TX K mg base) : FnOk P w K mg base CX0 4 (He.ga K "are_distinct_points") (fdK K "are_distinct_points") ["degree", "value"] (spDistinct K) := by
  refine T.F_are_distinct_points.ok scare_distinct_points (fun vs H Q E h => ?_) (fun cdv A outer s H vs Q E hr h => ?_)
  · obtain ⟨v, d, rfl, _⟩ := h
    rfl
  · obtain ⟨v, d, rfl, g, hT, q⟩ := h
    refine ⟨_, (pss_one (ps_ret (pe_and (pe_call (ok_are_points T) hr (by rfl) T.g_are_points T.F_are_points.kp T.b_are_points .nil pass0 (pa_cons (pv 0) (pa_cons (pv 1) pa_nil))) (pe_one (pe_cmpR op_eq (pe_lenSetT (by rfl) T.n_len (by rfl) T.n_set (pv 1)) (pe_callB (lenS (K := K) rfl) (by rfl) T.n_len PySem.boot_len (pa_cons (pv 1) pa_nil)) (nomark _)))))), ?_⟩
    walk_at "sx"
    refine ⟨v, d, rfl, g, hT, fun H' x => ⟨_, rfl, ?_⟩⟩
    cases ht : tupOf H v with
    | none =>
      have e : ptsB H d v = false := by unfold ptsB; rw [ht]
      rw [e]
      refine iteF ?_
      have q := q H' x
      simpa only [dstB, ht] using q
    | some xs =>
      obtain ⟨a, rfl, ha⟩ := tupOf_some ht
      have e : ptsB H d (.ref a) = xs.all (btV 0 (d - 1)) := by unfold ptsB; rw [ht]
      have e2 : dstB H d (.ref a) = (xs.all (btV 0 (d - 1)) && decide xs.Nodup) := by unfold dstB; rw [ht]
      rw [e]
      rw [e2] at q
      cases hall : xs.all (btV 0 (d - 1)) with
      | false =>
        rw [hall] at q
        exact iteF (q H' x)
      | true =>
        rw [hall, Bool.true_and] at q
        obtain ⟨ns, rfl, hns⟩ := all_ints hall
        refine iteT ?_
        have ha' : H' a = some (.tup (ns.map V.int)) := x.st _ _ ha trivial
        have hlen := (g.it _ ht).1
        rw [List.length_map] at hlen
        unfold tLenSetT
        walk_at "sx"
        refine ⟨ns, .inl (.inl ha'), hlen, fun ks hk hm => ⟨ns.map V.int, .inr (.inl (.inl ha')), rfl, ?_⟩⟩
        have eb : decide (((ks.length : Nat) : Int) = (((ns.map V.int).length : Nat) : Int)) = decide (ns.map V.int).Nodup := by
          rw [List.length_map, decide_eq_decide, nodup_map_int]
          constructor
          · intro z
            exact nodup_of_len hk hm (by omega)
          · intro z
            rw [len_nodup hk hm z]
        rw [eb]
        exact q H' x
theorem ok_is_permutation (T : TX K mg base) : FnOk P w K mg base CX0 5 (He.ga K "is_permutation") (fdK K "is_permutation") ["degree", "value"] (spPerm K) := by
  refine T.F_is_permutation.ok scis_permutation (fun vs H Q E h => ?_) (fun cdv A outer s H vs Q E hr h => ?_)
  · obtain ⟨v, d, rfl, _⟩ := h
    rfl
  · obtain ⟨v, d, rfl, g, hT, q⟩ := h
    refine ⟨_, (pss_one (ps_ret (pe_and (pe_call (ok_is_tuple_of T) (hr.mono (by decide)) (by rfl) T.g_is_tuple_of T.F_is_tuple_of.kp T.b_is_tuple_of .nil pass0 (pa_cons (pv 1) (pa_cons (pv 0) pa_nil))) (pe_one (pe_call (ok_are_distinct_points T) hr (by rfl) T.g_are_distinct_points T.F_are_distinct_points.kp T.b_are_distinct_points .nil pass0 (pa_cons (pv 0) (pa_cons (pv 1) pa_nil))))))), ?_⟩
    walk_at "sx"
    refine ⟨v, d, rfl, g.ty, _, rfl, ?_⟩
    unfold permB at q
    cases e : lenB H d v with
    | false =>
      rw [e] at q
      exact iteF (q H (Ex.refl H))
    | true =>
      rw [e, Bool.true_and] at q
      exact iteT ⟨v, d, rfl, g, hT, q⟩
theorem ok_is_any_permutation (T : TX K mg base) : FnOk P w K mg base CX0 6 (He.ga K "is_any_permutation") (fdK K "is_any_permutation") ["value"] (spAny K) := by
  refine T.F_is_any_permutation.ok scis_any_permutation (fun vs H Q E h => ?_) (fun cdv A outer s H vs Q E hr h => ?_)
  · obtain ⟨v, rfl, _⟩ := h
    rfl
  · obtain ⟨v, rfl, g, hT, q⟩ := h
    obtain ⟨m, hm⟩ := g.ty
    refine ⟨_, (pss_one (ps_ret (pe_and (pe_cmpR op_isTy (pe_typeOf (by rfl) T.n_type (pv 0)) (pe_bltn (v := .ty "tuple") (by rfl) T.n_tuple (by decide +kernel) rfl) (nomark _)) (pe_and (pe_call (ok_is_degree T) (hr.mono (by decide)) (by rfl) T.g_is_degree T.F_is_degree.kp T.b_is_degree .nil pass0 (pa_cons (pe_callB (lenS (K := K) rfl) (by rfl) T.n_len PySem.boot_len (pa_cons (pv 0) pa_nil)) pa_nil)) (pe_one (pe_call (ok_is_permutation T) hr (by rfl) T.g_is_permutation T.F_is_permutation.kp T.b_is_permutation .nil pass0 (pa_cons (pe_callB (lenS (K := K) rfl) (by rfl) T.n_len PySem.boot_len (pa_cons (pv 0) pa_nil)) (pa_cons (pv 0) pa_nil)))))))), ?_⟩
    walk_at "sx"
    simp only [hm, Option.some.injEq, exists_eq_left']
    cases ht : tupOf H v with
    | none =>
      rw [if_neg (by simpa using zty_not v H m hm ht)]
      have q := q H (Ex.refl H)
      simpa only [anyB, ht] using q
    | some xs =>
      obtain ⟨a, rfl, ha⟩ := tupOf_some ht
      have em : m = "tuple" := Option.some.inj (hm.symm.trans (zty_tup _ H xs ht))
      rw [if_pos (by simpa using em)]
      have e : anyB H (.ref a) = (btV 1 12 (.int xs.length) && permB H xs.length (.ref a)) := by unfold anyB; rw [ht]
      rw [e] at q
      have hs : SqL K H a xs ∨ SqT K H a xs := .inr (.inl (.inl ha))
      refine ⟨a, rfl, xs, hs, .int xs.length, rfl, ⟨_, rfl⟩, _, rfl, ?_⟩
      cases hb : btV 1 12 (.int xs.length) with
      | false =>
        rw [hb] at q
        exact iteF (q H (Ex.refl H))
      | true =>
        rw [hb, Bool.true_and] at q
        exact iteT ⟨a, rfl, xs, hs, .ref a, xs.length, rfl, g, hT, q⟩
theorem ok_check_any_permutation (T : TX K mg base) : FnOk P w K mg base CX0 7 (He.ga K "check_any_permutation") (fdK K "check_any_permutation") ["value"] (spCkAny K) := by
  refine T.F_check_any_permutation.ok sccheck_any_permutation (fun vs H Q E h => ?_) (fun cdv A outer s H vs Q E hr h => ?_)
  · obtain ⟨v, rfl, _⟩ := h
    rfl
  · obtain ⟨v, rfl, g, hT, hb, q⟩ := h
    refine ⟨_, (pss_one (ps_if (pt_not (pt_val (pe_call (ok_is_any_permutation T) hr (by rfl) T.g_is_any_permutation T.F_is_any_permutation.kp T.b_is_any_permutation .nil pass0 (pa_cons (pv 0) pa_nil)))) pss_never pss_nil)), ?_⟩
    walk_at "sx"
    refine ⟨v, rfl, g, hT, fun H' x => ⟨_, rfl, ?_⟩⟩
    rw [hb]
    exact iteF (q H' x)
theorem ok_full_cycles (T : TX K mg base) : FnOk P w K mg base CX0 1 (He.ga K "full_cycles") (fdK K "full_cycles") ["p"] spFullCycles := by
  refine T.F_full_cycles.ok scfull_cycles (fun vs H Q E h => ?_) (fun cdv A outer s H vs Q E hr h => ?_)
  · obtain ⟨a, n, p, rfl, _⟩ := h
    rfl
  · obtain ⟨a, n, p, rfl, hp, hn, z⟩ := h
    refine ⟨_, (pss_cons (ps_set (i := 1) scfull_cycles.nd rfl (.inl rfl) (pe_lst pa_nil))
      (pss_cons (ps_set (i := 2) scfull_cycles.nd rfl (.inl rfl) (pe_callTy0 cr_set0 (by rfl) T.n_set (by decide +kernel)))
      (pss_cons (ps_for PassesOwn.never rfl (pi_range1 (by rfl) T.n_range (pa_cons (pe_callB (lenS (K := K) rfl) (by rfl) T.n_len PySem.boot_len (pa_cons (pv 0) pa_nil)) pa_nil)) (pg_name (i := 3) scfull_cycles.nd rfl (.inl rfl)) (pss_one (ps_if (pt_cmpR or_snotin (pv 3) (pv 2) (by rfl)) (pss_cons (ps_set (i := 4) scfull_cycles.nd rfl (.inl rfl) (pe_lst pa_nil))
      (pss_cons (ps_set (i := 5) scfull_cycles.nd rfl (.inl rfl) (pv 3))
      (pss_cons (ps_while PassesOwn.never (pt_cmpR or_snotin (pv 5) (pv 2) (by rfl)) (pss_cons (ps_expr (pe_sadd (pv 2) (pa_cons (pv 5) pa_nil)))
      (pss_cons (ps_expr (pe_bm PySem.F.plainAttrs_list PySem.F.slot_list_append PySem.F.type_list_append mt_append (pv 4) (pa_cons (pv 5) pa_nil)))
      (pss_one (ps_set (i := 5) scfull_cycles.nd rfl (.inl rfl) (pe_ix (ixT (K := K) rfl) (pv 0) (pv 5) (fun _ _ => rfl)))))))
      (pss_one (ps_expr (pe_bm PySem.F.plainAttrs_list PySem.F.slot_list_append PySem.F.type_list_append mt_append (pv 1) (pa_cons (pe_tupK (K := K) rfl (by rfl) T.n_tuple (pv 4)) pa_nil))))))) pss_nil)))
      (pss_one (ps_ret (pv 1)))))), ?_⟩
    walk_at "sx"
    refine ⟨Nat.zero_le _, fun l nl => ⟨rfl, fun sA nS => ?_⟩⟩
    have xl : Ex H (upd H l (.lst [])) := Ex.new nl
    have nS0 := xl.no _ nS
    have xs : Ex H (upd (upd H l (.lst [])) sA (SetO w sA (fun _ => false) 0)) := xl.trans (Ex.new nS)
    have hlp : (p.map V.int).length = n := by rw [List.length_map, hp.is.len]
    have F0 : FC w H (upd (upd H l (.lst [])) sA (SetO w sA (fun _ => false) 0)) l sA n p [] [] [] := ⟨xs, by rw [upd_ne (fun z => by rw [z] at nS; rw [upd_same] at nS; cases nS)]; exact upd_same, .nil, upd_same, .nil, .nil, (fun _ h => by cases h), (fun _ h => by cases h), .nil⟩
    refine ⟨.ref a, rfl, a, rfl, p.map V.int, .inr (xs.t (.inl (.inl hp.at_))), (n : Int), by rw [hlp], by omega, by omega, for_it walk_range (fun i σ H1 => ∃ y3 y4 y5 R As, σ = [some (.ref a), some (.ref l), some (.ref sA), y3, y4, y5] ∧ FC w H H1 l sA n p As R R.flatten ∧ (∀ x : Int, 0 ≤ x → x < i → x ∈ R.flatten) ∧ ∀ r ∈ R, r.getD 0 0 < (i : Int))
      ⟨none, none, none, [], [], rfl, F0, (fun x _ _ => by omega), (fun _ h => by cases h)⟩ (fun _ _ _ _ _ => trivial) (fun i x σ H1 H2 hi ⟨y3, y4, y5, R, As, es, F, hA, hLo⟩ ⟨e, ex⟩ => ?_) (fun σ H1 ⟨y3, y4, y5, R, As, es, F, hA, hLo⟩ => ?_)⟩
    · subst es e ex
      rw [show ((n : Nat) : Int).toNat = n by omega] at hi
      walk_at "sx"
      obtain ⟨f, ef⟩ : ∃ f : Int, 0 + (i : Int) = f := ⟨_, rfl⟩
      rw [ef]
      refine ⟨f, sA, _, _, rfl, rfl, F.seen, ⟨_, rfl, ite2 (fun c => ?_) (fun c => ?_)⟩⟩
      · have hf : f ∉ R.flatten := fun z => by
          rw [decide_eq_true z] at c
          cases c
        refine ⟨Nat.zero_le _, fun rA nR => ?_⟩
        have rl : rA ≠ l := fun z => by rw [z, F.hl] at nR; cases nR
        have nR0 := F.ex.no _ nR
        refine ⟨fun m σ H3 => ∃ L pt, m = n - L.length ∧ σ = [some (.ref a), some (.ref l), some (.ref sA), some (.int f), some (.ref rA), some (.int pt)] ∧ FC w H H3 l sA n p As R (R.flatten ++ L) ∧ H3 rA = some (.lst (L.map V.int)) ∧ Chain p f L pt ∧ 0 ≤ pt ∧ pt < n,
          ⟨n, [], f, rfl, rfl, by rw [List.append_nil]; exact F.new nR, upd_same, .start, by omega, by omega⟩, fun m σ H3 ⟨L, pt, em, es, F3, hL, C, p0, pb⟩ => ?_⟩
        subst em es
        walk_at "sx"
        refine ⟨pt, sA, _, _, rfl, rfl, F3.seen, ⟨_, rfl, ite2 (fun c => ?_) (fun c => ?_)⟩⟩
        · have hpt : pt ∉ R.flatten ++ L := fun z => by
            rw [decide_eq_true z] at c
            cases c
          have nd4 := nd_more F3.nd hpt
          have bd4 := bd_more F3.bd p0 pb
          have lt4 := bd_len nd4 bd4
          rw [List.length_append, List.length_append] at lt4
          have lt4 : R.flatten.length + L.length + 1 ≤ n := lt4
          refine ⟨fun σ' H' => ∃ L' pt', L'.length = L.length + 1 ∧ σ' = [some (.ref a), some (.ref l), some (.ref sA), some (.int f), some (.ref rA), some (.int pt')] ∧ FC w H H' l sA n p As R (R.flatten ++ L') ∧ H' rA = some (.lst (L'.map V.int)) ∧ Chain p f L' pt' ∧ 0 ≤ pt' ∧ pt' < n, fun σ' H' ⟨L', pt', el, h⟩ => ⟨n - L'.length, by omega, L', rfl, pt', h⟩, ?_⟩
          simp only [tSAdd, tBM, rSAdd, rAppend]
          walk_at "sx"
          obtain ⟨nx, hnx, n0, nb⟩ := hp.is.get (i := pt.toNat) (by omega)
          refine ⟨⟨_, _, F3.seen⟩, _, _, F3.seen, by show (R.flatten ++ L).length + 1 < 4096; rw [List.length_append]; omega, ?_⟩
          rw [setO_more hpt]
          have hL4 : upd H3 sA (SetO w sA (fun j => decide (j ∈ R.flatten ++ L ++ [pt])) (R.flatten ++ L ++ [pt]).length) rA = some (.lst (L.map V.int)) := kp hL F3.seen (fun z => by cases z)
          have x5 := (F3.ex.own (o := SetO w sA (fun j => decide (j ∈ R.flatten ++ L ++ [pt])) (R.flatten ++ L ++ [pt]).length) nS0).own (o := .lst (L.map V.int ++ [V.int pt])) nR0
          refine ⟨.inl ⟨rfl, _, sl_at hL4⟩, _, hL4, by rw [List.length_map]; exact small1000 (by omega), p.map V.int, x5.t (.inl (.inl hp.at_)), .int nx, at_int p0 hnx, L ++ [pt], List.length_append, nx, rfl, ⟨x5, ?_, ?_, ?_, F3.cyc, ?_, ?_, F3.mn, F3.so⟩, ?_, C.step hnx, n0, nb⟩
          · rw [upd_ne (Ne.symm rl)]
            exact kp F3.hl F3.seen (fun z => by cases z)
          · exact (F3.rows.upd F3.seen (fun _ z => by cases z)).upd hL4 (fun _ z => by cases z)
          · rw [← List.append_assoc]
            exact kp upd_same hL4 (fun z => by cases z)
          · rw [← List.append_assoc]; exact nd4
          · rw [← List.append_assoc]; exact bd4
          · rw [upd_same, List.map_append]
            rfl
        · simp only [tSAdd, tBM, rSAdd, rAppend]
          walk_at "sx"
          have hm : pt ∈ R.flatten ++ L := by
            apply Classical.byContradiction
            intro z
            exact c (by rw [decide_eq_false z]; rfl)
          have tn := C.close hp.is F3.cyc F3.nd (fun x hx => F3.bd x (List.mem_append_right _ hx)) hf hm
          refine ⟨.inl ⟨rfl, _, sl_at F3.hl⟩, .inl ⟨L.map V.int, sl_at hL, fun q nq => ?_⟩⟩
          have hl4 : upd H3 q (.tup (L.map V.int)) l = some (.lst (As.map V.ref)) := by rw [upd_ne (ne_of_none F3.hl nq)]; exact F3.hl
          have F4 := F3.new (o := .tup (L.map V.int)) nq
          have ef2 : (R ++ [L]).flatten = R.flatten ++ L := by rw [List.flatten_append, List.flatten_cons, List.flatten_nil, List.append_nil]
          have x5 : Ex H (upd (upd H3 q (.tup (L.map V.int))) l (.lst (As.map V.ref ++ [V.ref q]))) := F4.ex.own nl
          have lq : l ≠ q := ne_of_none F3.hl nq
          have ln := bd_len F3.nd F3.bd
          rw [List.length_append] at ln
          have R5 : RowsAt (upd (upd H3 q (.tup (L.map V.int))) l (.lst (As.map V.ref ++ [V.ref q]))) (As ++ [q]) (R ++ [L]) := (F4.rows.upd hl4 (fun _ z => by cases z)).more (by rw [upd_ne (Ne.symm lq)]; exact upd_same)
          have C5 := F3.cyc.more tn F3.nd (fun x hx => F3.bd x (List.mem_append_right _ hx))
          have lenR : As.length ≤ n := by
            have := rows_le F3.cyc.tn
            rw [F3.rows.len]
            omega
          have hd0 : L.getD 0 0 = f := by
            have hd := C.hd
            rw [List.getElem?_append_left tn.ne] at hd
            exact getD_of hd
          have mnL : ∀ x ∈ L, L.getD 0 0 ≤ x := fun x hx => by
            rw [hd0]
            apply Classical.byContradiction
            intro g
            have hb := F3.bd x (List.mem_append_right _ hx)
            exact absurd rfl ((List.nodup_append.mp F3.nd).2.2 x (hA x hb.1 (by omega)) x hx)
          refine ⟨_, hl4, by rw [List.length_map]; exact small1000 (by omega), _, _, _, ⟨rfl, rfl, rfl⟩, R ++ [L], As ++ [q], ⟨x5, ?_, R5, ?_, C5, ?_, ?_, ?_, ?_⟩, fun x x0 xi => ?_, fun r hr => ?_⟩
          · rw [upd_same, List.map_append]
            rfl
          · rw [ef2]
            exact kp F4.seen hl4 (fun z => by cases z)
          · rw [ef2]; exact F3.nd
          · rw [ef2]; exact F3.bd
          · intro r hr
            rcases List.mem_append.mp hr with z | z
            · exact F3.mn r z
            · rw [List.mem_singleton.mp z]; exact mnL
          · rw [List.map_append, List.pairwise_append]
            refine ⟨F3.so, List.pairwise_singleton .., fun x hx y hy => ?_⟩
            obtain ⟨r, hr, rfl⟩ := List.mem_map.mp hx
            rw [List.map_cons, List.map_nil, List.mem_singleton] at hy
            rw [hy, hd0]
            have := hLo r hr
            omega
          · rw [ef2]
            by_cases hx : x < i
            · exact List.mem_append_left _ (hA x x0 hx)
            · have e : x = f := by omega
              rw [e]
              have hd := C.hd
              rw [List.getElem?_append_left tn.ne] at hd
              exact List.mem_append_right _ (List.mem_of_getElem? hd)
          · rcases List.mem_append.mp hr with z | z
            · have := hLo r z
              omega
            · rw [List.mem_singleton.mp z, hd0]
              omega
      · refine ⟨_, _, _, ⟨rfl, rfl, rfl⟩, R, As, F, fun x x0 xi => ?_, fun r hr => by have := hLo r hr; omega⟩
        by_cases hx : x < i
        · exact hA x x0 hx
        · have e : x = f := by omega
          rw [e]
          apply Classical.byContradiction
          intro hn
          exact c (by rw [decide_eq_false hn]; rfl)
    · subst es
      walk_at "sx"
      exact z l As R H1 F.ex F.hl F.rows ⟨F.cyc, fun x x0 xn => hA x x0 (by omega), F.mn, F.so⟩
theorem ok_from_cycles (T : TX K mg base) : FnOk P w K mg base CX0 1 (He.ga K "from_cycles") (fdK K "from_cycles") ["degree", "rows"] spFromCyclesT := by
  refine T.F_from_cycles.ok scfrom_cycles (fun vs H Q E h => ?_) (fun cdv A outer s H vs Q E hr h => ?_)
  · obtain ⟨a, n, p, As, Rs, rfl, _⟩ := h
    rfl
  · obtain ⟨a, n, p, As, Rs, rfl, hA, hR, F, n12, l1000, z⟩ := h
    refine ⟨_, (pss_cons (ps_set (i := 2) scfrom_cycles.nd rfl (.inl rfl) (pe_listRg rfl (by rfl) T.n_list (prg_1 (by rfl) T.n_range (pv 0))))
      (pss_cons (ps_for PassesOwn.never rfl (piL (K := K) rfl (pv 1)) (pg_name (i := 3) scfrom_cycles.nd rfl (.inl rfl)) (pss_one (ps_for PassesOwn.never rfl (pi_enumT (by rfl) T.n_enumerate (pa_cons (pv 3) pa_nil)) (pg_tup rfl (pgs_cons (pg_name (i := 4) scfrom_cycles.nd rfl (.inl rfl)) (pgs_cons (pg_name (i := 5) scfrom_cycles.nd rfl (.inl rfl)) pgs_nil))) (pss_one (ps_asg (pe_ix (ixT (K := K) rfl) (pv 3) (pe_op op_mod (pe_op op_add (pv 4) pe_int) (pe_callB (lenS (K := K) rfl) (by rfl) T.n_len PySem.boot_len (pa_cons (pv 3) pa_nil))) (fun _ _ => rfl)) (pg_sub (pv 2) (pv 5) set_list (by intro _; rfl)))))))
      (pss_one (ps_ret (pe_tupK (K := K) rfl (by rfl) T.n_tuple (pv 2)))))), ?_⟩
    walk_at "sx"
    refine ⟨.of_le (by omega) (by omega) (by omega) (by omega), fun l nl => ?_⟩
    rw [rg_ints]
    have xl : Ex H (upd H l (.lst ((unitL n).map V.int))) := Ex.new nl
    have hl : upd H l (.lst ((unitL n).map V.int)) l = some (.lst ((unitL n).map V.int)) := upd_same
    have e0 : (List.range n).map Int.ofNat = unitL n := rfl
    rw [e0]
    generalize upd H l (.lst ((unitL n).map V.int)) = H1 at xl hl ⊢
    have hAl : (As.map V.ref).length = Rs.length := by rw [List.length_map, hR.len]
    refine ⟨.ref a, rfl, a, rfl, ⟨_, sl_at (xl.st _ _ hA refs_norow)⟩, for_it (walk_list (xs := As.map V.ref)) (fun i σ H2 => ∃ y3 y4 y5 L, σ = [some (.int n), some (.ref a), some (.ref l), y3, y4, y5] ∧ Ex H H2 ∧ H2 l = some (.lst (L.map V.int)) ∧ Turned n p (Rs.take i).flatten L)
      ⟨none, none, none, unitL n, rfl, xl, hl, .start⟩ (fun i σ H2 _ ⟨_, _, _, _, _, x2, _⟩ => sl_at (x2.st _ _ hA refs_norow)) (fun i x σ H2 H3 hi ⟨y3, y4, y5, L, es, x2, hL, tu⟩ ⟨e, hx⟩ => ?_) (fun σ H2 ⟨y3, y4, y5, L, es, x2, hL, tu⟩ => ?_)⟩
    · subst es e
      rw [hAl] at hi
      have hr : Rs[i]? = some Rs[i] := List.getElem?_eq_getElem hi
      obtain ⟨b, hb, hb0⟩ := hR.at_ i _ hr
      generalize hri : Rs[i] = r at hr hb0
      have eb : x = .ref b := by
        rw [List.getElem?_map, hb] at hx
        exact (Option.some.inj hx).symm
      subst eb
      have et : Rs.take (i + 1) = Rs.take i ++ [r] := by rw [List.take_add_one, hr]; rfl
      have hbt := x2.st _ _ hb0 trivial
      have rT := F.tn r (List.mem_of_getElem? hr)
      have rb : ∀ y ∈ r, 0 ≤ y ∧ y < (n : Int) := fun y hy => F.bd y (List.mem_flatten.mpr ⟨r, List.mem_of_getElem? hr, hy⟩)
      refine ⟨.ref b, rfl, b, _, rfl, .inl (.inl hbt), for_it (walk_enumT (xs := r.map V.int)) (fun j σ H4 => ∃ y4 y5 L, σ = [some (.int n), some (.ref a), some (.ref l), some (.ref b), y4, y5] ∧ Ex H H4 ∧ H4 l = some (.lst (L.map V.int)) ∧ Turned n p ((Rs.take i).flatten ++ r.take j) L)
        ⟨y4, y5, L, rfl, x2, hL, by rw [List.take_zero, List.append_nil]; exact tu⟩ (fun j σ H4 _ ⟨_, _, _, _, x4, _⟩ => .inl (.inl (x4.st _ _ hb0 trivial))) (fun j x σ H4 H5 hj ⟨y4, y5, L, es, x4, hL, tu⟩ ⟨tp, u, v, ex, ntp, e10, hu, hv⟩ => ?_) (fun σ H4 ⟨y4, y5, L, es, x4, hL, tu⟩ => ?_)⟩
      · subst es ex e10
        rw [List.length_map] at hj
        have hv : (r.map V.int)[j]? = some v := hv
        have hu : some (V.int (j : Nat)) = some u := hu
        obtain ⟨X, hX, eX⟩ : ∃ X : Int, r[j]? = some X ∧ v = .int X := by
          rw [List.getElem?_map] at hv
          obtain ⟨X, hX, e⟩ := Option.map_eq_some_iff.mp hv
          exact ⟨X, hX, e.symm⟩
        cases hu
        subst eX
        have tr : Turn p r := rT.resolve_left (fun h => by rw [h] at hX; cases hX)
        have st := tr.st j X hX
        have hj2 : (j + 1) % r.length < r.length := Nat.mod_lt _ tr.ne
        rw [List.getElem?_eq_getElem hj2] at st
        have bx := rb X (List.mem_of_getElem? hX)
        have xt := Ex.new (o := .tup [.int (j : Nat), .int X]) ntp
        have hL5 : upd H4 tp (.tup [.int (j : Nat), .int X]) l = some (.lst (L.map V.int)) := by rw [upd_ne (ne_of_none hL ntp)]; exact hL
        have hb5 := (x4.trans xt).st _ _ hb0 trivial
        have et2 : r.take (j + 1) = r.take j ++ [X] := by rw [List.take_add_one, hX]; rfl
        have em : ((j : Nat) : Int) + 1 = ((j + 1 : Nat) : Int) := by omega
        have eM : (((j : Nat) : Int) + 1) % (((r.map V.int).length : Nat) : Int) = (((j + 1) % r.length : Nat) : Int) := by rw [List.length_map, em, Int.natCast_emod]
        have a1 : (r.map V.int)[(j + 1) % r.length]? = some (V.int (r[(j + 1) % r.length])) := by rw [List.getElem?_map, List.getElem?_eq_getElem hj2]; rfl
        have gt : atI (r.map V.int) ((((j : Nat) : Int) + 1) % (((r.map V.int).length : Nat) : Int)) = some (V.int (r[(j + 1) % r.length])) := by
          rw [eM]
          exact atI_nat a1
        walk_at "sx"
        refine ⟨[.int (j : Nat), .int X], sq_new, rfl, _, _, rfl, _, _, rfl, rfl, j, rfl, r.map V.int, .inr (.inl (.inl hb5)), by rw [List.length_map]; exact Int.ofNat_lt.mpr tr.ne, r.map V.int, .inl (.inl hb5), _, gt, _, X, rfl, hL5, X.toNat, ixN_of bx.1 (by rw [List.length_map, tu.len]; exact bx.2), _, _, ⟨rfl, rfl⟩, (x4.trans xt).own nl, _, by rw [upd_same, set_map], ?_⟩
        rw [et2, ← List.append_assoc]
        exact tu.step bx.1 bx.2 st
      · subst es
        rw [List.length_map, List.take_length] at tu
        refine ⟨_, _, _, L, rfl, x4, hL, ?_⟩
        rw [et, List.flatten_append, List.flatten_cons, List.flatten_nil, List.append_nil]
        exact tu
    · subst es
      rw [hAl, List.take_length] at tu
      exact ⟨.ref l, rfl, .inl ⟨l, _, rfl, sl_at hL, fun c nc => z c _ (x2.trans (Ex.new nc)) ⟨by rw [upd_same, tu.done F], F.pm⟩⟩⟩
theorem ok__by_length (T : TX K mg base) : FnOk P w K mg base CX0 2 (He.ga K "_by_length") (fdK K "_by_length") ["p"] spByLengthR := by
  refine T.F__by_length.ok sc_by_length (fun vs H Q E h => ?_) (fun cdv A outer s H vs Q E hr h => ?_)
  · obtain ⟨a, n, p, rfl, _⟩ := h
    rfl
  · obtain ⟨a, n, p, rfl, hp, hn, z⟩ := h
    refine ⟨_, (pss_cons (ps_set (i := 1) sc_by_length.nd rfl (.inr rfl) (pe_call (ok_full_cycles T) hr (by rfl) T.g_full_cycles T.F_full_cycles.kp T.b_full_cycles .nil pass0 (pa_cons (pv 0) pa_nil)))
      (pss_cons (ps_set (i := 2) sc_by_length.nd rfl (.inl rfl) (pe_callB (cr_sortedSet rfl) (by rfl) T.n_sorted (by decide +kernel) (pa_cons (pe_callTy (cr_setL (K := K) rfl) (by rfl) T.n_set (by decide +kernel) (pa_cons (pe_lc (own := [("row", 4)]) (g := gName 4) (tt := tYes) rfl sc_by_length.nd (piL (K := K) rfl (pv 1)) (blkOk_by (N := ["p", "rows", "lengths", "length", "row"]) (sc := defScope s_by_length) (by decide +kernel)) (fun _ _ _ _ _ => (pg_name (i := 4) sc_by_length.nd rfl (.inl rfl))) (fun _ _ _ _ _ => pts_nil) (fun _ _ _ _ _ => (pe_callB (lenS (K := K) rfl) (by rfl) T.n_len PySem.boot_len (pa_cons (pv 4) pa_nil)))) pa_nil)) pa_nil)))
      (pss_one (ps_ret (pe_lc (own := [("length", 3)]) (g := gName 3) (tt := tYes) rfl sc_by_length.nd (piL (K := K) rfl (pv 2)) (blkOk_by (N := ["p", "rows", "lengths", "length", "row"]) (sc := defScope s_by_length) (by decide +kernel)) (fun _ _ _ _ _ => (pg_name (i := 3) sc_by_length.nd rfl (.inr rfl))) (fun _ _ _ _ _ => pts_nil) (fun _ _ _ _ _ => (pe_tup (pa_cons (pv 3) (pa_cons (pe_lc (own := [("row", 4)]) (g := gName 4)  rfl sc_by_length.nd (piL (K := K) rfl (pv 1)) (blkOk_f (N := ["p", "rows", "lengths", "length", "row"]) ["length"] (by decide +kernel) (List.forall_mem_cons.mpr ⟨by first | exact .inl rfl | exact .inr rfl, (fun _ h => by cases h)⟩)) (fun _ _ _ _ _ => (pg_name (i := 4) sc_by_length.nd rfl (.inl rfl))) (fun _ _ _ _ _ => (pts_one (pt_cmpR op_eq (pe_callB (lenS (K := K) rfl) (by rfl) T.n_len PySem.boot_len (pa_cons (pv 4) pa_nil)) (pv 3) (nomark _)))) (fun _ _ _ _ _ => (pv 4))) pa_nil))))))))), ?_⟩
    walk_at "sx"
    refine ⟨a, n, p, rfl, hp, hn, fun c As R H1 x1 hc hRA hF => ?_⟩
    have lR : R.length ≤ n := Nat.le_trans (rows_le hF.cyc.tn) (bd_len hF.cyc.nd hF.cyc.bd)
    have hAl : (As.map V.ref).length = R.length := by rw [List.length_map, hRA.len]
    refine ⟨.ref c, rfl, c, rfl, ⟨_, sl_at hc⟩, fun D nD => ?_⟩
    refine lc_it (walk_list (xs := As.map V.ref)) (fun i H2 => Ex H1 H2 ∧ H2 D = some (.lst ((lensL (R.take i)).map V.int))) ⟨Ex.new nD, upd_same⟩ (fun i H2 _ ⟨x2, _⟩ => sl_at (x2.st _ _ hc refs_norow)) (fun i x H2 H3 hi ⟨x2, hD⟩ ⟨e, hx⟩ => ?_) (fun H2 ⟨x2, hD⟩ => ?_)
    · subst e
      rw [hAl] at hi
      have hr : R[i]? = some R[i] := List.getElem?_eq_getElem hi
      obtain ⟨b, hb, hbt⟩ := (hRA.ex x2).at_ i _ hr
      generalize hri : R[i] = r at hr hbt
      have eb : x = .ref b := by
        rw [List.getElem?_map, hb] at hx
        exact (Option.some.inj hx).symm
      subst eb
      refine ⟨rfl, ?_⟩
      have et : R.take (i + 1) = R.take i ++ [r] := by rw [List.take_add_one, hr]; rfl
      walk_at "sx"
      refine yesI ⟨r.map V.int, .inr (.inl (.inl hbt)), _, hD, ?_, x2.own nD, ?_⟩
      · rw [List.length_map]
        unfold lensL
        rw [List.length_map, List.length_take]
        exact small1000 (by omega)
      · rw [upd_same, et]
        unfold lensL
        rw [List.map_append, List.map_append, List.length_map]
        rfl
    · rw [hAl, List.take_length] at hD
      have lL : (lensL R).length = R.length := by unfold lensL; rw [List.length_map]
      refine ⟨D, lensL R, rfl, sl_at hD, by omega, fun sA k nS hk => ⟨sA, _, k, rfl, upd_same, by omega, fun ns q ho hm hlen nq => ?_⟩⟩
      have x12 := x1.trans x2
      have xS : Ex H2 (upd H2 sA (SetO w sA (fun j => decide (j ∈ lensL R)) k)) := Ex.new nS
      have pos : ∀ x ∈ ns, 0 ≤ x := fun x hx => by
        have z := of_decide_eq_true ((hm x).mp hx)
        obtain ⟨r, _, rfl⟩ := List.mem_map.mp z
        exact Int.natCast_nonneg _
      obtain ⟨ds, eds⟩ : ∃ ds, ns.map Int.toNat = ds := ⟨_, rfl⟩
      have ens := ints_nats pos
      rw [eds] at ens
      have dnd : ds.Nodup := by
        have z : ns.Nodup := ho.imp fun {a b} h e => by omega
        rw [ens, List.nodup_iff_pairwise_ne, List.pairwise_map] at z
        exact List.nodup_iff_pairwise_ne.mpr (z.imp fun h e => h (congrArg Int.ofNat e))
      have dso : ds.Pairwise (· < ·) := by
        have z := ho
        rw [ens, List.pairwise_map] at z
        exact z.imp fun {a b} h => Int.ofNat_lt.mp h
      have dall : ∀ d, d ∈ ds ↔ d ∈ lensN R := fun d => by
        have h1 : d ∈ ds ↔ (d : Int) ∈ ns := by
          rw [ens]
          exact ⟨fun h => List.mem_map.mpr ⟨d, h, rfl⟩, fun h => by
            obtain ⟨e, he, ee⟩ := List.mem_map.mp h
            rw [← Int.ofNat.inj ee]
            exact he⟩
        rw [h1, hm, decide_eq_true_iff, lensL_N]
        exact ⟨fun h => by
          obtain ⟨e, he, ee⟩ := List.mem_map.mp h
          rw [← Int.ofNat.inj ee]
          exact he, fun h => List.mem_map.mpr ⟨d, h, rfl⟩⟩
      have lds : ds.length ≤ n := by
        have z : ds.length = ns.length := by rw [← eds, List.length_map]
        omega
      rw [ens]
      obtain ⟨H3, e3⟩ : ∃ H3, upd (upd H2 sA (SetO w sA (fun j => decide (j ∈ lensL R)) k)) q (.lst ((ds.map Int.ofNat).map V.int)) = H3 := ⟨_, rfl⟩
      have x3 : Ex H1 H3 := by rw [← e3]; exact (x2.trans xS).trans (Ex.new nq)
      have hq3 : H3 q = some (.lst ((ds.map Int.ofNat).map V.int)) := by rw [← e3]; exact upd_same
      erw [e3]
      clear e3 nq hm hlen ho pos ens eds
      have hqL : ((ds.map Int.ofNat).map V.int).length = ds.length := by rw [List.length_map, List.length_map]
      refine ⟨.ref q, rfl, q, rfl, ⟨_, sl_at hq3⟩, fun D2 nD2 => ?_⟩
      refine lc_it (walk_list (xs := (ds.map Int.ofNat).map V.int)) (fun i H4 => ∃ Ts : List Addr, Ex H3 H4 ∧ H4 D2 = some (.lst (Ts.map V.ref)) ∧ ByR H4 Ts (ds.take i) R D2) ⟨[], Ex.new nD2, upd_same, .nil⟩ (fun i H4 _ ⟨_, x4, _⟩ => sl_at (x4.i hq3)) (fun i x H4 H5 hi ⟨Ts, x4, hD2, B⟩ ⟨e, hx⟩ => ?_) (fun H4 ⟨Ts, x4, hD2, B⟩ => ?_)
      · subst e
        rw [hqL] at hi
        obtain ⟨d, hd⟩ : ∃ d, ds[i]? = some d := ⟨_, List.getElem?_eq_getElem hi⟩
        have ex : x = .int (d : Int) := by
          rw [List.getElem?_map, nat_at hd] at hx
          exact (Option.some.inj hx).symm
        subst ex
        refine ⟨rfl, yesI ?_⟩
        have hc4 := (x3.trans x4).st _ _ hc refs_norow
        refine ⟨.int d, rfl, .ref c, rfl, c, rfl, ⟨_, sl_at hc4⟩, fun D3 nD3 => ?_⟩
        have D23 : D3 ≠ D2 := Ne.symm (ne_of_none hD2 nD3)
        refine lc_it (walk_list (xs := As.map V.ref)) (fun j H6 => ∃ Bs : List Addr, Ex H5 H6 ∧ H6 D3 = some (.lst (Bs.map V.ref)) ∧ RowsAt H6 Bs ((R.take j).filter fun r => decide (r.length = d))) ⟨[], Ex.new nD3, upd_same, by rw [List.take_zero]; exact .nil⟩ (fun j H6 _ ⟨_, x6, _⟩ => sl_at (x6.st _ _ hc4 refs_norow)) (fun j y H6 H7 hj ⟨Bs, x6, hD3, hB⟩ ⟨e, hy⟩ => ?_) (fun H6 ⟨Bs, x6, hD3, hB⟩ => ?_)
        · subst e
          rw [hAl] at hj
          have hr : R[j]? = some R[j] := List.getElem?_eq_getElem hj
          obtain ⟨b, hb, hbt⟩ := (hRA.ex ((x3.trans x4).trans x6)).at_ j _ hr
          generalize hri : R[j] = r at hr hbt
          have eb : y = .ref b := by
            rw [List.getElem?_map, hb] at hy
            exact (Option.some.inj hy).symm
          subst eb
          refine ⟨rfl, ?_⟩
          have et : R.take (j + 1) = R.take j ++ [r] := by rw [List.take_add_one, hr]; rfl
          have lB : Bs.length ≤ n := by
            rw [hB.len]
            have z := List.length_filter_le (fun r => decide (r.length = d)) (R.take j)
            rw [List.length_take] at z
            omega
          walk_at "sx"
          refine ⟨r.map V.int, .inr (.inl (.inl hbt)), ?_⟩
          rw [List.length_map, et]
          refine ⟨rfl, ite2 (fun g => ?_) (fun g => ?_)⟩
          · have g : r.length = d := by have := of_decide_eq_true g; omega
            refine ⟨_, hD3, by rw [List.length_map]; exact small1000 (by omega), x6.own nD3, Bs ++ [b], by rw [upd_same, List.map_append]; rfl, ?_⟩
            rw [List.filter_append, List.filter_cons_of_pos (by rw [decide_eq_true_iff]; exact g), List.filter_nil]
            refine (hB.upd hD3 (fun _ z => by cases z)).more ?_
            exact kp hbt hD3 (fun z => by cases z)
          · have g : r.length ≠ d := fun h => g (by rw [h]; exact decide_eq_true rfl)
            refine ⟨x6, Bs, hD3, ?_⟩
            rw [List.filter_append, List.filter_cons_of_neg (by rw [decide_eq_true_iff]; exact g), List.filter_nil, List.append_nil]
            exact hB
        · rw [hAl, List.take_length] at hB
          refine ⟨by show 2 ≤ sizeLine; decide, fun t nt => ?_⟩
          have x7 := x6.trans (Ex.new (o := .tup [.int d, .ref D3]) nt)
          have hD7 : upd H6 t (.tup [.int d, .ref D3]) D2 = some (.lst (Ts.map V.ref)) := x7.st _ _ hD2 refs_norow
          have lT : Ts.length ≤ n := by
            rw [B.len, List.length_take]
            omega
          have et : ds.take (i + 1) = ds.take i ++ [d] := by rw [List.take_add_one, hd]; rfl
          have x8 : Ex H3 (upd H6 t (.tup [.int d, .ref D3])) := x4.trans x7
          refine ⟨_, hD7, by rw [List.length_map]; exact small1000 (by omega), Ts ++ [t], x8.own nD2, by rw [upd_same, List.map_append]; rfl, ?_⟩
          rw [et]
          refine ((B.ex x7).upd hD7).more (kp upd_same hD7 (fun z => by cases z)) (b := D3) (Bs := Bs) ?_ D23 ((hB.ex (Ex.new nt)).upd hD7 (fun _ z => by cases z))
          rw [upd_ne D23, upd_ne (ne_of_none hD3 nt)]
          exact hD3
      · rw [hqL, List.take_length] at B
        exact z D2 H4 R Ts ds ((x1.trans x3).trans x4) hF hD2 dso dall B
theorem ok__merged_cycle (T : TX K mg base) : FnOk P w K mg base CX0 1 (He.ga K "_merged_cycle") (fdK K "_merged_cycle") ["rows", "exponent"] spMerged := by
  refine T.F__merged_cycle.ok sc_merged_cycle (fun vs H Q E h => ?_) (fun cdv A outer s H vs Q E hr h => ?_)
  · obtain ⟨a, As, C, l, e, x, rfl, _⟩ := h
    rfl
  · obtain ⟨a, As, C, l, e, x, rfl, ha, hR, he, hc, c1, l1, row, nd, s12, z⟩ := h
    refine ⟨_, (pss_cons (ps_set (i := 2) sc_merged_cycle.nd rfl (.inl rfl) (pe_op op_mul (pe_callB (lenS (K := K) rfl) (by rfl) T.n_len PySem.boot_len (pa_cons (pv 0) pa_nil)) (pe_callB (lenS (K := K) rfl) (by rfl) T.n_len PySem.boot_len (pa_cons (pe_ix (ixL (K := K) rfl) (pv 0) pe_int (fun _ _ => rfl)) pa_nil))))
      (pss_cons (ps_set (i := 3) sc_merged_cycle.nd rfl (.inl rfl) (pe_op op_rep (pe_lst (pa_cons pe_int pa_nil)) (pv 2)))
      (pss_cons (ps_for PassesOwn.never rfl (pi_enum (by rfl) T.n_enumerate (pa_cons (pv 0) pa_nil)) (pg_tup rfl (pgs_cons (pg_name (i := 4) sc_merged_cycle.nd rfl (.inl rfl)) (pgs_cons (pg_name (i := 5) sc_merged_cycle.nd rfl (.inl rfl)) pgs_nil))) (pss_one (ps_for PassesOwn.never rfl (pi_enumT (by rfl) T.n_enumerate (pa_cons (pv 5) pa_nil)) (pg_tup rfl (pgs_cons (pg_name (i := 6) sc_merged_cycle.nd rfl (.inl rfl)) (pgs_cons (pg_name (i := 7) sc_merged_cycle.nd rfl (.inl rfl)) pgs_nil))) (pss_one (ps_asg (pv 7) (pg_sub (pv 3) (pe_op op_mod (pe_op op_add (pv 4) (pe_op op_mul (pv 6) (pv 1))) (pv 2)) set_list (by intro _; rfl)))))))
      (pss_one (ps_ret (pe_tupK (K := K) rfl (by rfl) T.n_tuple (pv 3))))))), ?_⟩
    walk_at "sx"
    have hAl : (As.map V.ref).length = C.length := by rw [List.length_map, hR.len]
    have g0 : C[0]? = some (C[0]'c1) := List.getElem?_eq_getElem c1
    obtain ⟨b0, hb0, hbt0⟩ := hR.at_ 0 _ g0
    have r0l := row _ (List.getElem_mem c1)
    generalize C[0]'c1 = r0 at g0 hbt0 r0l
    have pp := plc_pm he hc c1 l1
    have hCl : 1 * C.length ≤ C.length * l := by rw [Nat.mul_comm]; exact Nat.mul_le_mul_left _ l1
    have hll : 1 * l ≤ C.length * l := Nat.mul_le_mul_right _ c1
    refine ⟨As.map V.ref, .inl (sl_at ha), As.map V.ref, sl_at ha, .ref b0, atI_nat (j := 0) (by rw [List.getElem?_map, hb0]; rfl), b0, rfl, r0.map V.int, .inr (.inl (.inl hbt0)), .inl ⟨by rw [hAl]; omega, by rw [hAl]; omega⟩, by show 1 ≤ sizeLine; decide, fun p0 np0 => ?_⟩
    rw [hAl, List.length_map, r0l, ← Int.natCast_mul]
    obtain ⟨S, eS⟩ : ∃ S, C.length * l = S := ⟨_, rfl⟩
    rw [eS] at s12 pp hCl hll ⊢
    refine ⟨[V.int 0], upd_same, by omega, by omega, by rw [Int.toNat_natCast]; exact Nat.le_of_lt (small1000 (by show 1 * S ≤ 1000; omega)), fun pl npl => ?_⟩
    rw [Int.toNat_natCast, rep_flat]
    have xp : Ex H (upd (upd H p0 (.lst [V.int 0])) pl (.lst ((List.replicate S (0 : Int)).map V.int))) := (Ex.new np0).trans (Ex.new npl)
    have npl0 := (Ex.new np0 (o := .lst [V.int 0])).no _ npl
    have hpl : upd (upd H p0 (.lst [V.int 0])) pl (.lst ((List.replicate S (0 : Int)).map V.int)) pl = some (.lst ((List.replicate S (0 : Int)).map V.int)) := upd_same
    generalize upd (upd H p0 (.lst [V.int 0])) pl (.lst ((List.replicate S (0 : Int)).map V.int)) = H1 at xp hpl ⊢
    refine ⟨.ref a, rfl, a, _, rfl, sl_at (xp.st _ _ ha refs_norow), for_it (walk_enum (xs := As.map V.ref)) (fun i σ H2 => ∃ y4 y5 y6 y7 L, σ = [some (.ref a), some (.int e), some (.int (S : Nat)), some (.ref pl), y4, y5, y6, y7] ∧ Ex H H2 ∧ H2 pl = some (.lst (L.map V.int)) ∧ Filled S (plc C.length l e) (fun t => C.flatten.getD t 0) (i * l) L)
      ⟨none, none, none, none, List.replicate S 0, rfl, xp, hpl, by rw [Nat.zero_mul]; exact .start⟩ (fun i σ H2 _ ⟨_, _, _, _, _, _, x2, _⟩ => sl_at (x2.st _ _ ha refs_norow)) (fun i y σ H2 H3 hi ⟨y4, y5, y6, y7, L, es, x2, hL, hF⟩ ⟨tp, u, v, ex, ntp, e10, hu, hv⟩ => ?_) (fun σ H2 ⟨y4, y5, y6, y7, L, es, x2, hL, hF⟩ => ?_)⟩
    · subst es ex e10
      rw [hAl] at hi
      have gr : C[i]? = some C[i] := List.getElem?_eq_getElem hi
      obtain ⟨b, hb, hbt⟩ := hR.at_ i _ gr
      have rl := row _ (List.getElem_mem hi)
      generalize C[i] = r at gr hbt rl
      have hu : some (V.int (i : Nat)) = some u := hu
      cases hu
      have hv : (As.map V.ref)[i]? = some v := hv
      have ev : v = .ref b := by
        rw [List.getElem?_map, hb] at hv
        exact (Option.some.inj hv).symm
      subst ev
      have xt := x2.trans (Ex.new (o := .tup [.int (i : Nat), .ref b]) ntp)
      have hLt : upd H2 tp (.tup [.int (i : Nat), .ref b]) pl = some (.lst (L.map V.int)) := by rw [upd_ne (ne_of_none hL ntp)]; exact hL
      walk_at "sx"
      refine ⟨[.int (i : Nat), .ref b], sq_new, rfl, _, _, rfl, _, _, rfl, rfl, .ref b, rfl, b, r.map V.int, rfl, .inl (.inl (xt.st _ _ hbt trivial)), for_it (walk_enumT (xs := r.map V.int)) (fun j σ H4 => ∃ y6 y7 L, σ = [some (.ref a), some (.int e), some (.int (S : Nat)), some (.ref pl), some (.int (i : Nat)), some (.ref b), y6, y7] ∧ Ex H H4 ∧ H4 pl = some (.lst (L.map V.int)) ∧ Filled S (plc C.length l e) (fun t => C.flatten.getD t 0) (i * l + j) L)
        ⟨y6, y7, L, rfl, xt, hLt, hF⟩ (fun j σ H4 _ ⟨_, _, _, _, x4, _⟩ => .inl (.inl (x4.st _ _ hbt trivial))) (fun j y σ H4 H5 hj ⟨y6, y7, L, es, x4, hL, hF⟩ ⟨tq, u, v, ex, ntq, e11, hu, hv⟩ => ?_) (fun σ H4 ⟨y6, y7, L, es, x4, hL, hF⟩ => ?_)⟩
      · subst es ex e11
        rw [List.length_map, rl] at hj
        have hu : some (V.int (j : Nat)) = some u := hu
        cases hu
        have gx : r[j]? = some (r[j]'(by omega)) := List.getElem?_eq_getElem (by omega)
        generalize r[j]'(by omega) = X at gx
        have hv : (r.map V.int)[j]? = some v := hv
        have ev : v = .int X := by
          rw [List.getElem?_map, gx] at hv
          exact (Option.some.inj hv).symm
        subst ev
        have xq := x4.trans (Ex.new (o := .tup [.int (j : Nat), .int X]) ntq)
        have hLq : upd H4 tq (.tup [.int (j : Nat), .int X]) pl = some (.lst (L.map V.int)) := by rw [upd_ne (ne_of_none hL ntq)]; exact hL
        have gp := plc_get (e := e) l1 hi hj
        rw [eS] at gp
        have st := hF.step pp gp
        have f := flat_ix row gr gx
        rw [getD_of f, Int.toNat_natCast] at st
        have S0 : 0 < S := by omega
        have lt := Nat.mod_lt (i + j * e) S0
        walk_at "sx"
        refine ⟨[.int (j : Nat), .int X], sq_new, rfl, _, _, rfl, _, _, rfl, rfl, j, rfl, .inl ⟨by omega, by omega⟩, by omega, ?_⟩
        rw [← Int.natCast_mul, ← Int.natCast_add, ← Int.natCast_emod]
        refine ⟨_, hLq, _, ixN_of (by omega) (by rw [List.length_map, hF.len]; omega), _, _, ⟨rfl, rfl⟩, xq.own npl0, _, by rw [upd_same, set_map], ?_⟩
        rw [Int.toNat_natCast]
        exact st
      · subst es
        rw [List.length_map, rl, ← Nat.succ_mul] at hF
        exact ⟨_, _, _, _, rfl, x4, L, hL, hF⟩
    · subst es
      rw [hAl, eS] at hF
      walk_at "sx"
      rw [← eS] at hF
      exact .inl ⟨_, sl_at hL, fun c nc => z c _ L (x2.trans (Ex.new nc)) upd_same (mg_of he hc c1 l1 row nd hF)⟩
theorem ok__divisor (T : TX K mg base) : FnOk P w K mg base CX0 2 (He.ga K "_divisor") (fdK K "_divisor") ["length", "exponent"] spDivisor := by
  refine T.F__divisor.ok sc_divisor (fun vs H Q E h => ?_) (fun cdv A outer s H vs Q E hr h => ?_)
  · obtain ⟨l, e, rfl, _⟩ := h
    rfl
  · obtain ⟨l, e, rfl, l1, l12, he, z⟩ := h
    refine ⟨_, (pss_cons (ps_set (i := 2) sc_divisor.nd rfl (.inl rfl) pe_int)
      (pss_cons (ps_for PassesOwn.never rfl (piT (K := K) rfl (C8.pe_gc rfl T.c_PRIMES.1)) (pg_name (i := 3) sc_divisor.nd rfl (.inl rfl)) (pss_one (ps_if (pt_cmpR op_eq (pe_op op_mod (pv 0) (pv 3)) pe_int (nomark _)) (pss_one (ps_set (i := 2) sc_divisor.nd rfl (.inl rfl) (pe_op op_mul (pv 2) (pe_call (ok_greatest_power T) hr (by rfl) T.g_greatest_power T.F_greatest_power.kp T.b_greatest_power .nil pass0 (pa_cons (pv 3) (pa_cons (pv 1) pa_nil)))))) pss_nil)))
      (pss_one (ps_ret (pv 2))))), ?_⟩
    walk_at "sx"
    refine ⟨He.ga K "PRIMES", rfl, ⟨_, T.c_PRIMES.2 _⟩, for_it (walk_tup (xs := ([2, 3, 5, 7, 11] : List Int).map V.int)) (fun i σ H1 => ∃ y3, σ = [some (.int l), some (.int e), some (.int ((dvP (prs.take i) l e : Nat) : Int)), y3] ∧ Ex H H1)
      ⟨none, rfl, .refl _⟩ (fun i σ H1 _ _ => T.c_PRIMES.2 _) (fun i x σ H1 H2 hi ⟨y3, es, x1⟩ ⟨e1, hx⟩ => ?_) (fun σ H1 ⟨y3, es, x1⟩ => ?_)⟩
    · subst es e1
      have hi : i < 5 := hi
      obtain ⟨q, hq, ex, q2, q11⟩ : ∃ q : Nat, prs[i]? = some q ∧ x = .int q ∧ 2 ≤ q ∧ q ≤ 11 := by
        obtain rfl | rfl | rfl | rfl | rfl : i = 0 ∨ i = 1 ∨ i = 2 ∨ i = 3 ∨ i = 4 := by omega
        all_goals exact ⟨_, rfl, (Option.some.inj hx).symm, by decide, by decide⟩
      subst ex
      have et : prs.take (i + 1) = prs.take i ++ [q] := by rw [List.take_add_one, hq]; rfl
      have es := dvP_snoc (prs.take i) q l e
      rw [← et] at es
      walk_at "sx"
      refine ⟨by omega, rfl, ?_⟩
      rw [mod_dvd]
      by_cases c : q ∣ l
      · rw [if_pos (Nat.mod_eq_zero_of_dvd c)] at es
        rw [decide_eq_true c]
        refine iteT ⟨q, e, rfl, q2, q11, he.pos, fun k hk => he.sm q q2 q11 k hk, fun k H3 x3 h1 h2 => ?_⟩
        have g := gpN_pow q2 12 e k h1 h2 (by have := he.k11 q2 q11 h1; omega)
        have hs := he.sm q q2 q11 k h1
        refine ⟨_, rfl, .inr ⟨by omega, by omega⟩, _, ⟨?_, rfl⟩, x1.trans x3⟩
        rw [es, g, Int.natCast_mul]
      · rw [if_neg (fun h => c (Nat.dvd_of_mod_eq_zero h))] at es
        rw [decide_eq_false c]
        refine iteF ⟨_, ⟨?_, rfl⟩, x1⟩
        rw [es]
    · subst es
      walk_at "sx"
      exact z H1 x1
theorem ok_root_obstacle (T : TX K mg base) : FnOk P w K mg base CX0 8 (He.ga K "root_obstacle") (fdK K "root_obstacle") ["p", "exponent"] (spObstacle K) := by
  refine T.F_root_obstacle.ok scroot_obstacle (fun vs H Q E h => ?_) (fun cdv A outer s H vs Q E hr h => ?_)
  · obtain ⟨a, n, e, p, rfl, _⟩ := h
    rfl
  · obtain ⟨a, n, e, p, rfl, hp, h1, h12, hT, he, z⟩ := h
    refine ⟨_, (pss_cons (ps_expr (pe_call (ok_check_any_permutation T) hr (by rfl) T.g_check_any_permutation T.F_check_any_permutation.kp T.b_check_any_permutation .nil pass0 (pa_cons (pv 0) pa_nil)))
      (pss_cons (ps_if (PW.pt (pw_or (pt_cmpR op_isNotTy (pe_typeOf (by rfl) T.n_type (pv 1)) (pe_bltn (v := .ty "int") (by rfl) T.n_int (by decide +kernel) rfl) (nomark _)) (pw_or1 (pt_cmpR op_lt (pv 1) pe_int (nomark _))))) pss_never pss_nil)
      (pss_cons (ps_for PassesOwn.never rfl (piL (K := K) rfl (pe_call (ok__by_length T) (hr.mono (by decide)) (by rfl) T.g__by_length T.F__by_length.kp T.b__by_length .nil pass0 (pa_cons (pv 0) pa_nil))) (pg_tup rfl (pgs_cons (pg_name (i := 2) scroot_obstacle.nd rfl (.inl rfl)) (pgs_cons (pg_name (i := 3) scroot_obstacle.nd rfl (.inl rfl)) pgs_nil))) (pss_cons (ps_set (i := 4) scroot_obstacle.nd rfl (.inl rfl) (pe_call (ok__divisor T) (hr.mono (by decide)) (by rfl) T.g__divisor T.F__divisor.kp T.b__divisor .nil pass0 (pa_cons (pv 2) (pa_cons (pv 1) pa_nil))))
      (pss_one (ps_if (pt_cmpR op_ne (pe_op op_mod (pe_callB (lenS (K := K) rfl) (by rfl) T.n_len PySem.boot_len (pa_cons (pv 3) pa_nil)) (pv 4)) pe_int (nomark _)) (pss_one (ps_ret (pe_tup (pa_cons (pv 2) (pa_cons (pe_callB (lenS (K := K) rfl) (by rfl) T.n_len PySem.boot_len (pa_cons (pv 3) pa_nil)) (pa_cons (pv 4) pa_nil)))))) pss_nil))))
      (pss_one (ps_ret pe_non))))), ?_⟩
    walk_at "sx"
    refine ⟨.ref a, rfl, hp.good h12, hT, hp.anyB h1 h12, fun H1 x1 => ?_⟩
    refine ⟨"int", rfl, ?_⟩
    rw [decide_eq_true rfl]
    refine iteF ?_
    rw [decide_eq_false (by have := he.pos; omega)]
    refine iteF ?_
    refine ⟨.ref a, rfl, a, n, p, rfl, hp.ex x1, h12, fun c H2 R Ts ds x2 hF hc dso dall B => ?_⟩
    have hTl : (Ts.map V.ref).length = ds.length := by rw [List.length_map, B.len]
    refine ⟨c, rfl, ⟨_, sl_at hc⟩, for_it (walk_list (xs := Ts.map V.ref)) (fun i σ H3 => ∃ y2 y3 y4, σ = [some (.ref a), some (.int e), y2, y3, y4] ∧ Ex H2 H3 ∧ ∀ k ∈ ds.take i, cnt R k % dvN k e = 0)
      ⟨none, none, none, rfl, .refl _, fun k hk => by rw [List.take_zero] at hk; cases hk⟩ (fun i σ H3 _ ⟨_, _, _, _, x3, _⟩ => sl_at (x3.st _ _ hc refs_norow)) (fun i x σ H3 H4 hi ⟨y2, y3, y4, es, x3, fr⟩ ⟨e1, hx⟩ => ?_) (fun σ H3 ⟨y2, y3, y4, es, x3, fr⟩ => ?_)⟩
    · subst es e1
      rw [hTl] at hi
      have hd : ds[i]? = some ds[i] := List.getElem?_eq_getElem hi
      obtain ⟨t, b, Bs, ht, htt, hb, _, hBs⟩ := (B.ex x3).at_ i _ hd
      have dm := (dall _).mp (List.getElem_mem hi)
      generalize ds[i] = d at hd htt hBs dm
      have ex : x = .ref t := by
        rw [List.getElem?_map, ht] at hx
        exact (Option.some.inj hx).symm
      subst ex
      have bd := lens_bd hF dm
      have lB : (Bs.map V.ref).length = cnt R d := by rw [List.length_map, hBs.len, filt_len]
      walk_at "sx"
      refine ⟨[.int d, .ref b], .inl (.inl htt), rfl, _, _, rfl, _, _, rfl, rfl, d, e, rfl, bd.1, by omega, he, fun H5 x5 => ?_⟩
      have hb5 := x5.st _ _ hb refs_norow
      have dp := dvN_pos he d
      refine ⟨b, rfl, Bs.map V.ref, .inl (sl_at hb5), _, rfl, Int.ofNat_lt.mpr dp, rfl, ?_⟩
      rw [lB, mod_dvd]
      have et : ds.take (i + 1) = ds.take i ++ [d] := by rw [List.take_add_one, hd]; rfl
      by_cases g : dvN d e ∣ cnt R d
      · rw [decide_eq_true g]
        refine iteF ⟨_, _, _, ⟨rfl, rfl, rfl⟩, x3.trans x5, fun k hk => ?_⟩
        rw [et] at hk
        rcases List.mem_append.mp hk with h | h
        · exact fr k h
        · rw [List.mem_singleton.mp h]
          exact Nat.mod_eq_zero_of_dvd g
      · rw [decide_eq_false g]
        refine iteT ⟨b, rfl, Bs.map V.ref, .inl (sl_at hb5), by show 3 ≤ sizeLine; decide, fun t' nt' => ?_⟩
        rw [lB]
        refine z _ _ R (((x1.trans x2).trans x3).trans (x5.trans (Ex.new nt'))) hF (.inr ⟨t', d, rfl, upd_same, dm, fun h => g (Nat.dvd_of_mod_eq_zero h), fun k hk hl => fr k ?_⟩)
        exact take_lt (lt := fun a b : Nat => a < b) (dso.imp fun h => by omega) (Nat.lt_irrefl _) hd ((dall k).mpr hk) hl
    · subst es
      rw [hTl, List.take_length] at fr
      exact z .non H3 R ((x1.trans x2).trans x3) hF (.inl ⟨rfl, fun l hl => fr l ((dall l).mpr hl)⟩)
theorem ok_root (T : TX K mg base) : FnOk P w K mg base CX0 9 (He.ga K "root") (fdK K "root") ["p", "exponent"] (spRoot K) := by
  refine T.F_root.ok scroot (fun vs H Q E h => ?_) (fun cdv A outer s H vs Q E hr h => ?_)
  · obtain ⟨a, n, e, p, rfl, _⟩ := h
    rfl
  · obtain ⟨a, n, e, p, rfl, hp, h1, h12, hT, he, z⟩ := h
    refine ⟨_, (pss_cons (ps_if (pt_cmpR op_notN (pe_call (ok_root_obstacle T) hr (by rfl) T.g_root_obstacle T.F_root_obstacle.kp T.b_root_obstacle .nil pass0 (pa_cons (pv 0) (pa_cons (pv 1) pa_nil))) pe_non (nomark _)) (pss_one (ps_ret pe_non)) pss_nil)
      (pss_cons (ps_set (i := 2) scroot.nd rfl (.inl rfl) (pe_lst pa_nil))
      (pss_cons (ps_for PassesOwn.never rfl (piL (K := K) rfl (pe_call (ok__by_length T) (hr.mono (by decide)) (by rfl) T.g__by_length T.F__by_length.kp T.b__by_length .nil pass0 (pa_cons (pv 0) pa_nil))) (pg_tup rfl (pgs_cons (pg_name (i := 3) scroot.nd rfl (.inl rfl)) (pgs_cons (pg_name (i := 4) scroot.nd rfl (.inl rfl)) pgs_nil))) (pss_cons (ps_set (i := 5) scroot.nd rfl (.inl rfl) (pe_call (ok__divisor T) (hr.mono (by decide)) (by rfl) T.g__divisor T.F__divisor.kp T.b__divisor .nil pass0 (pa_cons (pv 3) (pa_cons (pv 1) pa_nil))))
      (pss_one (ps_for PassesOwn.never rfl (pi_range3 (by rfl) T.n_range (pa_cons pe_int (pa_cons (pe_callB (lenS (K := K) rfl) (by rfl) T.n_len PySem.boot_len (pa_cons (pv 4) pa_nil)) (pa_cons (pv 5) pa_nil)))) (pg_name (i := 6) scroot.nd rfl (.inl rfl)) (pss_one (ps_expr (pe_bm PySem.F.plainAttrs_list PySem.F.slot_list_append PySem.F.type_list_append mt_append (pv 2) (pa_cons (pe_call (ok__merged_cycle T) (hr.mono (by decide)) (by rfl) T.g__merged_cycle T.F__merged_cycle.kp T.b__merged_cycle .nil pass0 (pa_cons (pe_slice (slL (K := K) rfl) (pv 4) (po_some (pv 6)) (po_some (pe_op op_add (pv 6) (pv 5)))) (pa_cons (pv 1) pa_nil))) pa_nil))))))))
      (pss_one (ps_ret (pe_call (ok_from_cycles T) (hr.mono (by decide)) (by rfl) T.g_from_cycles T.F_from_cycles.kp T.b_from_cycles .nil pass0 (pa_cons (pe_callB (lenS (K := K) rfl) (by rfl) T.n_len PySem.boot_len (pa_cons (pv 0) pa_nil)) (pa_cons (pv 2) pa_nil)))))))), ?_⟩
    walk_at "sx"
    refine ⟨a, n, e, p, rfl, hp, h1, h12, hT, he, fun v H1 R x1 hF told => ?_⟩
    rcases told with ⟨ev, free⟩ | ⟨t, d, ev, _, dm, bad, _⟩
    case inr =>
      subst ev
      exact z .non H1 R x1 hF (.inl ⟨rfl, fun f => bad (f d dm)⟩)
    subst ev
    show _
    refine ⟨Nat.zero_le _, fun l nl => ?_⟩
    have xl : Ex H1 (upd H1 l (.lst [])) := Ex.new nl
    refine ⟨.ref a, rfl, a, n, p, rfl, (hp.ex x1).ex xl, h12, fun c H2 R2 Ts ds x2 hF2 hc dso dall B => ?_⟩
    have eR : R2 = R := hF2.uniq hp.is hF
    subst eR
    have hl2 := x2.st _ _ (show upd H1 l (.lst []) l = some (.lst []) from upd_same) nil_norow
    have hTl : (Ts.map V.ref).length = ds.length := by rw [List.length_map, B.len]
    have dnd : ds.Nodup := dso.imp fun h => by omega
    have gp := grps_perm (R := R2) dnd fun r hr => (dall _).mpr (List.mem_map_of_mem hr)
    have lR : R2.length ≤ n := Nat.le_trans (rows_le hF2.cyc.tn) (bd_len hF2.cyc.nd hF2.cyc.bd)
    have ds0 : ds ≠ [] := fun h => by
      have m := hF2.all 0 (by omega) (by omega)
      obtain ⟨r, hr, _⟩ := List.mem_flatten.mp m
      have q := (dall _).mpr (List.mem_map_of_mem (f := List.length) hr)
      rw [h] at q
      cases q
    have hcD : hide H2 l c = some (.lst (Ts.map V.ref)) := hide_at hc hl2 fun h => by
      have h := HO.lst.inj h
      have q := B.len
      rw [List.map_eq_nil_iff.mp h] at q
      exact ds0 (List.eq_nil_of_length_eq_zero q.symm)
    have BD := B.hide hl2 fun d hd => (lens_bd hF2 ((dall d).mp hd)).2.2.1
    have xD : Ex H1 (hide H2 l) := KL.Ex.hide (xl.trans x2) nl
    have xD2 : Ex (hide H2 l) H2 := KL.Ex.shown
    have nD : hide H2 l l = none := hide_same
    generalize hide H2 l = D at hcD BD xD xD2 nD
    have hpD := (hp.ex x1).ex xD
    have lG : ∀ i, ((ds.take i).flatMap (grp R2)).length ≤ n := fun i => by
      have q := gp.length_eq
      have e := List.take_append_drop i ds
      rw [← e, List.flatMap_append, List.length_append] at q
      omega
    have lB : ∀ d, ((grp R2 d)).length = cnt R2 d := fun d => filt_len R2 d
    refine ⟨c, rfl, ⟨_, sl_at hc⟩, for_it (walk_list (xs := Ts.map V.ref)) (fun i σ H4 => ∃ y3 y4 y5 y6 Cs M As, σ = [some (.ref a), some (.int e), some (.ref l), y3, y4, y5, y6] ∧ Ex D H4 ∧ H4 l = some (.lst (As.map V.ref)) ∧ RowsAt H4 As M ∧ Mgs e Cs M ∧ Cs.flatten = (ds.take i).flatMap (grp R2))
      ⟨none, none, none, none, [], [], [], rfl, xD2, hl2, .nil, .nil, rfl⟩ (fun i σ H4 _ ⟨_, _, _, _, _, _, _, _, x4, _⟩ => sl_at (x4.st _ _ hcD refs_norow)) (fun i x σ H4 H5 hi ⟨y3, y4, y5, y6, Cs, M, As, es, x4, hl4, hR4, hM, hG⟩ ⟨e1, hx⟩ => ?_) (fun σ H4 ⟨y3, y4, y5, y6, Cs, M, As, es, x4, hl4, hR4, hM, hG⟩ => ?_)⟩
    · subst es e1
      rw [hTl] at hi
      have hd : ds[i]? = some ds[i] := List.getElem?_eq_getElem hi
      obtain ⟨t, b, Bs, ht, htt, hb, _, hBs⟩ := BD.at_ i _ hd
      have dm := (dall _).mp (List.getElem_mem hi)
      generalize ds[i] = d at hd htt hBs dm
      have ex : x = .ref t := by
        rw [List.getElem?_map, ht] at hx
        exact (Option.some.inj hx).symm
      subst ex
      have bd := lens_bd hF2 dm
      have lBs : (Bs.map V.ref).length = cnt R2 d := by rw [List.length_map, hBs.len, filt_len]
      have et : ds.take (i + 1) = ds.take i ++ [d] := by rw [List.take_add_one, hd]; rfl
      walk_at "sx"
      refine ⟨[.int d, .ref b], .inl (.inl (x4.st _ _ htt trivial)), rfl, _, _, rfl, _, _, rfl, rfl, d, e, rfl, bd.1, by omega, he, fun H5 x5 => ?_⟩
      obtain ⟨dv, edv⟩ : ∃ dv, dvN d e = dv := ⟨_, rfl⟩
      have dp := dvN_pos he d
      have fr := free d dm
      obtain ⟨q, eq⟩ := dvN_dvd he d
      have hcop := dvN_cop he bd.1 (by omega) eq
      rw [edv] at dp fr eq ⊢
      have dle : dv ≤ cnt R2 d := Nat.le_of_dvd bd.2.2.1 (Nat.dvd_of_mod_eq_zero fr)
      have cle : 1 * cnt R2 d ≤ d * cnt R2 d := Nat.mul_le_mul_right _ bd.1
      have x45 := x4.trans x5
      refine ⟨.ref b, rfl, b, rfl, Bs.map V.ref, .inl (sl_at (x45.st _ _ hb refs_norow)), .int (dv : Nat), rfl, 0, (cnt R2 d : Nat), (dv : Nat), cnt R2 d / dv, by rw [lBs], rgC_of (by omega) dp (by omega) fr,
        for_it walk_rangeC (fun (j : Nat) (σ : L2.St) (H6 : Hp) => ∃ y6 Cs M As, σ = [some (.ref a), some (.int e), some (.ref l), some (.int d), some (.ref b), some (.int (dv : Nat)), y6] ∧ Ex D H6 ∧ H6 l = some (.lst (As.map V.ref)) ∧ RowsAt H6 As M ∧ Mgs e Cs M ∧ Cs.flatten = (ds.take i).flatMap (grp R2) ++ (grp R2 d).take (dv * j))
        ⟨y6, Cs, M, As, rfl, x45, x5.st _ (.lst (As.map V.ref)) hl4 refs_norow, hR4.ex x5, hM, by rw [hG]; show _ = _ ++ List.take (dv * 0) _; rw [Nat.mul_zero, List.take_zero, List.append_nil]⟩ (fun _ _ _ _ _ => trivial) (fun j u σ H6 H7 hj ⟨y6, Cs, M, As, es, x6, hl6, hR6, hM6, hG6⟩ ⟨e2, ex⟩ => ?_) (fun σ H6 ⟨y6, Cs, M, As, es, x6, hl6, hR6, hM6, hG6⟩ => ?_)⟩
      · subst es e2 ex
        walk_at "sx"
        simp only [tBM, rAppend]
        walk_at "sx"
        have ea : (0 + ((j : Nat) : Int) * ((dv : Nat) : Int)) = ((dv * j : Nat) : Int) := by rw [Int.zero_add, Int.mul_comm, Int.natCast_mul]
        have jlt : dv * (j + 1) ≤ cnt R2 d := Nat.le_trans (Nat.mul_le_mul_left _ hj) (Nat.mul_div_le _ _)
        have jlt2 : dv * j + dv ≤ cnt R2 d := by rw [← Nat.mul_succ]; exact jlt
        refine ⟨.inl ⟨rfl, _, sl_at hl6⟩, .ref b, rfl, .int _, rfl, _, rfl, .int _, rfl, .int _, rfl, _, _, rfl, rfl, _, rfl, b, Bs.map V.ref, rfl, sl_at (x6.st _ _ hb refs_norow), fun nb nnb => ?_⟩
        rw [ea, ← Int.natCast_add, cut_of (Nat.le_add_right _ _) (by rw [lBs]; exact jlt2), Nat.add_sub_cancel_left, ← List.map_drop, ← List.map_take]
        have x7 : Ex H7 (upd H7 nb (.lst (((Bs.drop (dv * j)).take dv).map V.ref))) := Ex.new nnb
        have hnb : upd H7 nb (.lst (((Bs.drop (dv * j)).take dv).map V.ref)) nb = some (.lst (((Bs.drop (dv * j)).take dv).map V.ref)) := upd_same
        generalize upd H7 nb (.lst (((Bs.drop (dv * j)).take dv).map V.ref)) = H8 at x7 hnb ⊢
        have hC := ((hBs.ex x6).ex x7).cut (dv * j) dv
        have cf := chunk_flat (B := grp R2 d) (D := dv) (c := j)
        have lg := lB d
        have sub : (((grp R2 d).drop (dv * j)).take dv).Sublist R2 := ((List.take_sublist _ _).trans (List.drop_sublist _ _)).trans List.filter_sublist
        obtain ⟨C, eC⟩ : ∃ C, ((grp R2 d).drop (dv * j)).take dv = C := ⟨_, rfl⟩
        have lC : C.length = dv := by
          rw [← eC, List.length_take, List.length_drop, lg]
          omega
        have rC : ∀ r ∈ C, r.length = d := fun r hr => by
          rw [← eC] at hr
          exact of_decide_eq_true (List.mem_filter.mp (List.mem_of_mem_drop (List.mem_of_mem_take hr))).2
        have hC : RowsAt H8 ((Bs.drop (dv * j)).take dv) C := by rw [← eC]; exact hC
        rw [eC] at cf sub
        have ndC : C.flatten.Nodup := (sub_flat sub).nodup hF2.cyc.nd
        have cd : C.length * d ≤ d * cnt R2 d := by rw [lC, Nat.mul_comm]; exact Nat.mul_le_mul_left _ dle
        refine ⟨nb, _, C, d, e, q, rfl, hnb, hC, by rw [lC]; exact eq, hcop, by rw [lC]; exact dp, bd.1, rC, ndC, by omega, fun cc H9 L x9 hcc mg => ?_⟩
        have hl9 := x9.st _ _ (x7.st _ _ hl6 refs_norow) refs_norow
        have lM := hM6.few
        rw [hG6, List.length_append, List.length_take, lg] at lM
        have lGi := lG i
        refine ⟨As.map V.ref, hl9, by rw [List.length_map, hR6.len]; exact small1000 (by omega), ((x6.trans x7).trans x9).own nD, Cs ++ [C], M ++ [L], As ++ [cc], by rw [upd_same, List.map_append]; rfl, (((hR6.ex x7).ex x9).upd hl9 (fun _ z => by cases z)).more (kp hcc hl9 (fun z => by cases z)), hM6.more mg, ?_⟩
        rw [List.flatten_append, hG6, ← cf, List.append_assoc, List.flatten_cons, List.flatten_nil, List.append_nil]
      · subst es
        refine ⟨_, _, _, _, rfl, x6, Cs, M, As, hl6, hR6, hM6, ?_⟩
        have em : dv * (cnt R2 d / dv) = cnt R2 d := Nat.mul_div_cancel' (Nat.dvd_of_mod_eq_zero fr)
        rw [hG6, em, ← lB d, List.take_length, et, List.flatMap_append]
        congr 1
        rw [List.flatMap_cons, List.flatMap_nil, List.append_nil]
    · subst es
      rw [hTl, List.take_length] at hG
      walk_at "sx"
      have gq : Cs.flatten.Perm R2 := by rw [hG]; exact gp
      have nd : Cs.flatten.flatten.Nodup := (List.Perm.flatten gq).nodup_iff.mpr hF2.cyc.nd
      have mf := hM.flat nd
      have mp := mf.trans (List.Perm.flatten gq)
      obtain ⟨g, F⟩ := rows_pm (n := n) (mp.nodup_iff.mpr hF2.cyc.nd) fun x hx => hF2.cyc.bd x (mp.mem_iff.mp hx)
      have pw := mgs_root hp.is F hM (fun x h0 hn => (List.Perm.flatten gq).mem_iff.mpr (hF2.all x h0 hn)) fun r hr => hF2.cyc.tn r (gq.mem_iff.mp hr)
      have lM := hM.few
      rw [gq.length_eq] at lM
      refine ⟨p.map V.int, .inr (.inl (.inl (hpD.ex x4).at_)), ?_⟩
      rw [List.length_map, hp.is.len]
      exact ⟨l, n, g, As, M, rfl, hl4, hR4, F, h12, by omega, fun c H5 x5 hg => z _ H5 R2 ((x1.trans xD).trans (x4.trans x5)) hF (.inr ⟨c, g, rfl, hg, pw, free⟩)⟩
theorem ok__law_taken (T : TX K mg base) : FnOk P w K mg base CX0 1 (He.ga K "_law_taken") (fdK K "_law_taken") ["row", "many"] (spTaken K) := by
  refine T.F__law_taken.ok sc_law_taken (fun vs H Q E h => ?_) (fun cdv A outer s H vs Q E hr h => ?_)
  · obtain ⟨r, s, m, ns, rfl, _⟩ := h
    rfl
  · obtain ⟨r, s0, m, ns, rfl, hR, hS, h1, h2, q⟩ := h
    obtain ⟨i, j, k, hrow, hi, hj, hj2, hk⟩ := id hR
    refine ⟨_, (pss_cons (ps_if (pt_cmpR op_gt (pe_ix (ixL (K := K) rfl) (pv 0) pe_int (fun _ _ => rfl)) pe_int (nomark _)) (pss_cons (ps_set (i := 3) sc_law_taken.nd rfl (.inl rfl) (pe_op op_mod (pe_callTy call_int1 (by rfl) T.n_int boot_int (pa_cons (pe_ix (ixL (K := K) rfl) (pv 0) pe_int (fun _ _ => rfl)) pa_nil)) (pv 1)))
      (pss_cons (ps_asg (pe_op op_fdivW (pe_ix (ixL (K := K) rfl) (pv 0) pe_int (fun _ _ => rfl)) (pv 1)) (pg_sub (pv 0) pe_int set_list (by intro _; rfl)))
      (pss_one (ps_ret (pv 3))))) pss_nil)
      (pss_cons (ps_asg (pe_op op_add (pe_ix (ixL (K := K) rfl) (pv 0) pe_int (fun _ _ => rfl)) pe_int) (pg_sub (pv 0) pe_int set_list (by intro _; rfl)))
      (pss_cons (ps_if (pt_cmpR op_gt (pe_ix (ixL (K := K) rfl) (pv 0) pe_int (fun _ _ => rfl)) (pe_callB (lenS (K := K) rfl) (by rfl) T.n_len PySem.boot_len (pa_cons (pe_ix (ixL (K := K) rfl) (pv 0) pe_int (fun _ _ => rfl)) pa_nil)) (nomark _)) (pss_cons (ps_asg (pe_op op_mod (pe_callTy call_int1 (by rfl) T.n_int boot_int (pa_cons (pe_op op_add (pe_op op_mul (pe_ix (ixL (K := K) rfl) (pv 0) pe_int (fun _ _ => rfl)) pe_int) pe_int) pa_nil)) pe_int) (pg_sub (pv 0) pe_int set_list (by intro _; rfl)))
      (pss_one (ps_ret (pe_op op_mod (pe_callTy call_int1 (by rfl) T.n_int boot_int (pa_cons (pe_op op_fdivW (pe_ix (ixL (K := K) rfl) (pv 0) pe_int (fun _ _ => rfl)) pe_int) pa_nil)) (pv 1))))) pss_nil)
      (pss_cons (ps_set (i := 2) sc_law_taken.nd rfl (.inl rfl) (pe_ix (ixL (K := K) rfl) (pe_ix (ixL (K := K) rfl) (pv 0) pe_int (fun _ _ => rfl)) (pe_op op_sub (pe_ix (ixL (K := K) rfl) (pv 0) pe_int (fun _ _ => rfl)) pe_int) (fun _ _ => rfl)))
      (pss_cons (ps_asg (pe_op op_mod (pe_callTy call_int1 (by rfl) T.n_int boot_int (pa_cons (pe_op op_add (pe_op op_add (pe_op op_mul (pe_ix (ixL (K := K) rfl) (pv 0) pe_int (fun _ _ => rfl)) pe_int) (pv 2)) pe_int) pa_nil)) pe_int) (pg_sub (pv 0) pe_int set_list (by intro _; rfl)))
      (pss_cons (ps_if (pt_cmpR op_ge (pv 2) (pe_op op_pow pe_int pe_int) (nomark _)) (pss_one (ps_asg (pe_op op_fdivW (pv 2) (pv 1)) (pg_sub (pv 0) pe_int set_list (by intro _; rfl)))) pss_nil)
      (pss_one (ps_ret (pe_op op_mod (pe_callTy call_int1 (by rfl) T.n_int boot_int (pa_cons (pv 2) pa_nil)) (pv 1)))))))))), ?_⟩
    have nat : ∀ (x : Int) (H' : Hp), Ex H H' → 0 ≤ x → x < m → Q (.int x) H' := fun x H' e g0 g1 => by
      have := q x.toNat H' e (by omega)
      rwa [Int.toNat_of_nonneg g0] at this
    have md : ∀ x : Int, 0 ≤ x % (m : Int) ∧ x % (m : Int) < m := fun x => ⟨Int.emod_nonneg _ (by omega), Int.emod_lt_of_pos _ (by omega)⟩
    have m31 : ∀ x : Int, 0 ≤ x % 2147483647 ∧ x % 2147483647 < 2147483648 := fun x => ⟨Int.emod_nonneg _ (by omega), by have := Int.emod_lt_of_pos x (show (0 : Int) < 2147483647 by omega); omega⟩
    have dm : ∀ x : Int, CDivW x (m : Int) := fun x => wide_div (b := 64) (by omega) (by omega) (by omega) (by omega)
    have lt10 : (4 : Nat) ≤ sizeLine := by decide
    walk_at "sx"
    refine ⟨_, sl_at hrow, _, rfl, k, rfl, ite2 (fun c => ?_) (fun c => ?_)⟩
    · have c := of_decide_eq_true c
      exact ⟨_, sl_at hrow, _, rfl, .inl ⟨k, rfl, by omega, _, sl_at hrow, _, rfl, k, rfl, dm k, _, hrow, 3, rfl, nat _ _ (Ex.draw hR hi hj hj2 (Int.ediv_nonneg hk (by omega))) (md k).1 (md k).2⟩⟩
    · refine ⟨_, sl_at hrow, _, rfl, i, rfl, _, hrow, 1, rfl, ?_⟩
      have x1 : Ex H (upd H r (.lst [.ref s0, .int (i + 1), .int j, .int k])) := Ex.draw hR (by omega) hj hj2 hk
      have e1 : (upd H r (.lst [.ref s0, .int (i + 1), .int j, .int k])) r = some (.lst [.ref s0, .int (i + 1), .int j, .int k]) := upd_same
      have R1 : RowAt (upd H r (.lst [.ref s0, .int (i + 1), .int j, .int k])) r s0 := ⟨_, _, _, e1, by omega, hj, hj2, hk⟩
      have hS1 := x1.l ints_norow hS
      refine ⟨_, sl_at e1, _, rfl, _, sl_at e1, _, rfl, s0, rfl, ns.map V.int, .inl hS1, i + 1, rfl, ite2 (fun c2 => ?_) (fun c2 => ?_)⟩
      · have e2 : (upd (upd H r (.lst [.ref s0, .int (i + 1), .int j, .int k])) r (.lst [.ref s0, .int (i + 1), .int ((j * 48271 + 11) % 2147483647), .int k])) r = some (.lst [.ref s0, .int (i + 1), .int ((j * 48271 + 11) % 2147483647), .int k]) := upd_same
        have x2 := x1.trans (Ex.draw R1 (show 0 ≤ i + 1 by omega) (m31 (j * 48271 + 11)).1 (m31 (j * 48271 + 11)).2 hk)
        refine ⟨_, sl_at e1, _, rfl, j, rfl, .inl ⟨by omega, by omega⟩, by omega, _, e1, 2, rfl, _, sl_at e2, _, rfl, _, rfl, ⟨by omega, by decide⟩, by omega, ?_⟩
        exact nat _ _ x2 (md _).1 (md _).2
      · have c2 : ¬ (((ns.map V.int).length : Int) < i + 1) := fun z => c2 (decide_eq_true z)
        have hil : i.toNat < ns.length := by rw [List.length_map] at c2; omega
        obtain ⟨cell, hc⟩ : ∃ cell, ns[i.toNat]? = some cell := ⟨_, List.getElem?_eq_getElem hil⟩
        refine ⟨_, sl_at e1, _, rfl, _, sl_at e1, _, rfl, i + 1, rfl, s0, rfl, ns.map V.int, hS1, .int cell, ?_, ?_⟩
        · rw [Int.add_sub_cancel]
          exact at_int hi hc
        have x2 := x1.trans (Ex.draw R1 (show 0 ≤ i + 1 by omega) (m31 (j * 48271 + cell + 11)).1 (m31 (j * 48271 + cell + 11)).2 hk)
        have e2 : (upd (upd H r (.lst [.ref s0, .int (i + 1), .int j, .int k])) r (.lst [.ref s0, .int (i + 1), .int ((j * 48271 + cell + 11) % 2147483647), .int k])) r = some (.lst [.ref s0, .int (i + 1), .int ((j * 48271 + cell + 11) % 2147483647), .int k]) := upd_same
        refine ⟨_, sl_at e1, _, rfl, j, rfl, .inl ⟨by omega, by omega⟩, ?_⟩
        have R2 : RowAt (upd (upd H r (.lst [.ref s0, .int (i + 1), .int j, .int k])) r (.lst [.ref s0, .int (i + 1), .int ((j * 48271 + cell + 11) % 2147483647), .int k])) r s0 := ⟨_, _, _, e2, by omega, (m31 _).1, (m31 _).2, hk⟩
        refine ⟨cell, rfl, by omega, _, e1, 2, rfl, ⟨by omega, by omega, by decide⟩, cell, rfl, ite2 (fun c3 => ?_) (fun c3 => ?_)⟩
        · have c3 := of_decide_eq_true c3
          have c0 : 0 ≤ cell := Int.le_trans (by decide) c3
          exact ⟨cell, rfl, dm _, _, e2, 3, rfl, .inl ⟨cell, rfl, by omega, nat _ _ (x2.trans (Ex.draw R2 (by omega) (m31 _).1 (m31 _).2 (Int.ediv_nonneg c0 (by omega)))) (md _).1 (md _).2⟩⟩
        · exact .inl ⟨cell, rfl, by omega, nat _ _ x2 (md _).1 (md _).2⟩
theorem ok__law_pick (T : TX K mg base) : FnOk P w K mg base CX0 2 (He.ga K "_law_pick") (fdK K "_law_pick") ["row", "things"] (spPick K) := by
  refine T.F__law_pick.ok sc_law_pick (fun vs H Q E h => ?_) (fun cdv A outer s H vs Q E hr h => ?_)
  · obtain ⟨r, s, t, ns, ts, rfl, _⟩ := h
    rfl
  · obtain ⟨r, s0, t, ns, ts, rfl, hR, hS, hT, h1, h2, z⟩ := h
    refine ⟨_, (pss_one (ps_ret (pe_ix (ixL (K := K) rfl) (pv 1) (pe_call (ok__law_taken T) hr (by rfl) T.g__law_taken T.F__law_taken.kp T.b__law_taken .nil pass0 (pa_cons (pv 0) (pa_cons (pe_callB (lenS (K := K) rfl) (by rfl) T.n_len PySem.boot_len (pa_cons (pv 1) pa_nil)) pa_nil))) (fun _ _ => rfl)))), ?_⟩
    walk_at "sx"
    refine ⟨ts.map V.int, .inl (sl_at hT), r, s0, ts.length, ns, by rw [List.length_map], hR, hS, h1, by omega, fun j H1 x1 hj => ?_⟩
    have hv : ts[j]? = some ts[j] := List.getElem?_eq_getElem hj
    exact ⟨ts.map V.int, j, rfl, sl_at (x1.i hT), .int ts[j], at_int (by omega) (by rw [show ((j : Nat) : Int).toNat = j by omega]; exact hv), z _ H1 x1 (List.getElem_mem hj)⟩
theorem ok__law_alike0 (T : TX K mg base) : FnOk P w K mg base CX0 1 (He.ga K "_law_alike") (fdK K "_law_alike") ["found", "due"] spAlike0 := by
  refine T.F__law_alike.ok sc_law_alike (fun vs H Q E h => ?_) (fun cdv A outer s H vs Q E hr h => ?_)
  · obtain ⟨x, y, rfl, _⟩ := h
    rfl
  · obtain ⟨x, y, rfl, q⟩ := h
    refine ⟨_, (pss_cons (ps_if (pt_val (pe_callB (isiTK (K := K) rfl) (by rfl) T.n_isinstance (by decide +kernel) (pa_cons (pv 1) (pa_cons (pe_tup (pa_cons (pe_bltn (v := .ty "tuple") (by rfl) T.n_tuple (by decide +kernel) rfl) (pa_cons (pe_bltn (v := .ty "list") (by rfl) T.n_list (by decide +kernel) rfl) pa_nil))) pa_nil)))) pss_never pss_nil)
      (pss_cons (ps_if (PW.pt (pw_or (pt_cmpR op_isN (pv 1) pe_non (nomark _)) (pw_or1 (pt_val (pe_callB (isiK (K := K) rfl) (by rfl) T.n_isinstance (by decide +kernel) (pa_cons (pv 1) (pa_cons (pe_bltn (v := .ty "str") (by rfl) T.n_str (by decide +kernel) rfl) pa_nil))))))) (pss_one (ps_ret (pe_and (pe_cmpR (eqD (K := K) rfl hr) (pv 0) (pv 1) (nomark _)) (pe_one (pe_cmpR op_eq (pe_callB (isiK (K := K) rfl) (by rfl) T.n_isinstance (by decide +kernel) (pa_cons (pv 0) (pa_cons (pe_bltn (v := .ty "str") (by rfl) T.n_str (by decide +kernel) rfl) pa_nil))) (pe_callB (isiK (K := K) rfl) (by rfl) T.n_isinstance (by decide +kernel) (pa_cons (pv 1) (pa_cons (pe_bltn (v := .ty "str") (by rfl) T.n_str (by decide +kernel) rfl) pa_nil))) (nomark _)))))) pss_nil)
      (pss_one (ps_ret (pe_and (pe_callB (isiK (K := K) rfl) (by rfl) T.n_isinstance (by decide +kernel) (pa_cons (pv 0) (pa_cons (pe_bltn (v := .ty "int") (by rfl) T.n_int (by decide +kernel) rfl) pa_nil))) (pe_and (pe_cmpR op_eq (pe_callB (isiK (K := K) rfl) (by rfl) T.n_isinstance (by decide +kernel) (pa_cons (pv 0) (pa_cons (pe_bltn (v := .ty "bool") (by rfl) T.n_bool (by decide +kernel) rfl) pa_nil))) (pe_callB (isiK (K := K) rfl) (by rfl) T.n_isinstance (by decide +kernel) (pa_cons (pv 1) (pa_cons (pe_bltn (v := .ty "bool") (by rfl) T.n_bool (by decide +kernel) rfl) pa_nil))) (nomark _)) (pe_one (pe_cmpR (eqD (K := K) rfl hr) (pv 0) (pv 1) (nomark _))))))))), ?_⟩
    walk_at "sx"
    refine ⟨by show 2 ≤ sizeLine; decide, fun t nt => ?_⟩
    have e : PyData.eqv (.int x) (.int y) = decide (x = y) := by rfl
    refine isit_q (b := false) (c := false) (tyx_int y) upd_same (by decide +kernel) (by decide +kernel) ⟨_, rfl, iteF ?_⟩
    refine iteF (isi_q (b := false) (tyx_int y) (by decide +kernel) ⟨_, rfl, iteF ?_⟩)
    refine isi_q (b := true) (tyx_int x) (by decide +kernel) ⟨_, rfl, iteT ?_⟩
    refine isi_q (b := false) (tyx_int x) (by decide +kernel) (isi_q (b := false) (tyx_int y) (by decide +kernel) ⟨rfl, ?_⟩)
    refine iteT ⟨.int x, .int y, .int x, .int y, rfl, rfl, ?_⟩
    rw [e]
    exact q _ (Ex.new nt)
theorem ok__law_alike (T : TX K mg base) : FnOk P w K mg base CX0 2 (He.ga K "_law_alike") (fdK K "_law_alike") ["found", "due"] spAlike := by
  refine T.F__law_alike.ok sc_law_alike (fun vs H Q E h => ?_) (fun cdv A outer s H vs Q E hr h => ?_)
  · obtain ⟨x, y, _, rfl, _⟩ := h
    rfl
  · obtain ⟨a, b, ns, rfl, ha, hb, hn, q⟩ := h
    refine ⟨_, (pss_cons (ps_if (pt_val (pe_callB (isiTK (K := K) rfl) (by rfl) T.n_isinstance (by decide +kernel) (pa_cons (pv 1) (pa_cons (pe_tup (pa_cons (pe_bltn (v := .ty "tuple") (by rfl) T.n_tuple (by decide +kernel) rfl) (pa_cons (pe_bltn (v := .ty "list") (by rfl) T.n_list (by decide +kernel) rfl) pa_nil))) pa_nil)))) (pss_cons (ps_if (PW.pt (pw_or (pt_not (pt_val (pe_callB (isiTK (K := K) rfl) (by rfl) T.n_isinstance (by decide +kernel) (pa_cons (pv 0) (pa_cons (pe_tup (pa_cons (pe_bltn (v := .ty "tuple") (by rfl) T.n_tuple (by decide +kernel) rfl) (pa_cons (pe_bltn (v := .ty "list") (by rfl) T.n_list (by decide +kernel) rfl) pa_nil))) pa_nil))))) (pw_or1 (pt_cmpR op_ne (pe_callB (isiK (K := K) rfl) (by rfl) T.n_isinstance (by decide +kernel) (pa_cons (pv 0) (pa_cons (pe_bltn (v := .ty "list") (by rfl) T.n_list (by decide +kernel) rfl) pa_nil))) (pe_callB (isiK (K := K) rfl) (by rfl) T.n_isinstance (by decide +kernel) (pa_cons (pv 1) (pa_cons (pe_bltn (v := .ty "list") (by rfl) T.n_list (by decide +kernel) rfl) pa_nil))) (nomark _))))) (pss_one (ps_ret pe_bl)) pss_nil)
      (pss_cons (ps_if (pt_cmpR op_ne (pe_callB (lenS (K := K) rfl) (by rfl) T.n_len PySem.boot_len (pa_cons (pv 0) pa_nil)) (pe_callB (lenS (K := K) rfl) (by rfl) T.n_len PySem.boot_len (pa_cons (pv 1) pa_nil)) (nomark _)) (pss_one (ps_ret pe_bl)) pss_nil)
      (pss_one (ps_ret (pe_cmpR (eqD (K := K) rfl hr) (pe_lc (own := [("k", 2)]) (g := gName 2)  rfl sc_law_alike.nd (pi_range1 (by rfl) T.n_range (pa_cons (pe_callB (lenS (K := K) rfl) (by rfl) T.n_len PySem.boot_len (pa_cons (pv 1) pa_nil)) pa_nil)) (blkOk_by (N := ["found", "due", "k"]) (sc := defScope s_law_alike) (by decide +kernel)) (fun _ _ _ _ _ => (pg_name (i := 2) sc_law_alike.nd rfl (.inl rfl))) (fun _ _ _ _ _ => (pts_one (pt_not (pt_val (pe_call (ok__law_alike0 T) hr (by rfl) T.g__law_alike T.F__law_alike.kp T.b__law_alike .nil pass0 (pa_cons (pe_ix (ixT (K := K) rfl) (pv 0) (pv 2) (fun _ _ => rfl)) (pa_cons (pe_ix (ixT (K := K) rfl) (pv 1) (pv 2) (fun _ _ => rfl)) pa_nil))))))) (fun _ _ _ _ _ => (pv 2))) (pe_lst pa_nil) (nomark _)))))) pss_nil)
      pss_never), ?_⟩
    walk_at "sx"
    refine ⟨by show 2 ≤ sizeLine; decide, fun t nt => ?_⟩
    have x1 : Ex H (upd H t (.tup [.ty "tuple", .ty "list"])) := Ex.new nt
    refine isit_q (b := true) (c := false) (tyx_tup (x1.st _ _ hb trivial)) upd_same (by decide +kernel) (by decide +kernel) ⟨_, rfl, iteT ?_⟩
    refine ⟨by show 2 ≤ sizeLine; decide, fun t2 nt2 => ?_⟩
    have x2 := x1.trans (Ex.new (o := .tup [.ty "tuple", .ty "list"]) nt2)
    have ha2 := x2.st _ _ ha trivial
    have hb2 := x2.st _ _ hb trivial
    refine isit_q (b := true) (c := false) (tyx_tup ha2) upd_same (by decide +kernel) (by decide +kernel) ⟨_, rfl, iteF ?_⟩
    refine isi_q (b := false) (tyx_tup ha2) (by decide +kernel) (isi_q (b := false) (tyx_tup hb2) (by decide +kernel) ⟨rfl, iteF ?_⟩)
    have hlen : (ns.map V.int).length = ns.length := List.length_map ..
    refine ⟨ns.map V.int, .inr (.inl (.inl ha2)), ns.map V.int, .inr (.inl (.inl hb2)), rfl, ?_⟩
    rw [decide_eq_true rfl]
    refine iteF ⟨.ref b, rfl, b, rfl, ns.map V.int, .inr (.inl (.inl hb2)), ((ns.map V.int).length : Int), rfl, by omega, by omega, fun D nD => ?_⟩
    have eln : (((ns.map V.int).length : Nat) : Int).toNat = ns.length := by omega
    refine lc_it walk_range (fun i H1 => Ex H H1 ∧ H1 D = some (.lst [])) ⟨x2.trans (Ex.new nD), upd_same⟩ (fun _ _ _ _ => trivial) (fun i x H1 H2 hi ⟨x3, hD⟩ ⟨e, ex⟩ => ?_) (fun H1 ⟨x3, hD⟩ => ?_)
    · subst e ex
      rw [eln] at hi
      have ei : (0 + (i : Int)).toNat = i := by omega
      have hv : ns[i]? = some ns[i] := List.getElem?_eq_getElem hi
      have hat : atI (ns.map V.int) (0 + (i : Int)) = some (.int ns[i]) := at_int (by omega) (by rw [ei]; exact hv)
      refine ⟨rfl, .ref a, rfl, .int (0 + (i : Int)), rfl, a, _, _, .int ns[i], rfl, rfl, x3.t (.inl (.inl ha)), hat, .ref b, rfl, .int (0 + (i : Int)), rfl, b, _, _, .int ns[i], rfl, rfl, x3.t (.inl (.inl hb)), hat, ns[i], ns[i], rfl, fun H' x4 => ⟨_, rfl, ?_⟩⟩
      rw [decide_eq_true rfl]
      exact iteF ⟨x3.trans x4, x4.st _ _ hD nil_norow⟩
    · refine ⟨Nat.zero_le _, fun p np => ⟨.list [], .list [], dp_nil (by rw [upd_ne (ne_of_none hD np)]; exact hD), dp_nil upd_same, rfl, rfl, q _ (x3.trans (Ex.new np))⟩⟩
theorem ok__law_unit (T : TX K mg base) : FnOk P w K mg base CX0 1 (He.ga K "_law_unit") (fdK K "_law_unit") ["degree"] spLawUnit := by
  refine T.F__law_unit.ok sc_law_unit (fun vs H Q E h => ?_) (fun cdv A outer s H vs Q E hr h => ?_)
  · obtain ⟨n, rfl, _⟩ := h
    rfl
  · obtain ⟨n, rfl, hn, q⟩ := h
    refine ⟨_, (pss_one (ps_ret (pe_tupRg rfl (by rfl) T.n_tuple (prg_1 (by rfl) T.n_range (pv 0))))), ?_⟩
    walk_at "sx"
    refine ⟨.of_le (by omega) (by omega) (by omega) (by omega), fun a na => ?_⟩
    exact q a _ (Ex.new na) ⟨by rw [upd_same, rg_ints]; rfl, unit_pm n⟩
theorem ok__law_mul (T : TX K mg base) : FnOk P w K mg base CX0 1 (He.ga K "_law_mul") (fdK K "_law_mul") ["p", "q"] spLawMul := by
  refine T.F__law_mul.ok sc_law_mul (fun vs H Q E h => ?_) (fun cdv A outer s H vs Q E hr h => ?_)
  · obtain ⟨a, b, n, p, q, rfl, _⟩ := h
    rfl
  · obtain ⟨a, b, n, p, q, rfl, hp, hq, hn, z⟩ := h
    refine ⟨_, (pss_one (ps_ret (pe_tupK (K := K) rfl (by rfl) T.n_tuple (pe_lc (own := [("image", 2)]) (g := gName 2) (tt := tYes) rfl sc_law_mul.nd (piT (K := K) rfl (pv 0)) (blkOk_by (N := ["p", "q", "image"]) (sc := defScope s_law_mul) (by decide +kernel)) (fun _ _ _ _ _ => (pg_name (i := 2) sc_law_mul.nd rfl (.inl rfl))) (fun _ _ _ _ _ => pts_nil) (fun _ _ _ _ _ => (pe_ix (ixT (K := K) rfl) (pv 1) (pv 2) (fun _ _ => rfl))))))), ?_⟩
    walk_at "sx"
    refine ⟨.ref a, rfl, a, rfl, ⟨_, .inl (.inl hp.at_)⟩, fun D nD => ?_⟩
    have hl : (p.map V.int).length = n := by rw [List.length_map, hp.is.len]
    refine lc_it (walk_tup (xs := p.map V.int)) (fun i H1 => Ex H H1 ∧ H1 D = some (.lst (((mulL p q).take i).map V.int))) ⟨Ex.new nD, upd_same⟩ (fun i H1 _ h => h.1.t (.inl (.inl hp.at_))) (fun i x H1 H2 hi ⟨x1, hD⟩ ⟨e, hx⟩ => ?_) (fun H1 ⟨x1, hD⟩ => ?_)
    · subst e
      rw [hl] at hi
      obtain ⟨y, hy, h0, hb⟩ := hp.is.get hi
      have ex : x = .int y := by
        rw [List.getElem?_map, hy] at hx
        exact (Option.some.inj hx).symm
      subst ex
      obtain ⟨u, hu, _⟩ := hq.is.get (i := y.toNat) (by omega)
      refine ⟨rfl, yesI ⟨.ref b, rfl, .int y, rfl, b, _, y, .int u, rfl, rfl, x1.t (.inl (.inl hq.at_)), at_int h0 hu, _, hD, ?_, x1.own nD, ?_⟩⟩
      · rw [List.length_map, List.length_take]
        have : (mulL p q).length = n := by unfold mulL; rw [List.length_map, hp.is.len]
        exact small1000 (by omega)
      · rw [upd_same, mul_take hy, getD_of hu, List.map_append]
        rfl
    · have hml : (mulL p q).length = n := by unfold mulL; rw [List.length_map, hp.is.len]
      rw [hl, List.take_of_length_le (by omega)] at hD
      refine .inl ⟨D, rfl, _, sl_at hD, fun c nc => z c _ (x1.trans (Ex.new nc)) ⟨upd_same, mulL_pm hp.is hq.is⟩⟩
theorem ok__law_inv (T : TX K mg base) : FnOk P w K mg base CX0 1 (He.ga K "_law_inv") (fdK K "_law_inv") ["p"] spLawInv := by
  refine T.F__law_inv.ok sc_law_inv (fun vs H Q E h => ?_) (fun cdv A outer s H vs Q E hr h => ?_)
  · obtain ⟨a, n, p, rfl, _⟩ := h
    rfl
  · obtain ⟨a, n, p, rfl, hp, hn, z⟩ := h
    refine ⟨_, (pss_cons (ps_set (i := 1) sc_law_inv.nd rfl (.inl rfl) (pe_op op_rep (pe_lst (pa_cons pe_int pa_nil)) (pe_callB (lenS (K := K) rfl) (by rfl) T.n_len PySem.boot_len (pa_cons (pv 0) pa_nil))))
      (pss_cons (ps_for PassesOwn.never rfl (pi_range1 (by rfl) T.n_range (pa_cons (pe_callB (lenS (K := K) rfl) (by rfl) T.n_len PySem.boot_len (pa_cons (pv 0) pa_nil)) pa_nil)) (pg_name (i := 2) sc_law_inv.nd rfl (.inl rfl)) (pss_one (ps_asg (pv 2) (pg_sub (pv 1) (pe_ix (ixT (K := K) rfl) (pv 0) (pv 2) (fun _ _ => rfl)) set_list (by intro _; rfl)))))
      (pss_one (ps_ret (pe_tupK (K := K) rfl (by rfl) T.n_tuple (pv 1)))))), ?_⟩
    walk_at "sx"
    have hlp : (p.map V.int).length = n := by rw [List.length_map, hp.is.len]
    refine ⟨by show 1 ≤ sizeLine; decide, fun l nl => ?_⟩
    have xl : Ex H (upd H l (.lst [V.int 0])) := Ex.new nl
    have hA : SqT K (upd H l (.lst [V.int 0])) a (p.map V.int) := xl.t (.inl (.inl hp.at_))
    refine ⟨p.map V.int, .inr hA, [V.int 0], upd_same, by omega, by omega, by rw [hlp]; exact Nat.le_of_lt (small1000 (by show 1 * ((n : Nat) : Int).toNat ≤ 1000; omega)), fun o no => ?_⟩
    have no0 := xl.no _ no
    have xo : Ex H (upd (upd H l (.lst [V.int 0])) o (.lst (List.replicate ((p.map V.int).length : Int).toNat [V.int 0]).flatten)) := xl.trans (Ex.new no)
    have en : ((n : Nat) : Int).toNat = n := by omega
    refine ⟨.ref a, rfl, a, rfl, p.map V.int, .inr (xo.t (.inl (.inl hp.at_))), (n : Int), by rw [hlp], by omega, by omega, for_it walk_range (fun i σ H1 => ∃ y2 L, σ = [some (.ref a), some (.ref o), y2] ∧ Ex H H1 ∧ H1 o = some (.lst (L.map V.int)) ∧ Filled n p (fun j => (j : Int)) i L)
      ⟨none, List.replicate n 0, rfl, xo, ?_, Filled.start⟩ (fun _ _ _ _ _ => trivial) (fun i x σ H1 H2 hi ⟨y2, L, es, x1, hO, hF⟩ ⟨e, ex⟩ => ?_) (fun σ H1 ⟨y2, L, es, x1, hO, hF⟩ => ?_)⟩
    · rw [upd_same, hlp, en, rep_flat]
    · subst es e ex
      rw [en] at hi
      obtain ⟨y, hy, h0, hb⟩ := hp.is.get hi
      have ei : (0 + (i : Int)).toNat = i := by omega
      refine ⟨.int (0 + (i : Int)), rfl, .ref o, rfl, .ref a, rfl, .int (0 + (i : Int)), rfl, a, _, _, .int y, rfl, rfl, x1.t (.inl (.inl hp.at_)), at_int (by omega) (by rw [ei]; exact hy), o, _, y, y.toNat, rfl, rfl, hO, ixN_of h0 (by rw [List.length_map, hF.len]; exact hb), ?_⟩
      refine ⟨some (.int (0 + (i : Int))), L.set y.toNat i, rfl, x1.own no0, ?_, hF.step hp.is hy⟩
      rw [upd_same, Int.zero_add, set_map]
    · subst es
      rw [en] at hF
      have eL : L = invL p := hF.uniq hp.is (invL_filled hp.is)
      subst eL
      exact ⟨.ref o, rfl, .inl ⟨o, _, rfl, sl_at hO, fun c nc => z c _ (x1.trans (Ex.new nc)) ⟨upd_same, invL_pm hp.is⟩⟩⟩
theorem ok__law_conj (T : TX K mg base) : FnOk P w K mg base CX0 2 (He.ga K "_law_conj") (fdK K "_law_conj") ["p", "g"] spLawConj := by
  refine T.F__law_conj.ok sc_law_conj (fun vs H Q E h => ?_) (fun cdv A outer s H vs Q E hr h => ?_)
  · obtain ⟨a, b, n, p, q, rfl, _⟩ := h
    rfl
  · obtain ⟨a, b, n, p, g, rfl, hp, hg, hn, z⟩ := h
    refine ⟨_, (pss_one (ps_ret (pe_call (ok__law_mul T) hr (by rfl) T.g__law_mul T.F__law_mul.kp T.b__law_mul .nil pass0 (pa_cons (pe_call (ok__law_mul T) hr (by rfl) T.g__law_mul T.F__law_mul.kp T.b__law_mul .nil pass0 (pa_cons (pe_call (ok__law_inv T) hr (by rfl) T.g__law_inv T.F__law_inv.kp T.b__law_inv .nil pass0 (pa_cons (pv 1) pa_nil)) (pa_cons (pv 0) pa_nil))) (pa_cons (pv 1) pa_nil))))), ?_⟩
    walk_at "sx"
    refine ⟨b, n, g, rfl, hg, hn, fun c H1 x1 e1 => ?_⟩
    refine ⟨c, a, n, _, p, rfl, e1, hp.ex x1, hn, fun d H2 x2 e2 => ?_⟩
    exact ⟨d, b, n, _, g, rfl, e2, hg.ex (x1.trans x2), hn, fun f H3 x3 e3 => z f H3 _ ((x1.trans x2).trans x3) e3 rfl⟩
theorem ok__law_is_perm (T : TX K mg base) : FnOk P w K mg base CX0 1 (He.ga K "_law_is_perm") (fdK K "_law_is_perm") ["degree", "value"] spIsPerm := by
  refine T.F__law_is_perm.ok sc_law_is_perm (fun vs H Q E h => ?_) (fun cdv A outer s H vs Q E hr h => ?_)
  · obtain ⟨x, y, _, rfl, _⟩ := h
    rfl
  · obtain ⟨a, n, p, rfl, hp, hn, q⟩ := h
    refine ⟨_, (pss_cons (ps_if (PW.pt (pw_or (pt_not (pt_val (pe_callB (isiK (K := K) rfl) (by rfl) T.n_isinstance (by decide +kernel) (pa_cons (pv 1) (pa_cons (pe_bltn (v := .ty "tuple") (by rfl) T.n_tuple (by decide +kernel) rfl) pa_nil))))) (pw_or1 (pt_cmpR op_ne (pe_callB (lenS (K := K) rfl) (by rfl) T.n_len PySem.boot_len (pa_cons (pv 1) pa_nil)) (pv 0) (nomark _))))) (pss_one (ps_ret pe_bl)) pss_nil)
      (pss_cons (ps_if (pt_cmpR (neD (K := K) rfl hr) (pe_lc (own := [("image", 2)]) (g := gName 2)  rfl sc_law_is_perm.nd (piT (K := K) rfl (pv 1)) (blkOk_by (N := ["degree", "value", "image"]) (sc := defScope s_law_is_perm) (by decide +kernel)) (fun _ _ _ _ _ => (pg_name (i := 2) sc_law_is_perm.nd rfl (.inl rfl))) (fun _ _ _ _ _ => (pts_one (PW.pt (pw_or (pt_not (pt_val (pe_callB (isiK (K := K) rfl) (by rfl) T.n_isinstance (by decide +kernel) (pa_cons (pv 2) (pa_cons (pe_bltn (v := .ty "int") (by rfl) T.n_int (by decide +kernel) rfl) pa_nil))))) (pw_or1 (pt_val (pe_callB (isiK (K := K) rfl) (by rfl) T.n_isinstance (by decide +kernel) (pa_cons (pv 2) (pa_cons (pe_bltn (v := .ty "bool") (by rfl) T.n_bool (by decide +kernel) rfl) pa_nil))))))))) (fun _ _ _ _ _ => (pv 2))) (pe_lst pa_nil) (nomark _)) (pss_one (ps_ret pe_bl)) pss_nil)
      (pss_one (ps_ret (pe_cmpR (eqD (K := K) rfl hr) (pe_callB (srtT (K := K) rfl) (by rfl) T.n_sorted (by decide +kernel) (pa_cons (pv 1) pa_nil)) (pe_listRg rfl (by rfl) T.n_list (prg_1 (by rfl) T.n_range (pv 0))) (nomark _)))))), ?_⟩
    walk_at "sx"
    have hlp : (p.map V.int).length = n := by rw [List.length_map, hp.is.len]
    refine isi_q (b := true) (tyx_tup hp.at_) (by decide +kernel) ⟨_, rfl, iteF ?_⟩
    refine ⟨p.map V.int, .inr (.inl (.inl hp.at_)), by rw [hlp]; rfl, ?_⟩
    rw [hlp, decide_eq_true rfl]
    refine iteF ⟨.ref a, rfl, a, rfl, ⟨_, .inl (.inl hp.at_)⟩, fun D nD => ?_⟩
    refine lc_it (walk_tup (xs := p.map V.int)) (fun i H1 => Ex H H1 ∧ H1 D = some (.lst [])) ⟨Ex.new nD, upd_same⟩ (fun i H1 _ h => h.1.t (.inl (.inl hp.at_))) (fun i x H1 H2 hi ⟨x1, hD⟩ ⟨e, hx⟩ => ?_) (fun H1 ⟨x1, hD⟩ => ?_)
    · subst e
      rw [hlp] at hi
      obtain ⟨y, hy, h0, hb⟩ := hp.is.get hi
      have ex : x = .int y := by
        rw [List.getElem?_map, hy] at hx
        exact (Option.some.inj hx).symm
      subst ex
      refine ⟨rfl, ?_⟩
      walk_at "sx"
      refine isi_q (b := true) (tyx_int y) (by decide +kernel) ⟨_, rfl, iteF ?_⟩
      exact isi_q (b := false) (tyx_int y) (by decide +kernel) ⟨_, rfl, iteF ⟨x1, hD⟩⟩
    · refine ⟨Nat.zero_le _, fun e ne => ⟨.list [], .list [], dp_nil (by rw [upd_ne (ne_of_none hD ne)]; exact hD), dp_nil upd_same, rfl, rfl, _, rfl, ?_⟩⟩
      have x2 := x1.trans (Ex.new (o := .lst []) ne)
      have ee : PyData.eqv (.list []) (.list []) = true := by rfl
      rw [ee]
      refine iteF ⟨a, p, rfl, x2.t (.inl (.inl hp.at_)), fun ns' c hpm hsrt nc => ⟨.of_le (by omega) (by omega) (by omega) (by omega), fun d nd => ?_⟩⟩
      rw [rg_ints]
      have e1 : ns' = unitL n := srt_unit hp.is hpm hsrt
      subst e1
      have x3 := x2.trans (Ex.new (o := .lst ((unitL n).map V.int)) nc)
      refine ⟨.list ((unitL n).map PyData.int), .list ((unitL n).map PyData.int), dp_ints (by rw [upd_ne (ne_of_none upd_same nd)]; exact upd_same), dp_ints upd_same, PySem.W.ke_shaped_ints _, PySem.W.ke_shaped_ints _, ?_⟩
      rw [SeqAt.eqv_refl _ (canLay_ints _)]
      exact q _ (x3.trans (Ex.new nd))
theorem ok__law_perm (T : TX K mg base) : FnOk P w K mg base CX0 2 (He.ga K "_law_perm") (fdK K "_law_perm") ["row", "degree"] (spLawPerm K) := by
  refine T.F__law_perm.ok sc_law_perm (fun vs H Q E h => ?_) (fun cdv A outer s H vs Q E hr h => ?_)
  · obtain ⟨r, s, m, ns, rfl, _⟩ := h
    rfl
  · obtain ⟨r, s0, n, ns, rfl, hR, hS, h1, h2, z⟩ := h
    refine ⟨_, (pss_cons (ps_set (i := 2) sc_law_perm.nd rfl (.inl rfl) (pe_listRg rfl (by rfl) T.n_list (prg_1 (by rfl) T.n_range (pv 1))))
      (pss_cons (ps_for PassesOwn.never rfl (pi_range1 (by rfl) T.n_range (pa_cons (pe_op op_sub (pv 1) pe_int) pa_nil)) (pg_name (i := 3) sc_law_perm.nd rfl (.inl rfl)) (pss_cons (ps_set (i := 4) sc_law_perm.nd rfl (.inl rfl) (pe_op op_add (pv 3) (pe_call (ok__law_taken T) hr (by rfl) T.g__law_taken T.F__law_taken.kp T.b__law_taken .nil pass0 (pa_cons (pv 0) (pa_cons (pe_op op_sub (pv 1) (pv 3)) pa_nil)))))
      (pss_one (ps_asg (pe_tup (pa_cons (pe_ix (ixL (K := K) rfl) (pv 2) (pv 4) (fun _ _ => rfl)) (pa_cons (pe_ix (ixL (K := K) rfl) (pv 2) (pv 3) (fun _ _ => rfl)) pa_nil))) (pg_tup rfl (pgs_cons (pg_sub (pv 2) (pv 3) set_list (by intro _; rfl)) (pgs_cons (pg_sub (pv 2) (pv 4) set_list (by intro _; rfl)) pgs_nil)))))))
      (pss_one (ps_ret (pe_tupK (K := K) rfl (by rfl) T.n_tuple (pv 2)))))), ?_⟩
    walk_at "sx"
    refine ⟨.of_le (by omega) (by omega) (by omega) (by omega), fun l nl => ?_⟩
    rw [rg_ints]
    have xl : Ex H (upd H l (.lst ((unitL n).map V.int))) := Ex.new nl
    refine ⟨.int n, rfl, n, 1, rfl, rfl, (n : Int) - 1, rfl, by omega, by omega, for_it walk_range (fun i σ H1 => ∃ y3 y4 L, σ = [some (.ref r), some (.int n), some (.ref l), y3, y4] ∧ Ex H H1 ∧ H1 l = some (.lst (L.map V.int)) ∧ IsPm n L)
      ⟨none, none, unitL n, rfl, xl, upd_same, unit_pm n⟩ (fun _ _ _ _ _ => trivial) (fun i x σ H1 H2 hi ⟨y3, y4, L, es, x1, hL, hP⟩ ⟨e, ex⟩ => ?_) (fun σ H1 ⟨y3, y4, L, es, x1, hL, hP⟩ => ?_)⟩
    · subst es e ex
      have hi' : i + 1 < n := by omega
      obtain ⟨u, hu, _⟩ := hP.get (i := i) (by omega)
      walk_at "sx"
      refine ⟨r, s0, n - i, ns, ?_, x1.row _ _ hR, x1.l ints_norow hS, by omega, by omega, fun j H3 x3 hj => ?_⟩
      · simp only [List.cons.injEq, V.int.injEq, and_true, true_and]
        omega
      have hL3 := x3.i hL
      obtain ⟨v, hv, _⟩ := hP.get (i := i + j) (by omega)
      have eij : (0 + (i : Int) + (j : Int)).toNat = i + j := by omega
      have ei : (0 + (i : Int)).toNat = i := by omega
      have x4 := x1.trans x3
      refine ⟨j, rfl, _, sl_at hL3, .int v, at_int (by omega) (by rw [eij]; exact hv), _, sl_at hL3, .int u, at_int (by omega) (by rw [ei]; exact hu), by decide, fun T nT => ?_⟩
      have hL4 : (upd H3 T (.tup [.int v, .int u])) l = some (.lst (L.map V.int)) := by
        rw [upd_ne (ne_of_none hL3 nT)]
        exact hL3
      refine ⟨[.int v, .int u], sq_new, rfl, .int v, [.int u], rfl, _, hL4, i, ?_, .int u, [], rfl, _, upd_same, i + j, ?_, rfl, some (.int (0 + (i : Int))), some (.int (0 + (i : Int) + j)), ⟨rfl, rfl⟩, ((x4.trans (Ex.new nT)).own nl).own nl, (L.set i v).set (i + j) u, ?_, hP.swap hu hv⟩
      · rw [ixN_of (by omega) (by rw [List.length_map, hP.len]; omega), ei]
      · rw [ixN_of (by omega) (by rw [List.length_set, List.length_map, hP.len]; omega), eij]
      · rw [upd_same, set_map, set_map]
    · subst es
      exact ⟨.ref l, rfl, .inl ⟨l, _, rfl, sl_at hL, fun c nc => z c _ L (x1.trans (Ex.new nc)) ⟨upd_same, hP⟩⟩⟩
theorem ok__law_closure (T : TX K mg base) : FnOk P w K mg base CX0 2 (He.ga K "_law_closure") (fdK K "_law_closure") ["degree", "gens"] spClosure := by
  refine T.F__law_closure.ok sc_law_closure (fun vs H Q E h => ?_) (fun cdv A outer s H vs Q E hr h => ?_)
  · obtain ⟨t, a, b, n, g, h, rfl, _⟩ := h
    rfl
  · obtain ⟨t, a, b, n, g, h, rfl, hT, hg, hh, h1, h12, z⟩ := h
    refine ⟨_, (pss_cons (ps_par3 (i := 3) (j := 4) (l := 5) rfl sc_law_closure.nd rfl rfl rfl (by decide) (by decide) (by decide) rfl rfl rfl (pa_cons (pe_lst (pa_cons (pe_call (ok__law_unit T) hr (by rfl) T.g__law_unit T.F__law_unit.kp T.b__law_unit .nil pass0 (pa_cons (pv 0) pa_nil)) pa_nil)) (pa_cons (pe_dispT (hu_of hr) (pe_call (ok__law_unit T) hr (by rfl) T.g__law_unit T.F__law_unit.kp T.b__law_unit .nil pass0 (pa_cons (pv 0) pa_nil)) pe_int) (pa_cons pe_int pa_nil))) (by with_unfolding_all rfl))
      (pss_cons (ps_for PassesOwn.never rfl (pi_range1 (by rfl) T.n_range (pa_cons pe_int pa_nil)) (pg_name (i := 2) sc_law_closure.nd rfl (.inl rfl)) (pss_cons (ps_if (pt_cmpR op_eq (pv 5) (pe_callB (lenS (K := K) rfl) (by rfl) T.n_len PySem.boot_len (pa_cons (pv 3) pa_nil)) (nomark _)) (pss_one (ps_ret (pv 3))) pss_nil)
      (pss_cons (ps_for PassesOwn.never rfl (piT (K := K) rfl (pv 1)) (pg_name (i := 6) sc_law_closure.nd rfl (.inl rfl)) (pss_cons (ps_set (i := 7) sc_law_closure.nd rfl (.inl rfl) (pe_call (ok__law_mul T) hr (by rfl) T.g__law_mul T.F__law_mul.kp T.b__law_mul .nil pass0 (pa_cons (pe_ix (ixL (K := K) rfl) (pv 3) (pv 5) (fun _ _ => rfl)) (pa_cons (pv 6) pa_nil))))
      (pss_one (ps_if (pt_cmp (pc_dnotin (hu_of hr) (pv 7) (pv 4))) (pss_cons (ps_dput (hu_of hr) (pv 4) (pv 7) (pe_callB (lenS (K := K) rfl) (by rfl) T.n_len PySem.boot_len (pa_cons (pv 3) pa_nil)) rfl)
      (pss_one (ps_expr (pe_bm PySem.F.plainAttrs_list PySem.F.slot_list_append PySem.F.type_list_append mt_append (pv 3) (pa_cons (pv 7) pa_nil))))) pss_nil))))
      (pss_one (ps_set (i := 5) sc_law_closure.nd rfl (.inl rfl) (pe_op op_add (pv 5) pe_int))))))
      (pss_one (ps_ret (pv 3))))), ?_⟩
    simp only [tPar3, tDispT]
    walk_at "sx"
    refine ⟨.int n, rfl, n, rfl, by omega, fun u1 H1 x1 e1 => ⟨by show 1 ≤ sizeLine; decide, fun l nl => fun d nd => ?_⟩⟩
    have xl : Ex H1 (upd H1 l (.lst [.ref u1])) := Ex.new nl
    have xd := xl.trans (Ex.new (o := .dT []) nd)
    refine ⟨.int n, rfl, n, rfl, by omega, fun u2 H2 x2 e2 => ⟨x2.st _ _ upd_same trivial, u2, keyI (unitL n), rfl, by rw [keyI_at]; exact e2.at_, ?_⟩⟩
    walk_at "sx"
    refine ⟨_, _, _, ⟨rfl, rfl, rfl⟩, ?_⟩
    obtain ⟨H3, e3⟩ : ∃ H3, upd H2 d (.dT [(keyI (unitL n), .int 0)]) = H3 := ⟨_, rfl⟩
    rw [e3]
    have nl0' : H l = none := x1.no _ nl
    have nd0 := (x1.trans xl).no _ nd
    have nld : d ≠ l := fun z => by rw [z, upd_same] at nd; cases nd
    have l2 : H2 l = some (.lst ([u1].map V.ref)) := by
      refine x2.st _ _ ?_ (refs_norow (As := [u1]))
      rw [upd_ne (Ne.symm nld)]
      exact upd_same
    have x3 : Ex H H3 := by rw [← e3]; exact ((x1.trans xd).trans x2).own nd0
    have u1d : H2 u1 = some (.tup ((unitL n).map V.int)) := (xd.trans x2).st _ _ e1.at_ trivial
    have CS0 : CS H H3 l d n [u1] [unitL n] := by
      rw [← e3]
      have d2 : H2 d = some (.dT []) := x2.st _ _ upd_same trivial
      refine ⟨e3 ▸ x3, kp l2 d2 (fun z => by cases z), (RowsAt.nil.more (H := H2) (a := u1) u1d).upd d2 (fun _ z => by cases z), ⟨_, upd_same, rfl⟩, fun r hr => ?_⟩
      rw [List.mem_singleton.mp hr]
      exact unit_pm n
    refine ⟨2000, rfl, by omega, by omega, for_it walk_range (fun i σ H4 => ∃ y2 y6 y7 As L, σ = [some (.int n), some (.ref t), y2, some (.ref l), some (.ref d), some (.int (i : Nat)), y6, y7] ∧ CS H H4 l d n As L ∧ cloL g h (2000 - i) i L = cloL g h 2000 0 [unitL n] ∧ i ≤ L.length ∧ L.length ≤ 2 * i + 1)
      ⟨none, none, none, [u1], [unitL n], rfl, CS0, rfl, Nat.zero_le _, Nat.le_refl _⟩ (fun _ _ _ _ _ => trivial) (fun i x σ H4 H5 hi ⟨y2, y6, y7, As, L, es, C, ec, il, lb⟩ ⟨e, ex⟩ => ?_) (fun σ H4 ⟨y2, y6, y7, As, L, es, C, ec, il, lb⟩ => ?_)⟩
    · subst es e ex
      have hi : i < 2000 := hi
      have hAl : (As.map V.ref).length = L.length := by rw [List.length_map, C.rows.len]
      walk_at "sx"
      refine ⟨_, .inl (sl_at C.hl), rfl, ?_⟩
      rw [hAl]
      have ef : 2000 - i = (2000 - (i + 1)) + 1 := by omega
      refine ite2 (fun c => ?_) (fun c => ?_)
      · have c := of_decide_eq_true c
        have c : i = L.length := by omega
        refine z l H5 As C.ex C.hl ?_ ?_
        · rw [← ec, ef]
          show RowsAt H5 As (if i = L.length then L else _)
          rw [if_pos c]
          exact C.rows
        · rw [← ec, ef]
          show ∀ r ∈ (if i = L.length then L else _), IsPm n r
          rw [if_pos c]
          exact C.pm
      · have c : i ≠ L.length := fun h => c (by rw [h]; exact decide_eq_true rfl)
        have lt : i < L.length := by omega
        obtain ⟨r, hr⟩ : ∃ r, L[i]? = some r := ⟨_, List.getElem?_eq_getElem lt⟩
        have tT : H5 t = some (.tup [.ref a, .ref b]) := C.ex.st _ _ hT trivial
        refine ⟨.ref t, rfl, t, rfl, ⟨_, .inl (.inl tT)⟩, for_it (walk_tup (xs := [.ref a, .ref b])) (fun j σ H6 => ∃ y6 y7 As', σ = [some (.int n), some (.ref t), some (.int (0 + (i : Int))), some (.ref l), some (.ref d), some (.int (i : Nat)), y6, y7] ∧ CS H H6 l d n As' (addG r ([g, h].take j) L))
          ⟨y6, y7, As, rfl, C⟩ (fun j σ H6 _ ⟨_, _, _, _, C6⟩ => .inl (.inl (C6.ex.st _ _ hT trivial))) (fun j x σ H6 H7 hj ⟨y6, y7, As', es, C6⟩ ⟨e, hx⟩ => ?_) (fun σ H6 ⟨y6, y7, As', es, C6⟩ => ?_)⟩
        · subst es e
          have hj : j < 2 := hj
          obtain ⟨q, gq, eq, hq, tk⟩ : ∃ q gq, x = .ref q ∧ Pm H q n gq ∧ [g, h].take (j + 1) = [g, h].take j ++ [gq] := by
            obtain rfl | rfl : j = 0 ∨ j = 1 := by omega
            · exact ⟨a, g, (Option.some.inj hx).symm, hg, rfl⟩
            · exact ⟨b, h, (Option.some.inj hx).symm, hh, rfl⟩
          subst eq
          rw [tk, addG_snoc]
          have lG := addG_len (x := r) (G := [g, h].take j) (L := L)
          have lt2 : ([g, h].take j).length ≤ 2 := by rw [List.length_take]; exact Nat.min_le_right _ _
          have hM := addG_get (x := r) (G := [g, h].take j) hr
          generalize addG r ([g, h].take j) L = M at C6 lG hM ⊢
          obtain ⟨ra, hra, rat⟩ := C6.rows.at_ i r hM
          have rp : IsPm n r := C6.pm r (List.mem_of_getElem? hM)
          walk_at "sx"
          refine ⟨_, sl_at C6.hl, .ref ra, atI_nat (by rw [List.getElem?_map, hra]; rfl), ra, q, n, r, gq, rfl, ⟨rat, rp⟩, hq.ex C6.ex, by omega, fun c H8 x8 hc => ?_⟩
          have C8 := C6.exx x8
          obtain ⟨kvs, hkv, hks⟩ := C8.hd
          have hcK : H8 c = some (.tup ((keyI (mulL r gq)).map kV)) := by rw [keyI_at]; exact hc.at_
          have has : (valV kvs (keyI (mulL r gq))).isSome = decide (mulL r gq ∈ M) := by
            rw [Bool.eq_iff_iff, decide_eq_true_iff, valV_mem, hks, mem_keys]
          refine ⟨.ref c, rfl, .ref d, rfl, d, _, rfl, DGet.t hkv hcK, _, rfl, ?_⟩
          rw [has]
          refine ite2 (fun cc => ?_) (fun cc => ?_)
          · have nm : mulL r gq ∉ M := fun z => by
              rw [decide_eq_true z] at cc
              cases cc
            have ea : addL M (mulL r gq) = M ++ [mulL r gq] := by
              unfold addL
              rw [if_neg nm]
            have nk : keyI (mulL r gq) ∉ kvs.map Prod.fst := by rw [hks, mem_keys]; exact nm
            have lk : kvs.length = M.length := by
              have z := congrArg List.length hks
              rwa [List.length_map, List.length_map] at z
            have hAl8 : (As'.map V.ref).length = M.length := by rw [List.length_map, C8.rows.len]
            have l4000 : M.length ≤ 4003 := by omega
            refine ⟨.ref l, rfl, l, rfl, _, .inl (sl_at C8.hl), .ref d, rfl, .ref c, rfl, d, _, rfl, DPut.t hkv hcK (by rw [lk]; exact Nat.lt_of_le_of_lt l4000 (by decide)), ?_⟩
            rw [putK_new _ nk]
            simp only [tBM, rAppend]
            walk_at "sx"
            simp only [tBM, rAppend]
            walk_at "sx"
            obtain ⟨H9, e9⟩ : ∃ H9, upd H8 d (.dT (kvs ++ [(keyI (mulL r gq), .int ((As'.map V.ref).length : Nat))])) = H9 := ⟨_, rfl⟩
            rw [e9]
            have l9 : H9 l = some (.lst (As'.map V.ref)) := by rw [← e9]; exact kp C8.hl hkv (fun z => by cases z)
            have d9 : H9 d = some (.dT (kvs ++ [(keyI (mulL r gq), .int ((As'.map V.ref).length : Nat))])) := by rw [← e9]; exact upd_same
            have x9 : Ex H H9 := by rw [← e9]; exact C8.ex.own nd0
            have c9 : H9 c = some (.tup ((mulL r gq).map V.int)) := by rw [← e9]; exact kp hc.at_ hkv (fun z => by cases z)
            have r9 : RowsAt H9 As' M := by rw [← e9]; exact C8.rows.upd hkv (fun _ z => by cases z)
            refine ⟨.inl ⟨rfl, _, sl_at l9⟩, _, l9, by rw [hAl8]; exact Nat.lt_of_le_of_lt l4000 (by decide), _, _, ⟨rfl, rfl⟩, As' ++ [c], ?_⟩
            rw [ea]
            refine ⟨x9.own nl0', by rw [upd_same, List.map_append]; rfl, (r9.upd l9 (fun _ z => by cases z)).more (kp c9 l9 (fun z => by cases z)), ⟨_, kp d9 l9 (fun z => by cases z), ?_⟩, fun s hs => ?_⟩
            · rw [List.map_append, hks, List.map_append]
              rfl
            · rcases List.mem_append.mp hs with z | z
              · exact C8.pm s z
              · rw [List.mem_singleton.mp z]; exact hc.is
          · have ym : mulL r gq ∈ M := by
              apply Classical.byContradiction
              intro z
              exact cc (by rw [decide_eq_false z]; rfl)
            have ea : addL M (mulL r gq) = M := by
              unfold addL
              rw [if_pos ym]
            rw [ea]
            exact ⟨_, _, ⟨rfl, rfl⟩, As', C8⟩
        · subst es
          walk_at "sx"
          have lG := addG_len (x := r) (G := [g, h]) (L := L)
          have C6 : CS H H6 l d n As' (addG r [g, h] L) := C6
          refine ⟨_, _, _, ⟨rfl, rfl, rfl, rfl⟩, As', addG r [g, h] L, C6, ?_, by omega, ?_⟩
          · rw [← ec, ef]
            show _ = if i = L.length then L else cloL g h (2000 - (i + 1)) (i + 1) (addL (addL L (mulL (L.getD i []) g)) (mulL (L.getD i []) h))
            have gr : L.getD i [] = r := by rw [List.getD_eq_getElem?_getD, hr]; rfl
            rw [if_neg c, gr]
            rfl
          · have : (addG r [g, h] L).length ≤ L.length + 2 := lG.2
            omega
    · subst es
      refine ⟨.ref l, rfl, z l H4 As C.ex C.hl ?_ ?_⟩
      · rw [← ec]
        exact C.rows
      · rw [← ec]
        exact C.pm
theorem ok__law_ring (T : TX K mg base) : FnOk P w K mg base CX0 1 (He.ga K "_law_ring") (fdK K "_law_ring") ["p", "first"] spRingL := by
  refine T.F__law_ring.ok sc_law_ring (fun vs H Q E h => ?_) (fun cdv A outer s H vs Q E hr h => ?_)
  · obtain ⟨a, n, p, x, rfl, _⟩ := h
    rfl
  · obtain ⟨a, n, p, x, rfl, hp, h12, x0, xb, z⟩ := h
    refine ⟨_, (pss_cons (ps_par (i := 3) (j := 4) rfl sc_law_ring.nd rfl rfl (by decide) rfl rfl (pa_cons (pe_lst (pa_cons (pv 1) pa_nil)) (pa_cons (pe_ix (ixT (K := K) rfl) (pv 0) (pv 1) (fun _ _ => rfl)) pa_nil)) (by with_unfolding_all rfl))
      (pss_cons (ps_for PassesOwn.never rfl (pi_range1 (by rfl) T.n_range (pa_cons (pe_callB (lenS (K := K) rfl) (by rfl) T.n_len PySem.boot_len (pa_cons (pv 0) pa_nil)) pa_nil)) (pg_name (i := 2) sc_law_ring.nd rfl (.inl rfl)) (pss_one (ps_if (pt_cmpR op_ne (pv 4) (pv 1) (nomark _)) (pss_cons (ps_expr (pe_bm PySem.F.plainAttrs_list PySem.F.slot_list_append PySem.F.type_list_append mt_append (pv 3) (pa_cons (pv 4) pa_nil)))
      (pss_one (ps_set (i := 4) sc_law_ring.nd rfl (.inl rfl) (pe_ix (ixT (K := K) rfl) (pv 0) (pv 4) (fun _ _ => rfl))))) pss_nil)))
      (pss_one (ps_ret (pv 3))))), ?_⟩
    walk_at "sx"
    have hlp : (p.map V.int).length = n := by rw [List.length_map, hp.is.len]
    obtain ⟨y, hy, y0, yb⟩ := hp.is.get (i := x.toNat) (by omega)
    refine ⟨by show 1 ≤ sizeLine; decide, fun l nl => ?_⟩
    have xl : Ex H (upd H l (.lst [V.int x])) := Ex.new nl
    refine ⟨p.map V.int, xl.t (.inl (.inl hp.at_)), .int y, at_int x0 hy, _, _, ⟨rfl, rfl⟩, .ref a, rfl, a, rfl, p.map V.int, .inr (xl.t (.inl (.inl hp.at_))), (n : Int), by rw [hlp], by omega, by omega,
      for_it walk_range (fun k σ H1 => ∃ y2 L pt, σ = [some (.ref a), some (.int x), y2, some (.ref l), some (.int pt)] ∧ Ex H H1 ∧ H1 l = some (.lst (L.map V.int)) ∧ Chain p x L pt ∧ L.Nodup ∧ (∀ y ∈ L, 0 ≤ y ∧ y < (n : Int)) ∧ 0 ≤ pt ∧ pt < n ∧ 0 < L.length ∧ (pt ≠ x → L.length = k + 1))
      ⟨none, [x], y, rfl, xl, upd_same, Chain.start.step hy, List.nodup_cons.mpr ⟨(fun z => by cases z), List.nodup_nil⟩, (fun z hz => by rw [List.mem_singleton.mp hz]; omega), y0, yb, by show 0 < 1; omega, fun _ => rfl⟩ (fun _ _ _ _ _ => trivial) (fun k u σ H1 H2 hk ⟨y2, L, pt, es, x1, hL, c, nd, bd, p0, pb, l0, lk⟩ ⟨e, ex⟩ => ?_) (fun σ H1 ⟨y2, L, pt, es, x1, hL, c, nd, bd, p0, pb, l0, lk⟩ => ?_)⟩
    · subst es e ex
      obtain ⟨nx, hnx, n0, nb⟩ := hp.is.get (i := pt.toNat) (by omega)
      have ll := bd_len nd bd
      walk_at "sx"
      refine ⟨rfl, ite2 (fun d => ?_) (fun d => ?_)⟩
      · have d : pt ≠ x := fun h => by
          rw [decide_eq_true h] at d
          cases d
        have hm : pt ∉ L := fun h => d (c.back hp.is nd bd h)
        have l1 := lk d
        simp only [tBM, rAppend]
        walk_at "sx"
        refine ⟨.inl ⟨rfl, _, sl_at hL⟩, _, hL, by rw [List.length_map]; exact small1000 (by omega), p.map V.int, (x1.own nl).t (.inl (.inl hp.at_)), .int nx, at_int p0 hnx, _, L ++ [pt], nx, ⟨rfl, rfl⟩, x1.own nl, by rw [upd_same, List.map_append]; rfl, c.step hnx, nd_more nd hm, bd_more bd p0 pb, n0, nb, by rw [List.length_append]; omega, fun _ => by rw [List.length_append, l1]; rfl⟩
      · have d : pt = x := by
          apply Classical.byContradiction
          intro h
          exact d (by rw [decide_eq_false h]; rfl)
        exact ⟨_, L, pt, ⟨rfl, rfl⟩, x1, hL, c, nd, bd, p0, pb, l0, fun h => absurd d h⟩
    · subst es
      have e : pt = x := by
        apply Classical.byContradiction
        intro g
        have l1 := lk g
        by_cases hm : pt ∈ L
        · exact g (c.back hp.is nd bd hm)
        · have l2 := bd_len (nd_more nd hm) (bd_more bd p0 pb)
          rw [List.length_append] at l2
          have l2 : L.length + 1 ≤ n := l2
          omega
      subst e
      have hd := c.hd
      rw [List.getElem?_append_left l0] at hd
      walk_at "sx"
      exact z l _ L x1 (c.turn l0) nd hd bd hL
theorem ok__law_power (T : TX K mg base) : FnOk P w K mg base CX0 2 (He.ga K "_law_power") (fdK K "_law_power") ["p", "exponent"] spLawPowerN := by
  refine T.F__law_power.ok sc_law_power (fun vs H Q E h => ?_) (fun cdv A outer s H vs Q E hr h => ?_)
  · obtain ⟨a, n, p, e, rfl, _⟩ := h
    rfl
  · obtain ⟨a, n, p, e, rfl, hp, h12, z⟩ := h
    refine ⟨_, (pss_cons (ps_set (i := 2) sc_law_power.nd rfl (.inl rfl) (pe_lst pa_nil))
      (pss_cons (ps_for PassesOwn.never rfl (pi_range1 (by rfl) T.n_range (pa_cons (pe_callB (lenS (K := K) rfl) (by rfl) T.n_len PySem.boot_len (pa_cons (pv 0) pa_nil)) pa_nil)) (pg_name (i := 3) sc_law_power.nd rfl (.inl rfl)) (pss_cons (ps_set (i := 4) sc_law_power.nd rfl (.inl rfl) (pe_call (ok__law_ring T) hr (by rfl) T.g__law_ring T.F__law_ring.kp T.b__law_ring .nil pass0 (pa_cons (pv 0) (pa_cons (pv 3) pa_nil))))
      (pss_one (ps_expr (pe_bm PySem.F.plainAttrs_list PySem.F.slot_list_append PySem.F.type_list_append mt_append (pv 2) (pa_cons (pe_ix (ixL (K := K) rfl) (pv 4) (pe_op op_mod (pe_callTy call_int1 (by rfl) T.n_int boot_int (pa_cons (pv 1) pa_nil)) (pe_callB (lenS (K := K) rfl) (by rfl) T.n_len PySem.boot_len (pa_cons (pv 4) pa_nil))) (fun _ _ => rfl)) pa_nil))))))
      (pss_one (ps_ret (pe_tupK (K := K) rfl (by rfl) T.n_tuple (pv 2)))))), ?_⟩
    walk_at "sx"
    have hlp : (p.map V.int).length = n := by rw [List.length_map, hp.is.len]
    have hq := pwL_pm hp.is e
    refine ⟨Nat.zero_le _, fun l nl => ?_⟩
    have xl : Ex H (upd H l (.lst [])) := Ex.new nl
    refine ⟨.ref a, rfl, a, rfl, p.map V.int, .inr (xl.t (.inl (.inl hp.at_))), (n : Int), by rw [hlp], by omega, by omega, for_it walk_range (fun i σ H1 => ∃ y3 y4, σ = [some (.ref a), some (.int e), some (.ref l), y3, y4] ∧ Ex H H1 ∧ H1 l = some (.lst (((pwL n p e).take i).map V.int)))
      ⟨none, none, rfl, xl, upd_same⟩ (fun _ _ _ _ _ => trivial) (fun i x σ H1 H2 hi ⟨y3, y4, es, x1, hl⟩ ⟨e1, ex⟩ => ?_) (fun σ H1 ⟨y3, y4, es, x1, hl⟩ => ?_)⟩
    · subst es e1 ex
      rw [show ((n : Nat) : Int).toNat = n by omega] at hi
      walk_at "sx"
      refine ⟨a, n, p, 0 + (i : Int), rfl, hp.ex x1, h12, by omega, by omega, fun c H3 r x3 tr nd hd bd hc => ?_⟩
      have hl3 := x3.i hl
      have hr0 : r[0]? = some (0 + (i : Int)) := hd
      have hpw := Turn.pw hp.is tr bd hr0 e
      rw [Nat.zero_add, show (0 + (i : Int)).toNat = i by omega] at hpw
      have hm : e % r.length < r.length := Nat.mod_lt _ tr.ne
      have hv := List.getElem?_eq_getElem hm
      simp only [tBM, rAppend]
      walk_at "sx"
      have hat : atI (r.map V.int) ((e : Int) % (((r.map V.int).length : Nat) : Int)) = some (.int r[e % r.length]) := by
        rw [List.length_map, ← Int.natCast_emod]
        exact atI_nat (by rw [List.getElem?_map, hv]; rfl)
      have l3 : ((pwL n p e).take i).length ≤ 12 := by rw [List.length_take, hq.len]; omega
      refine ⟨.inl ⟨rfl, _, sl_at hl3⟩, r.map V.int, .inl (sl_at hc), by rw [List.length_map]; have := tr.ne; omega, r.map V.int, sl_at hc, _, hat, _, hl3, by rw [List.length_map]; exact small1000 (by omega), _, _, ⟨rfl, rfl⟩, (x1.trans x3).own nl, ?_⟩
      rw [upd_same, List.take_add_one, hpw, hv, List.map_append]
      rfl
    · subst es
      rw [show ((n : Nat) : Int).toNat = n by omega, List.take_of_length_le (by rw [hq.len]; exact Nat.le_refl _)] at hl
      walk_at "sx"
      exact .inl ⟨_, sl_at hl, fun c nc => z c _ (x1.trans (Ex.new nc)) ⟨upd_same, hq⟩⟩
theorem ok__law_divisor (T : TX K mg base) : FnOk P w K mg base CX0 1 (He.ga K "_law_divisor") (fdK K "_law_divisor") ["size", "exponent"] spDivisor := by
  refine T.F__law_divisor.ok sc_law_divisor (fun vs H Q E h => ?_) (fun cdv A outer s H vs Q E hr h => ?_)
  · obtain ⟨l, e, rfl, _⟩ := h
    rfl
  · obtain ⟨l, e, rfl, l1, l12, he, z⟩ := h
    refine ⟨_, (pss_cons (ps_set (i := 2) sc_law_divisor.nd rfl (.inl rfl) pe_int)
      (pss_cons (ps_for PassesOwn.never rfl (piL (K := K) rfl (pe_lst (pa_cons pe_int (pa_cons pe_int (pa_cons pe_int (pa_cons pe_int (pa_cons pe_int pa_nil))))))) (pg_name (i := 3) sc_law_divisor.nd rfl (.inl rfl)) (pss_one (ps_for PassesOwn.never rfl (pi_range1 (by rfl) T.n_range (pa_cons pe_int pa_nil)) (pg_name (i := 4) sc_law_divisor.nd rfl (.inl rfl)) (pss_one (ps_if (PW.pt (pw_and (pt_cmpR op_eq (pe_op op_mod (pv 0) (pv 3)) pe_int (nomark _)) (pw_and1 (pt_cmpR op_eq (pe_op op_mod (pe_callTy call_int1 (by rfl) T.n_int boot_int (pa_cons (pv 1) pa_nil)) (pe_op op_mul (pv 2) (pv 3))) pe_int (nomark _))))) (pss_one (ps_set (i := 2) sc_law_divisor.nd rfl (.inl rfl) (pe_op op_mul (pv 2) (pv 3)))) pss_nil)))))
      (pss_one (ps_ret (pv 2))))), ?_⟩
    walk_at "sx"
    refine ⟨by show 5 ≤ sizeLine; decide, fun D nD => ?_⟩
    refine ⟨D, rfl, ⟨_, sl_new⟩, for_it (walk_list (xs := [V.int 2, .int 3, .int 5, .int 7, .int 11])) (fun i σ H1 => ∃ y3 y4, σ = [some (.int l), some (.int e), some (.int ((dvP (prs.take i) l e : Nat) : Int)), y3, y4] ∧ Ex H H1 ∧ H1 D = some (.lst [V.int 2, .int 3, .int 5, .int 7, .int 11]))
      ⟨none, none, rfl, Ex.new nD, upd_same⟩ (fun i σ H1 _ ⟨_, _, _, _, h⟩ => sl_at h) (fun i x σ H1 H2 hi ⟨y3, y4, es, x1, hD⟩ ⟨e1, hx⟩ => ?_) (fun σ H1 ⟨y3, y4, es, x1, _⟩ => ?_)⟩
    · subst es e1
      have hi : i < 5 := hi
      obtain ⟨q, hq, q2, q11, hc, et⟩ := prs_get hi
      have ex : x = .int q := by
        obtain rfl | rfl | rfl | rfl | rfl : i = 0 ∨ i = 1 ∨ i = 2 ∨ i = 3 ∨ i = 4 := by omega
        all_goals (cases hq; exact (Option.some.inj hx).symm)
      subst ex
      obtain ⟨h1, h2⟩ := dvP_cop he l i (by omega)
      have c := h2 q hc
      have es := dvP_snoc (prs.take i) q l e
      rw [← et] at es
      generalize dvP (prs.take i) l e = B at h1 c es
      refine ⟨12, rfl, by omega, by omega, for_it walk_range (fun t σ H3 => ∃ y4 m, σ = [some (.int l), some (.int e), some (.int ((B * q ^ m : Nat) : Int)), some (.int q), y4] ∧ Ex H H3 ∧ H3 D = some (.lst [V.int 2, .int 3, .int 5, .int 7, .int 11]) ∧ (l % q ≠ 0 → m = 0) ∧ (l % q = 0 → q ^ m ∣ e ∧ (m = t ∨ ¬ q ^ (m + 1) ∣ e)))
        ⟨y4, 0, by rw [Nat.pow_zero, Nat.mul_one]; rfl, x1, hD, fun _ => rfl, fun _ => ⟨by rw [Nat.pow_zero]; exact Nat.one_dvd _, .inl rfl⟩⟩ (fun _ _ _ _ _ => trivial) (fun t u σ H3 H4 ht ⟨y4, m, es, x3, hD3, m0, mk⟩ ⟨e, ex⟩ => ?_) (fun σ H3 ⟨y4, m, es3, x3, hD3, m0, mk⟩ => ?_)⟩
      · subst es e ex
        walk_at "sx"
        refine ⟨by omega, rfl, ?_⟩
        rw [mod_dvd]
        by_cases cl : q ∣ l
        · have lq := Nat.mod_eq_zero_of_dvd cl
          obtain ⟨md, mt⟩ := mk lq
          have m11 := he.k11 q2 q11 md
          have b0 : 0 < B := Nat.pos_of_dvd_of_pos h1 he.pos
          have p0 : 0 < B * q ^ m * q := Nat.mul_pos (Nat.mul_pos b0 (Nat.pow_pos (by omega))) (by omega)
          rw [decide_eq_true cl]
          refine iteT ⟨.inr ⟨by omega, by omega⟩, by rw [← Int.natCast_mul]; exact Int.ofNat_lt.mpr p0, rfl, ?_⟩
          rw [← Int.natCast_mul, mod_dvd, Nat.mul_assoc, ← Nat.pow_succ]
          by_cases ce : q ^ (m + 1) ∣ e
          · rw [decide_eq_true ((cop_dvd h1 c).mpr ce)]
            refine iteT ⟨.inr ⟨by omega, by omega⟩, _, m + 1, ⟨rfl, rfl⟩, x3, hD3, fun h => absurd lq h, fun _ => ⟨ce, .inl ?_⟩⟩
            · rcases mt with rfl | z
              · rfl
              · exact absurd ce z
          · rw [decide_eq_false (fun h => ce ((cop_dvd h1 c).mp h))]
            exact iteF ⟨_, m, ⟨rfl, rfl⟩, x3, hD3, m0, fun _ => ⟨md, .inr ce⟩⟩
        · have lq : ¬ l % q = 0 := fun h => cl (Nat.dvd_of_mod_eq_zero h)
          rw [decide_eq_false cl]
          exact iteF ⟨_, m, ⟨rfl, rfl⟩, x3, hD3, m0, fun h => absurd h lq⟩
      · subst es3
        refine ⟨some (.int q), y4, ?_, x3, hD3⟩
        rw [es]
        by_cases cl : l % q = 0
        · obtain ⟨md, mt⟩ := mk cl
          have m11 := he.k11 q2 q11 md
          rw [if_pos cl, gpN_pow q2 12 e m md (mt.resolve_left (by omega)) (by omega)]
        · rw [if_neg cl, m0 cl, Nat.pow_zero, Nat.mul_one]
    · subst es
      walk_at "sx"
      exact z H1 x1
theorem twoL {G : Addr → Hp → Prop} {A : Prop} {H : Hp} {mo : Nat} (rest : ∀ (f : Addr) (H2 : Hp) (L : List Int) (m : Nat), Ex H H2 → H2 f = some (.lst (L.map V.int)) → IsPm m L → 1 ≤ m → m ≤ mo → G f H2) (k : (∀ (f : Addr) (H2 : Hp) (L : List Int) (m : Nat), Ex H H2 → H2 f = some (.lst (L.map V.int)) → IsPm m L → 1 ≤ m → m ≤ mo → G f H2) → A) : A := k rest
theorem ok__law_blocks (T : TX K mg base) : FnOk P w K mg base CX0 3 (He.ga K "_law_blocks") (fdK K "_law_blocks") ["row", "most"] (spBlocksM K) := by
  refine T.F__law_blocks.ok sc_law_blocks (fun vs H Q E h => ?_) (fun cdv A outer s H vs Q E hr h => ?_)
  · obtain ⟨r, s, ns, m, rfl, _⟩ := h
    rfl
  · obtain ⟨r, s0, ns, mo, rfl, hR, hS, mo1, mo12, z⟩ := h
    refine ⟨_, (pss_cons (ps_par (i := 3) (j := 4) rfl sc_law_blocks.nd rfl rfl (by decide) rfl rfl (pa_cons (pe_lst pa_nil) (pa_cons (pe_lst (pa_cons (pe_op op_add pe_int (pe_call (ok__law_taken T) (hr.mono (by decide)) (by rfl) T.g__law_taken T.F__law_taken.kp T.b__law_taken .nil pass0 (pa_cons (pv 0) (pa_cons pe_int pa_nil)))) (pa_cons (pe_op op_add pe_int (pe_call (ok__law_taken T) (hr.mono (by decide)) (by rfl) T.g__law_taken T.F__law_taken.kp T.b__law_taken .nil pass0 (pa_cons (pv 0) (pa_cons pe_int pa_nil)))) pa_nil))) pa_nil)) (by with_unfolding_all rfl))
      (pss_cons (ps_for PassesOwn.never rfl (pi_range1 (by rfl) T.n_range (pa_cons pe_int pa_nil)) (pg_name (i := 2) sc_law_blocks.nd rfl (.inl rfl)) (pss_cons (ps_set (i := 5) sc_law_blocks.nd rfl (.inr rfl) (pe_call (ok__law_pick T) hr (by rfl) T.g__law_pick T.F__law_pick.kp T.b__law_pick .nil pass0 (pa_cons (pv 0) (pa_cons (pv 4) pa_nil))))
      (pss_one (ps_if (pt_cmpR op_le (pe_op op_add (pe_callB (lenS (K := K) rfl) (by rfl) T.n_len PySem.boot_len (pa_cons (pv 3) pa_nil)) (pv 5)) (pv 1) (nomark _)) (pss_cons (ps_set (i := 6) sc_law_blocks.nd rfl (.inr rfl) (pe_callB (lenS (K := K) rfl) (by rfl) T.n_len PySem.boot_len (pa_cons (pv 3) pa_nil)))
      (pss_one (ps_set (i := 3) sc_law_blocks.nd rfl (.inl rfl) (pe_op op_cat (pv 3) (pe_lc (own := [("at", 7)]) (g := gName 7) (tt := tYes) rfl sc_law_blocks.nd (pi_range1 (by rfl) T.n_range (pa_cons (pv 5) pa_nil)) (blkOk_by (N := ["row", "most", "turn", "found", "sizes", "size", "begin", "at"]) (sc := defScope s_law_blocks) (by decide +kernel)) (fun _ _ _ _ _ => (pg_name (i := 7) sc_law_blocks.nd rfl (.inl rfl))) (fun _ _ _ _ _ => pts_nil) (fun _ _ _ _ _ => (pe_op op_add (pv 6) (pe_op op_mod (pe_op op_add (pv 7) pe_int) (pv 5))))))))) pss_nil))))
      (pss_cons (ps_set (i := 3) sc_law_blocks.nd rfl (.inl rfl) (pe_ifExp (pt_cmpR (neD (K := K) rfl hr) (pv 3) (pe_lst pa_nil) (nomark _)) (pv 3) (pe_lst (pa_cons pe_int pa_nil))))
      (pss_one (ps_ret (pe_call (ok__law_conj T) hr (by rfl) T.g__law_conj T.F__law_conj.kp T.b__law_conj .nil pass0 (pa_cons (pe_tupK (K := K) rfl (by rfl) T.n_tuple (pv 3)) (pa_cons (pe_call (ok__law_perm T) hr (by rfl) T.g__law_perm T.F__law_perm.kp T.b__law_perm .nil pass0 (pa_cons (pv 0) (pa_cons (pe_callB (lenS (K := K) rfl) (by rfl) T.n_len PySem.boot_len (pa_cons (pv 3) pa_nil)) pa_nil))) pa_nil)))))))), ?_⟩
    walk_at "sx"
    refine ⟨Nat.zero_le _, fun l nl => ?_⟩
    have xl : Ex H (upd H l (.lst [])) := Ex.new nl
    refine ⟨r, s0, 4, ns, rfl, xl.row _ _ hR, xl.l ints_norow hS, by omega, by omega, fun j1 Ha xa hj1 => ⟨j1, rfl, ?_⟩⟩
    have xla := xl.trans xa
    refine ⟨r, s0, 6, ns, rfl, xla.row _ _ hR, xla.l ints_norow hS, by omega, by omega, fun j2 Hb xb hj2 => ⟨j2, rfl, by show 2 ≤ sizeLine; decide, fun sz nsz => ⟨_, _, ⟨rfl, rfl⟩, ?_⟩⟩⟩
    have xs : Ex Hb (upd Hb sz (.lst [.int (1 + (j1 : Int)), .int (1 + (j2 : Int))])) := Ex.new nsz
    have x0 := (xla.trans xb).trans xs
    have hsz : upd Hb sz (.lst [.int (1 + (j1 : Int)), .int (1 + (j2 : Int))]) sz = some (.lst (([1 + (j1 : Int), 1 + (j2 : Int)] : List Int).map V.int)) := upd_same
    have hl0 := (xa.trans xb |>.trans xs).st _ _ (show upd H l (.lst []) l = some (.lst []) from upd_same) nil_norow
    generalize upd Hb sz (.lst [.int (1 + (j1 : Int)), .int (1 + (j2 : Int))]) = Hc at xs x0 hsz hl0 ⊢
    refine ⟨6, rfl, by omega, by omega, for_it walk_range (fun i σ H1 => ∃ y2 y5 y6 y7 f L m, σ = [some (.ref r), some (.int mo), y2, some (.ref f), some (.ref sz), y5, y6, y7] ∧ Ex Hc H1 ∧ H1 f = some (.lst (L.map V.int)) ∧ IsPm m L ∧ m ≤ mo)
      ⟨none, none, none, none, l, [], 0, rfl, .refl _, hl0, ⟨rfl, List.nodup_nil, (fun _ h => by cases h)⟩, by omega⟩ (fun _ _ _ _ _ => trivial) (fun i x σ H1 H2 hi ⟨y2, y5, y6, y7, f, L, m, es, x1, hf, hP, mm⟩ ⟨e, ex⟩ => ?_) (fun σ H1 ⟨y2, y5, y6, y7, f, L, m, es, x1, hf, hP, mm⟩ => ?_)⟩
    · subst es e ex
      have hlf : (L.map V.int).length = m := by rw [List.length_map, hP.len]
      walk_at "sx"
      refine ⟨r, s0, sz, ns, [1 + (j1 : Int), 1 + (j2 : Int)], rfl, x1.row _ _ (x0.row _ _ hR), x1.l ints_norow (x0.l ints_norow hS), x1.i hsz, by show 1 ≤ 2; decide, by show 2 ≤ 1000; decide, fun si H3 x3 hsi => ?_⟩
      obtain ⟨s, rfl, s1, s6⟩ : ∃ s : Nat, si = s ∧ 1 ≤ s ∧ s ≤ 6 := by
        rcases List.mem_cons.mp hsi with h | h
        · exact ⟨1 + j1, by rw [h]; omega, by omega, by omega⟩
        · exact ⟨1 + j2, by rw [List.mem_singleton.mp h]; omega, by omega, by omega⟩
      have x13 := x1.trans x3
      have hf3 := x3.i hf
      refine ⟨L.map V.int, .inl (sl_at hf3), ?_⟩
      rw [hlf]
      refine ⟨s, rfl, ite2 (fun d => ?_) (fun d => ?_)⟩
      · have d := of_decide_eq_true d
        refine ⟨L.map V.int, .inl (sl_at hf3), ?_⟩
        rw [hlf]
        refine ⟨.int s, rfl, s, rfl, by omega, by omega, fun D nD => ?_⟩
        have ens : ((s : Nat) : Int).toNat = s := by omega
        refine lc_it walk_range (fun k H4 => Ex H3 H4 ∧ H4 D = some (.lst ((blockI m s k).map V.int))) ⟨Ex.new nD, upd_same⟩ (fun _ _ _ _ => trivial) (fun k x H4 H5 hk ⟨x4, hD⟩ ⟨e, ex⟩ => ?_) (fun H4 ⟨x4, hD⟩ => ?_)
        · subst e ex
          rw [ens] at hk
          refine ⟨rfl, yesI ?_⟩
          walk_at "sx"
          refine ⟨by omega, _, hD, ?_, x4.own nD, ?_⟩
          · unfold blockI
            rw [List.length_map, List.length_map, List.length_range]
            exact small1000 (by omega)
          · have ev : (m : Int) + (0 + (k : Int) + 1) % (s : Int) = ((m + (k + 1) % s : Nat) : Int) := by
              rw [Int.natCast_add, Int.natCast_emod, Int.natCast_add, Int.zero_add]
              rfl
            rw [upd_same, ev]
            unfold blockI
            rw [List.range_succ, List.map_append, List.map_append]
            rfl
        · rw [ens] at hD
          have hP2 := block_pm hP s1
          have l2 := hP2.len
          rw [List.length_append] at l2
          refine ⟨f, D, L.map V.int, (blockI m s s).map V.int, rfl, rfl, x4.i hf3, hD, by rw [List.length_map, List.length_map]; exact Nat.le_of_lt (small1000 (by omega)), fun g ng => ?_⟩
          exact ⟨_, _, _, _, g, ⟨rfl, rfl, rfl, rfl, rfl⟩, (x13.trans x4).trans (Ex.new ng), L ++ blockI m s s, by rw [upd_same, List.map_append], m + s, hP2, by omega⟩
      · exact ⟨_, _, _, _, f, ⟨rfl, rfl, rfl, rfl, rfl⟩, x13, L, hf3, m, hP, mm⟩
    · subst es
      walk_at "sx"
      have fin : ∀ (f2 : Addr) (H2 : Hp) (L2 : List Int) (m2 : Nat), Ex Hc H2 → H2 f2 = some (.lst (L2.map V.int)) → IsPm m2 L2 → 1 ≤ m2 → m2 ≤ mo → ∀ q, H2 q = none → ∃ x1, (SqL K (upd H2 q (.tup (L2.map V.int))) f2 x1 ∨ SqT K (upd H2 q (.tup (L2.map V.int))) f2 x1) ∧ spLawPerm K [.ref r, .int (x1.length : Nat)] (upd H2 q (.tup (L2.map V.int))) (fun x H1 => spLawConj [.ref q, x] H1 Q E0) E0 := fun f2 H2 L2 m2 x2 hf2 hP2 m1 mm2 q nq => by
        have xq := x2.trans (Ex.new (o := .tup (L2.map V.int)) nq)
        refine ⟨L2.map V.int, .inl (sl_at (by rw [upd_ne (ne_of_none hf2 nq)]; exact hf2)), r, s0, m2, ns, by rw [List.length_map, hP2.len], xq.row _ _ (x0.row _ _ hR), xq.l ints_norow (x0.l ints_norow hS), m1, by omega, fun g H3 pg x3 hg => ?_⟩
        have hq : Pm H3 q m2 L2 := ⟨x3.st _ _ upd_same trivial, hP2⟩
        exact ⟨q, g, m2, L2, pg, rfl, hq, hg, by omega, fun c H4 u x4 hu _ => z c H4 m2 u (((x0.trans xq).trans x3).trans x4) m1 mm2 hu⟩
      refine ⟨Nat.zero_le _, fun e0 ne0 => ?_⟩
      have xe : Ex H1 (upd H1 e0 (.lst [])) := Ex.new ne0
      refine ⟨.list (L.map PyData.int), .list [], dp_ints (xe.i hf), dp_nil upd_same, PySem.W.ke_shaped_ints _, PySem.W.ke_shaped_ints [], ?_⟩
      rw [show (PyData.list []) = .list (([] : List Int).map PyData.int) from rfl, eqvL_ints]
      refine ⟨_, rfl, ite2 (fun c => ?_) (fun c => ?_)⟩
      · have m1 : 1 ≤ m := by
          cases L with
          | nil => cases c
          | cons a L =>
            have := hP.len
            rw [List.length_cons] at this
            omega
        exact .inl ⟨_, sl_at (xe.i hf), fun q nq => fin f _ L m (x1.trans xe) (xe.i hf) hP m1 mm q nq⟩
      · refine ⟨by show 1 ≤ sizeLine; decide, fun g ng => ?_⟩
        have xg := (x1.trans xe).trans (Ex.new (o := .lst [V.int 0]) ng)
        exact .inl ⟨[V.int 0], sl_new, fun q nq => fin g _ [0] 1 xg upd_same ⟨rfl, by decide, by decide⟩ (by omega) mo1 q nq⟩
theorem ok__law_judged (T : TX K mg base) : FnOk P w K mg base CX0 10 (He.ga K "_law_judged") (fdK K "_law_judged") ["p", "exponent"] (spJudged K) := by
  refine T.F__law_judged.ok sc_law_judged (fun vs H Q E h => ?_) (fun cdv A outer s H vs Q E hr h => ?_)
  · obtain ⟨a, n, e, p, rfl, _⟩ := h
    rfl
  · obtain ⟨a, n, e, p, rfl, hp, h1, h12, hT, he, z⟩ := h
    refine ⟨_, (pss_cons (ps_par (i := 4) (j := 5) rfl sc_law_judged.nd rfl rfl (by decide) rfl rfl (pa_cons (pe_call (ok_root_obstacle T) (hr.mono (by decide)) (by rfl) T.g_root_obstacle T.F_root_obstacle.kp T.b_root_obstacle .nil pass0 (pa_cons (pv 0) (pa_cons (pv 1) pa_nil))) (pa_cons (pe_call (ok_root T) hr (by rfl) T.g_root T.F_root.kp T.b_root .nil pass0 (pa_cons (pv 0) (pa_cons (pv 1) pa_nil))) pa_nil)) (by with_unfolding_all rfl))
      (pss_cons (ps_setLc (i := 2) (own := [("point", 8)]) (g := gName 8) (tt := tYes) rfl sc_law_judged.nd rfl rfl (sw_true rfl rfl rfl (by decide +kernel)) (pi_range1 (by rfl) T.n_range (pa_cons (pe_callB (lenS (K := K) rfl) (by rfl) T.n_len PySem.boot_len (pa_cons (pv 0) pa_nil)) pa_nil)) (blkOk_by (N := ["p", "exponent", "sizes", "size", "told", "found", "many", "divisor", "point"]) (sc := defScope s_law_judged) (by decide +kernel)) (fun _ _ _ _ _ => (pg_name (i := 8) sc_law_judged.nd rfl (.inl rfl))) (fun _ _ _ _ _ => pts_nil) (fun _ _ _ _ _ => (pe_callB (lenS (K := K) rfl) (by rfl) T.n_len PySem.boot_len (pa_cons (pe_call (ok__law_ring T) (hr.mono (by decide)) (by rfl) T.g__law_ring T.F__law_ring.kp T.b__law_ring .nil pass0 (pa_cons (pv 0) (pa_cons (pv 8) pa_nil))) pa_nil))))
      (pss_cons (ps_for PassesOwn.never rfl (piL (K := K) rfl (pe_callB (srtL (K := K) rfl) (by rfl) T.n_sorted (by decide +kernel) (pa_cons (pv 2) pa_nil))) (pg_name (i := 3) sc_law_judged.nd rfl (.inl rfl)) (pss_cons (ps_set (i := 6) sc_law_judged.nd rfl (.inl rfl) (pe_op op_fdivW (pe_bm PySem.F.plainAttrs_list PySem.F.slot_list_count PySem.F.type_list_count mt_lcount (pv 2) (pa_cons (pv 3) pa_nil)) (pv 3)))
      (pss_cons (ps_set (i := 7) sc_law_judged.nd rfl (.inl rfl) (pe_call (ok__law_divisor T) (hr.mono (by decide)) (by rfl) T.g__law_divisor T.F__law_divisor.kp T.b__law_divisor .nil pass0 (pa_cons (pv 3) (pa_cons (pv 1) pa_nil))))
      (pss_one (ps_if (pt_cmpR op_ne (pe_op op_mod (pv 6) (pv 7)) pe_int (nomark _)) (pss_one (ps_ret (pe_and (pe_cmpR op_isN (pv 5) pe_non (nomark _)) (pe_one (pe_call (ok__law_alike T) (hr.mono (by decide)) (by rfl) T.g__law_alike T.F__law_alike.kp T.b__law_alike .nil pass0 (pa_cons (pv 4) (pa_cons (pe_tup (pa_cons (pv 3) (pa_cons (pv 6) (pa_cons (pv 7) pa_nil)))) pa_nil))))))) pss_nil)))))
      (pss_one (ps_ret (pe_and (pe_cmpR op_isN (pv 4) pe_non (nomark _)) (pe_and (pe_call (ok__law_is_perm T) (hr.mono (by decide)) (by rfl) T.g__law_is_perm T.F__law_is_perm.kp T.b__law_is_perm .nil pass0 (pa_cons (pe_callB (lenS (K := K) rfl) (by rfl) T.n_len PySem.boot_len (pa_cons (pv 0) pa_nil)) (pa_cons (pv 5) pa_nil))) (pe_one (pe_cmpR (eqD (K := K) rfl hr) (pe_call (ok__law_power T) (hr.mono (by decide)) (by rfl) T.g__law_power T.F__law_power.kp T.b__law_power .nil pass0 (pa_cons (pv 5) (pa_cons (pv 1) pa_nil))) (pv 0) (nomark _)))))))))), ?_⟩
    walk_at "sx"
    have hlp : (p.map V.int).length = n := by rw [List.length_map, hp.is.len]
    refine ⟨a, n, e, p, rfl, hp, h1, h12, hT, he, fun v H1 R x1 hF told => ?_⟩
    refine ⟨a, n, e, p, rfl, hp.ex x1, h1, h12, x1.tab _ hT, he, fun v2 H2 R2 x2 hF2 rt => ?_⟩
    have eR : R2 = R := hF2.uniq hp.is hF
    subst eR
    have told := told.ex x2
    have x12 := x1.trans x2
    refine ⟨_, _, ⟨rfl, rfl⟩, ?_⟩
    have hp2 := hp.ex x12
    refine ⟨.ref a, rfl, a, rfl, p.map V.int, .inr (.inl (.inl hp2.at_)), (n : Int), by rw [hlp], by omega, by omega, fun D nD => ?_⟩
    refine lc_it walk_range (fun i H3 => Ex H2 H3 ∧ H3 D = some (.lst ((((szL n R2).take i).map Int.ofNat).map V.int))) ⟨Ex.new nD, upd_same⟩ (fun _ _ _ _ => trivial) (fun i x H3 H4 hi ⟨x3, hD⟩ ⟨e1, ex⟩ => ?_) (fun H3 ⟨x3, hD⟩ => ?_)
    · subst e1 ex
      rw [show ((n : Nat) : Int).toNat = n by omega] at hi
      refine ⟨rfl, yesI ?_⟩
      walk_at "sx"
      refine ⟨a, n, p, 0 + (i : Int), rfl, hp2.ex x3, h12, by omega, by omega, fun c H5 r x5 tr nd hd bd hc => ?_⟩
      have rs := ring_sz hp.is hF ⟨tr, nd, hd, bd⟩ (by omega) (by omega)
      rw [Int.zero_add] at rs
      have hD5 := x5.i hD
      refine ⟨c, rfl, r.map V.int, .inl (sl_at hc), _, hD5, ?_, (x3.trans x5).own nD, ?_⟩
      · rw [List.length_map, List.length_map, List.length_take]
        exact small1000 (by omega)
      · rw [upd_same, szL_take hi, List.map_append, List.map_append, List.length_map, rs]
        rfl
    rw [show ((n : Nat) : Int).toNat = n by omega, List.take_of_length_le (by rw [szL_len]; exact Nat.le_refl _)] at hD
    refine ⟨.ref D, rfl, D, (szL n R2).map Int.ofNat, rfl, sl_at hD, fun ms q pm so nq => ?_⟩
    have xq : Ex H3 (upd H3 q (.lst (ms.map V.int))) := Ex.new nq
    have hq : upd H3 q (.lst (ms.map V.int)) q = some (.lst (ms.map V.int)) := upd_same
    have hDq := xq.i hD
    generalize upd H3 q (.lst (ms.map V.int)) = H4 at xq hq hDq ⊢
    have x24 := x3.trans xq
    have hml : (ms.map V.int).length = n := by rw [List.length_map, pm.length_eq, List.length_map, szL_len]
    have mm : ∀ l : Nat, ((l : Nat) : Int) ∈ ms ↔ l ∈ lensN R2 := fun l => by
      rw [pm.mem_iff, ← szL_mem hF]
      exact ⟨fun h => by
        obtain ⟨k, hk, ek⟩ := List.mem_map.mp h
        rw [← Int.ofNat.inj ek]
        exact hk, fun h => List.mem_map.mpr ⟨l, h, rfl⟩⟩
    refine ⟨q, rfl, ⟨_, sl_at hq⟩, for_it (walk_list (xs := ms.map V.int)) (fun i σ H5 => ∃ y3 y6 y7, σ = [some (.ref a), some (.int e), some (.ref D), y3, some v, some v2, y6, y7, none] ∧ Ex H4 H5 ∧ ∀ l : Nat, ((l : Nat) : Int) ∈ ms.take i → cnt R2 l % dvN l e = 0)
      ⟨none, none, none, rfl, .refl _, fun l hl => by rw [List.take_zero] at hl; cases hl⟩ (fun i σ H5 _ ⟨_, _, _, _, x5, _⟩ => sl_at (x5.i hq)) (fun i x σ H5 H6 hi ⟨y3, y6, y7, es, x5, fr⟩ ⟨e1, hx⟩ => ?_) (fun σ H5 ⟨y3, y6, y7, es, x5, fr⟩ => ?_)⟩
    · subst es e1
      rw [hml] at hi
      have hm : ms[i]? = some (ms[i]'(by rw [← List.length_map (f := V.int), hml]; exact hi)) := List.getElem?_eq_getElem _
      have mi := List.mem_of_getElem? hm
      obtain ⟨l, hl, el⟩ := List.mem_map.mp (pm.mem_iff.mp mi)
      rw [← el] at hm mi
      have el : Int.ofNat l = ((l : Nat) : Int) := rfl
      rw [el] at hm mi
      have lm := (mm l).mp mi
      have ex : x = .int (l : Nat) := by
        rw [List.getElem?_map, hm] at hx
        exact (Option.some.inj hx).symm
      subst ex
      have bd := lens_bd hF lm
      walk_at "sx"
      simp only [tBM, rCntI]
      walk_at "sx"
      have cn : ((szL n R2).map Int.ofNat).count ((l : Nat) : Int) = l * cnt R2 l := by rw [count_nat, szL_count hF]; rfl
      have l0 : 1 ≤ l := bd.1
      have quo : ((((szL n R2).map Int.ofNat).count ((l : Nat) : Int) : Nat) : Int) / ((l : Nat) : Int) = ((cnt R2 l : Nat) : Int) := by
        rw [cn, ← Int.natCast_ediv, Nat.mul_div_cancel_left _ l0]
      have hD6 := x5.i hDq
      refine ⟨.inl ⟨rfl, _, sl_at hD6⟩, _, sl_at hD6, ⟨by omega, ?_⟩, l, e, rfl, l0, by omega, he, fun H7 x7 => ?_⟩
      · have a1 := Nat.log2_le_self (((l : Nat) : Int).natAbs)
        have a2 := Nat.log2_le_self (((((szL n R2).map Int.ofNat).count ((l : Nat) : Int) : Nat) : Int).natAbs)
        omega
      have dp := dvN_pos he l
      refine ⟨_, rfl, Int.ofNat_lt.mpr dp, ?_⟩
      rw [quo, mod_dvd]
      refine ⟨rfl, ?_⟩
      have et : ms.take (i + 1) = ms.take i ++ [((l : Nat) : Int)] := by rw [List.take_add_one, hm]; rfl
      by_cases g : dvN l e ∣ cnt R2 l
      · rw [decide_eq_true g]
        refine iteF ⟨_, _, _, ⟨rfl, rfl, rfl⟩, x5.trans x7, fun k hk => ?_⟩
        rw [et] at hk
        rcases List.mem_append.mp hk with h | h
        · exact fr k h
        · rw [Int.ofNat.inj (List.mem_singleton.mp h)]
          exact Nat.mod_eq_zero_of_dvd g
      · have g0 : cnt R2 l % dvN l e ≠ 0 := fun h => g (Nat.dvd_of_mod_eq_zero h)
        have nf : ¬ FreeR e R2 := fun f => g0 (f l lm)
        have ev2 : v2 = .non := rt.elim (fun h => h.1) (fun ⟨_, _, _, _, _, f⟩ => absurd f nf)
        rw [decide_eq_false g]
        refine iteT ?_
        rw [decide_eq_true ev2]
        refine iteT ⟨by show 3 ≤ sizeLine; decide, fun t' nt' => ?_⟩
        rcases told with ⟨_, f⟩ | ⟨t, d, ev, ht, dm, dbad, dmin⟩
        · exact absurd f nf
        have ed : d = l := by
          rcases Nat.lt_trichotomy d l with c | c | c
          · have w := take_lt (lt := fun a b : Int => a < b) (so.imp fun h => by omega) (Int.lt_irrefl _) hm ((mm d).mpr dm) (Int.ofNat_lt.mpr c)
            exact absurd (fr d w) dbad
          · exact c
          · exact absurd (dmin l lm c) g0
        subst ed
        have x8 := ((x24.trans x5).trans x7).trans (Ex.new (o := .tup [.int (d : Nat), .int ((cnt R2 d : Nat) : Int), .int ((dvN d e : Nat) : Int)]) nt')
        refine ⟨t, t', [((d : Nat) : Int), ((cnt R2 d : Nat) : Int), ((dvN d e : Nat) : Int)], by rw [ev], x8.st _ _ ht trivial, upd_same, by show 3 ≤ 1000; decide, fun H9 x9 => z H9 ((x12.trans x8).trans x9)⟩
    · subst es
      walk_at "sx"
      rw [hml, ← hml, List.length_map, List.take_length] at fr
      have free : FreeR e R2 := fun l hl => fr l ((mm l).mpr hl)
      have ev : v = .non := told.elim (fun h => h.1) (fun ⟨t, d, _, _, dm, bad, _⟩ => absurd (free d dm) bad)
      rw [decide_eq_true ev]
      rcases rt with ⟨_, nf⟩ | ⟨c, g, ev2, hg, pw, _⟩
      · exact absurd free nf
      have x25 := x24.trans x5
      have hg5 := hg.ex x25
      have hp5 := hp2.ex x25
      refine iteT ⟨p.map V.int, .inr (.inl (.inl hp5.at_)), c, n, g, by rw [hlp, ev2], hg5, by omega, fun H6 x6 => ⟨_, rfl, iteT ⟨c, n, g, e, by rw [ev2], hg5.ex x6, h12, fun c2 H7 x7 hc2 => ?_⟩⟩⟩
      have hp7 := (hp5.ex x6).ex x7
      refine ⟨.tuple ((pwL n g e).map PyData.int), .tuple (p.map PyData.int), dpT_ints hc2.at_, dpT_ints hp7.at_, shapedT_ints _, shapedT_ints _, ?_⟩
      rw [eqvT_ints, pw, decide_eq_true rfl]
      exact z H7 ((x12.trans x25).trans (x6.trans x7))
end
end KL
namespace KL
open PySem PySem.Spec PyProof.Rows L2 GA GxR
local macro_rules | `(tactic| walk_at "sx") => `(tactic| simp only [L2.start, List.map_cons, List.map_nil, List.length_cons, List.length_nil, Nat.reduceAdd, Nat.reduceSub, List.replicate, List.cons_append, List.nil_append, tRet, tSeq, tNext, tIfS, tAsg, tDrop, gName, gSub, rSetL, gTup, gCons, gNil, tB, tNot, tTest, tAndV, tOrV, tNotV, tAnd, tOr, tIf, tOp, tUn, tThenZ, tThen, r1, kTyp, kTup, tVar, tC, tChain, tCB, tCons, tNil, rI0, rI, rEq, rNe, rRep, rIxT, rIxL, tCall, tTup, tLst, tTupRg, tLstRg, tRg1, tRg2, tPar, List.getElem?_cons_zero, List.getElem?_cons_succ, List.set_cons_zero, List.set_cons_succ, Option.some.injEq, exists_eq_left', exists_eq_left, V.ty.injEq, V.int.injEq, V.bl.injEq, V.ref.injEq, List.cons.injEq, and_true, true_and, wipe, exists_and_left, List.append_nil, reduceCtorEq, false_and, exists_false, false_or, or_false])
section
variable {P : Program} {w : World} {K : PySem.W.Frag} {mg : Str → Option Value} {base : Heap}
def spLaw (K : PySem.W.Frag) : Sp := fun vs H Q _ => ∃ (a : Addr) (ns : List Int), vs = [.ref a] ∧ SqL K H a (ns.map V.int) ∧ TabG H (PP K) ∧ ∀ H', Q (.bl true) H'
theorem two {G : Addr → Hp → Prop} {A : Prop} {H : Hp} {n : Nat} (rest : ∀ (ap : Addr) (H2 : Hp) (p : List Int), Ex H H2 → Pm H2 ap n p → G ap H2) (k : (∀ (ap : Addr) (H2 : Hp) (p : List Int), Ex H H2 → Pm H2 ap n p → G ap H2) → A) : A := k rest
theorem two1 {G : Addr → Hp → Prop} {A : Prop} {H : Hp} {n : Nat} {p : List Int} (rest : ∀ (ap : Addr) (H2 : Hp), Ex H H2 → Pm H2 ap n p → G ap H2) (k : (∀ (ap : Addr) (H2 : Hp), Ex H H2 → Pm H2 ap n p → G ap H2) → A) : A := k rest
theorem two2 {G : Hp → Prop} {A : Prop} {H : Hp} (rest : ∀ H2 : Hp, Ex H H2 → G H2) (k : (∀ H2 : Hp, Ex H H2 → G H2) → A) : A := k rest
theorem same0 {x y : Int} {A B : Prop} (h : x = y) (r : B) : if (!decide (x = y)) = true then A else B := by rw [decide_eq_true h]; exact iteF r
theorem ite2s {A B : Prop} {c : Bool} (h2 : ¬ c = true → B) (h1 : c = true → A) : if c = true then A else B := ite2 h1 h2
def hitB (m e : Nat) (f g : List Int) : Bool := decide (pwL m g e = f)
theorem twoN {G : Addr → Hp → Prop} {A : Prop} {H : Hp} (rest : ∀ (ap : Addr) (H2 : Hp) (n : Nat) (p : List Int), Ex H H2 → Pm H2 ap n p → 1 ≤ n → n ≤ 12 → G ap H2) (k : (∀ (ap : Addr) (H2 : Hp) (n : Nat) (p : List Int), Ex H H2 → Pm H2 ap n p → 1 ≤ n → n ≤ 12 → G ap H2) → A) : A := k rest
theorem ok_law (T : TX K mg base) : FnOk P w K mg base CX0 11 (He.ga K "law") (fdK K "law") ["script"] (spLaw K) := by
  refine T.F_law.ok sclaw (fun vs H Q E h => ?_) (fun cdv A outer s H vs Q E hr h => ?_)
  · obtain ⟨a, ns, rfl, _⟩ := h
    rfl
  · obtain ⟨a, ns, rfl, hS, hT, q⟩ := h
    refine ⟨_, (pss_cons (ps_set (i := 1) sclaw.nd rfl (.inl rfl) (pe_lst (pa_cons (pv 0) (pa_cons pe_int (pa_cons pe_int (pa_cons pe_int pa_nil))))))
      (pss_cons (ps_set (i := 2) sclaw.nd rfl (.inr rfl) (pe_call (ok__law_pick T) (hr.mono (by decide)) (by rfl) T.g__law_pick T.F__law_pick.kp T.b__law_pick .nil pass0 (pa_cons (pv 1) (pa_cons (pe_lst (pa_cons (pe_op op_add pe_int (pe_call (ok__law_taken T) (hr.mono (by decide)) (by rfl) T.g__law_taken T.F__law_taken.kp T.b__law_taken .nil pass0 (pa_cons (pv 1) (pa_cons pe_int pa_nil)))) (pa_cons pe_int (pa_cons pe_int (pa_cons pe_int (pa_cons pe_int (pa_cons pe_int (pa_cons pe_int (pa_cons (pe_op op_add pe_int (pe_call (ok__law_taken T) (hr.mono (by decide)) (by rfl) T.g__law_taken T.F__law_taken.kp T.b__law_taken .nil pass0 (pa_cons (pv 1) (pa_cons pe_int pa_nil)))) pa_nil))))))))) pa_nil))))
      (pss_cons (ps_set (i := 3) sclaw.nd rfl (.inl rfl) (pe_call (ok__law_blocks T) (hr.mono (by decide)) (by rfl) T.g__law_blocks T.F__law_blocks.kp T.b__law_blocks .nil pass0 (pa_cons (pv 1) (pa_cons pe_int pa_nil))))
      (pss_cons (ps_if (pt_cmpR op_eq (pe_call (ok__law_taken T) (hr.mono (by decide)) (by rfl) T.g__law_taken T.F__law_taken.kp T.b__law_taken .nil pass0 (pa_cons (pv 1) (pa_cons pe_int pa_nil))) pe_int (nomark _)) (pss_one (ps_set (i := 3) sclaw.nd rfl (.inl rfl) (pe_call (ok__law_power T) (hr.mono (by decide)) (by rfl) T.g__law_power T.F__law_power.kp T.b__law_power .nil pass0 (pa_cons (pe_call (ok__law_perm T) (hr.mono (by decide)) (by rfl) T.g__law_perm T.F__law_perm.kp T.b__law_perm .nil pass0 (pa_cons (pv 1) (pa_cons (pe_op op_add pe_int (pe_call (ok__law_taken T) (hr.mono (by decide)) (by rfl) T.g__law_taken T.F__law_taken.kp T.b__law_taken .nil pass0 (pa_cons (pv 1) (pa_cons pe_int pa_nil)))) pa_nil))) (pa_cons (pv 2) pa_nil))))) pss_nil)
      (pss_cons (ps_if (pt_not (pt_val (pe_call (ok__law_judged T) hr (by rfl) T.g__law_judged T.F__law_judged.kp T.b__law_judged .nil pass0 (pa_cons (pv 3) (pa_cons (pv 2) pa_nil))))) (pss_one (ps_ret pe_bl)) pss_nil)
      (pss_cons (ps_set (i := 4) sclaw.nd rfl (.inr rfl) (pe_call (ok__law_blocks T) (hr.mono (by decide)) (by rfl) T.g__law_blocks T.F__law_blocks.kp T.b__law_blocks .nil pass0 (pa_cons (pv 1) (pa_cons pe_int pa_nil))))
      (pss_cons (ps_set (i := 5) sclaw.nd rfl (.inr rfl) (pe_callB (lenS (K := K) rfl) (by rfl) T.n_len PySem.boot_len (pa_cons (pv 4) pa_nil)))
      (pss_cons (ps_set (i := 6) sclaw.nd rfl (.inl rfl) (pe_tupK (K := K) rfl (by rfl) T.n_tuple (pe_lc (own := [("at", 10)]) (g := gName 10) (tt := tYes) rfl sclaw.nd (pi_range1 (by rfl) T.n_range (pa_cons (pv 5) pa_nil)) (blkOk_by (N := ["script", "row", "exponent", "p", "few", "size", "turn", "swap", "roots", "g", "at"]) (sc := defScope slaw) (by decide +kernel)) (fun _ _ _ _ _ => (pg_name (i := 10) sclaw.nd rfl (.inl rfl))) (fun _ _ _ _ _ => pts_nil) (fun _ _ _ _ _ => (pe_op op_mod (pe_op op_add (pv 10) pe_int) (pv 5))))))
      (pss_cons (ps_set (i := 7) sclaw.nd rfl (.inl rfl) (pe_ifExp (pt_cmpR op_gt (pv 5) pe_int (nomark _)) (pe_op (catA (K := K) rfl) (pe_tup (pa_cons pe_int (pa_cons pe_int pa_nil))) (pe_tupRg rfl (by rfl) T.n_tuple (prg_2 (by rfl) T.n_range pe_int (pv 5)))) (pe_tup (pa_cons pe_int pa_nil))))
      (pss_cons (ps_setLc (i := 8) (own := [("g", 9)]) (g := gName 9)  rfl sclaw.nd rfl rfl (sw_true rfl rfl rfl (by decide +kernel)) (piL (K := K) rfl (pe_call (ok__law_closure T) (hr.mono (by decide)) (by rfl) T.g__law_closure T.F__law_closure.kp T.b__law_closure .nil pass0 (pa_cons (pv 5) (pa_cons (pe_tup (pa_cons (pv 6) (pa_cons (pv 7) pa_nil))) pa_nil)))) (blkOk_by (N := ["script", "row", "exponent", "p", "few", "size", "turn", "swap", "roots", "g", "at"]) (sc := defScope slaw) (by decide +kernel)) (fun _ _ _ _ _ => (pg_name (i := 9) sclaw.nd rfl (.inl rfl))) (fun _ _ _ _ _ => (pts_one (pt_cmpR (eqD (K := K) rfl hr) (pe_call (ok__law_power T) (hr.mono (by decide)) (by rfl) T.g__law_power T.F__law_power.kp T.b__law_power .nil pass0 (pa_cons (pv 9) (pa_cons (pv 2) pa_nil))) (pv 4) (nomark _)))) (fun _ _ _ _ _ => (pv 9)))
      (pss_cons (ps_if (PW.pt (pw_or (pt_not (pt_val (pe_call (ok__law_judged T) hr (by rfl) T.g__law_judged T.F__law_judged.kp T.b__law_judged .nil pass0 (pa_cons (pv 4) (pa_cons (pv 2) pa_nil))))) (pw_or1 (pt_cmpR op_ne (pe_cmpR op_isN (pe_call (ok_root T) (hr.mono (by decide)) (by rfl) T.g_root T.F_root.kp T.b_root .nil pass0 (pa_cons (pv 4) (pa_cons (pv 2) pa_nil))) pe_non (nomark _)) (pe_cmpR (eqD (K := K) rfl hr) (pv 8) (pe_lst pa_nil) (nomark _)) (nomark _))))) (pss_one (ps_ret pe_bl)) pss_nil)
      (pss_one (ps_ret (pe_call (ok__law_judged T) hr (by rfl) T.g__law_judged T.F__law_judged.kp T.b__law_judged .nil pass0 (pa_cons (pv 3) (pa_cons (pe_op op_mul (pv 2) (pe_op op_powB (pe_op op_powB pe_int pe_int) pe_int)) pa_nil)))))))))))))))), ?_⟩
    walk_at "sx"
    refine ⟨by show 4 ≤ sizeLine; decide, fun r nr => ?_⟩
    have xr : Ex H (upd H r (.lst [.ref a, .int 0, .int 3006, .int 0])) := Ex.new nr
    have R0 : RowAt (upd H r (.lst [.ref a, .int 0, .int 3006, .int 0])) r a := ⟨_, _, _, upd_same, by omega, by omega, by omega, by omega⟩
    generalize upd H r (.lst [.ref a, .int 0, .int 3006, .int 0]) = H0 at xr R0 ⊢
    have S0 := xr.l ints_norow hS
    have T0 := xr.tab _ hT
    refine ⟨r, a, 12, ns, rfl, R0, S0, by omega, by omega, fun j1 H1 x1 hj1 => ⟨j1, rfl, ?_⟩⟩
    refine ⟨r, a, 2520, ns, rfl, x1.row _ _ R0, x1.l ints_norow S0, by omega, by omega, fun j2 H2 x2 hj2 => ⟨j2, rfl, by show 8 ≤ sizeLine; decide, fun t nt => ?_⟩⟩
    have x02 := x1.trans x2
    have xt := x02.trans (Ex.new (o := .lst [V.int (1 + (j1 : Int)), .int 2, .int 3, .int 4, .int 6, .int 12, .int 24, .int (1 + (j2 : Int))]) nt)
    refine ⟨r, a, t, ns, [1 + (j1 : Int), 2, 3, 4, 6, 12, 24, 1 + (j2 : Int)], rfl, xt.row _ _ R0, xt.l ints_norow S0, upd_same, by show 1 ≤ 8; decide, by show 8 ≤ 1000; decide, fun ei H3 x3 hei => ?_⟩
    obtain ⟨e, rfl, e1, e2⟩ : ∃ e : Nat, ei = e ∧ 1 ≤ e ∧ e ≤ 2520 := by
      simp only [List.mem_cons, List.not_mem_nil, or_false] at hei
      exact ⟨ei.toNat, by omega, by omega, by omega⟩
    have x03 := xt.trans x3
    refine ⟨r, a, ns, 12, rfl, x03.row _ _ R0, x03.l ints_norow S0, by omega, by omega, fun ap H4 n p x4 n1 n12 hp => ?_⟩
    have x04 := x03.trans x4
    refine ⟨r, a, 3, ns, rfl, x04.row _ _ R0, x04.l ints_norow S0, by omega, by omega, fun j3 H5 x5 hj3 => ⟨rfl, ?_⟩⟩
    have x05 := x04.trans x5
    refine twoN (H := H5) ?_ (fun rest => ite2s (fun c => rest ap H5 n p (.refl _) (hp.ex x5) n1 n12) (fun c => ⟨r, a, 12, ns, rfl, x05.row _ _ R0, x05.l ints_norow S0, by omega, by omega, fun j4 H6 x6 hj4 => ⟨j4, rfl, r, a, 1 + j4, ns, by rw [Int.natCast_add]; rfl, x6.row _ _ (x05.row _ _ R0), x6.l ints_norow (x05.l ints_norow S0), by omega, by omega, fun g H7 pg x7 hg => ⟨g, 1 + j4, pg, e, rfl, hg, by omega, fun c H8 x8 hc => rest c H8 (1 + j4) _ ((x6.trans x7).trans x8) hc (by omega) (by omega)⟩⟩⟩))
    intro ap H6 n p x6 hp6 n1 n12
    have x06 := x05.trans x6
    have he := eok_small e1 e2
    refine ⟨ap, n, e, p, rfl, hp6, n1, n12, x06.tab _ T0, he, fun H7 x7 => ⟨_, rfl, iteF ?_⟩⟩
    have x07 := x06.trans x7
    refine ⟨r, a, ns, 5, rfl, x07.row _ _ R0, x07.l ints_norow S0, by omega, by omega, fun fw H14 m f x14 m1 m5 hf => ?_⟩
    have x014 := x07.trans x14
    have hp14 := (hp6.ex x7).ex x14
    have hlf : (f.map V.int).length = m := by rw [List.length_map, hf.is.len]
    refine ⟨fw, rfl, f.map V.int, .inr (.inl (.inl hf.at_)), ?_⟩
    rw [hlf]
    have enm : ((m : Nat) : Int).toNat = m := by omega
    refine ⟨.int m, rfl, m, rfl, by omega, by omega, fun D nD => ?_⟩
    refine lc_it walk_range (fun i H15 => Ex H14 H15 ∧ H15 D = some (.lst ((turnI m i).map V.int))) ⟨Ex.new nD, upd_same⟩ (fun _ _ _ _ => trivial) (fun i x H15 H16 hi ⟨x15, hD⟩ ⟨e, ex⟩ => ?_) (fun H15 ⟨x15, hD⟩ => ?_)
    · subst e ex
      rw [enm] at hi
      refine ⟨rfl, yesI ?_⟩
      walk_at "sx"
      refine ⟨by omega, _, hD, ?_, x15.own nD, ?_⟩
      · unfold turnI
        rw [List.length_map, List.length_map, List.length_range]
        exact small1000 (by omega)
      · rw [upd_same]
        unfold turnI
        rw [List.range_succ, List.map_append, List.map_append]
        show _ = some (HO.lst (_ ++ [V.int (((i + 1) % m : Nat) : Int)]))
        rw [Int.natCast_emod, Int.natCast_add, Int.zero_add]
        rfl
    have hD : H15 D = some (.lst ((turnL m).map V.int)) := by rw [hD, enm]; rfl
    refine .inl ⟨D, rfl, _, sl_at hD, fun tu ntu => ?_⟩
    have x16 : Ex H15 (upd H15 tu (.tup ((turnL m).map V.int))) := Ex.new ntu
    have htu : Pm (upd H15 tu (.tup ((turnL m).map V.int))) tu m (turnL m) := ⟨upd_same, turn_pm m1 m5⟩
    generalize upd H15 tu (.tup ((turnL m).map V.int)) = H16 at x16 htu ⊢
    have x1416 := x15.trans x16
    refine two1 (H := H16) (n := m) (p := swapL m) ?_ (fun rest => ite2 (fun g => by
        have g := of_decide_eq_true g
        refine ⟨by show 2 ≤ sizeLine; decide, fun t1 nt1 => ⟨.of_le (by omega) (by omega) (by omega) (by omega), fun t2 nt2 => ?_⟩⟩
        have y1 : Ex H16 (upd H16 t1 (.tup [.int 1, .int 0])) := Ex.new nt1
        have y2 := y1.trans (Ex.new (o := .tup (rgV 2 (m : Int))) nt2)
        have s1 : upd (upd H16 t1 (.tup [.int 1, .int 0])) t2 (.tup (rgV 2 (m : Int))) t1 = some (.tup [.int 1, .int 0]) := by
          rw [upd_ne (ne_of_none upd_same nt2)]
          exact upd_same
        have big := swap_big (n := m) (by omega)
        refine ⟨t1, t2, [.int 1, .int 0], rgV 2 (m : Int), rfl, rfl, .inl (.inl s1), sq_new, ?_, (fun z => by cases z), fun _ z => ?_, fun _ _ t3 nt3 => ?_⟩
        · rw [rgV_length]
          show 2 + _ ≤ sizeLine
          exact Nat.le_of_lt (small1000 (by omega))
        · rw [z, List.append_nil] at big
          have s2 : Pm (upd (upd H16 t1 (.tup [.int 1, .int 0])) t2 (.tup (rgV 2 (m : Int)))) t1 m (swapL m) := ⟨by rw [s1, big], swap_pm m1 m5⟩
          generalize upd (upd H16 t1 (.tup [.int 1, .int 0])) t2 (.tup (rgV 2 (m : Int))) = H18 at y2 s2 ⊢
          exact rest t1 H18 y2 s2
        · have y3 := y2.trans (Ex.new (o := .tup ([V.int 1, V.int 0] ++ rgV 2 (m : Int))) nt3)
          have s3 : Pm (upd (upd (upd H16 t1 (.tup [.int 1, .int 0])) t2 (.tup (rgV 2 (m : Int)))) t3 (.tup ([V.int 1, V.int 0] ++ rgV 2 (m : Int)))) t3 m (swapL m) := ⟨by rw [big]; exact upd_same, swap_pm m1 m5⟩
          generalize upd (upd (upd H16 t1 (.tup [.int 1, .int 0])) t2 (.tup (rgV 2 (m : Int)))) t3 (.tup ([V.int 1, V.int 0] ++ rgV 2 (m : Int))) = H18 at y3 s3 ⊢
          exact rest t3 H18 y3 s3) (fun g => by
        have g : ¬ ((1 : Int) < m) := fun h => g (decide_eq_true h)
        have e1 : m = 1 := by omega
        refine ⟨by show 1 ≤ sizeLine; decide, fun t1 nt1 => ?_⟩
        have y1 : Ex H16 (upd H16 t1 (.tup [.int 0])) := Ex.new nt1
        have s1 : Pm (upd H16 t1 (.tup [.int 0])) t1 m (swapL m) := ⟨by rw [e1]; exact upd_same, swap_pm m1 m5⟩
        generalize upd H16 t1 (.tup [.int 0]) = H18 at y1 s1 ⊢
        exact rest t1 H18 y1 s1))
    intro sw H17 x17 hsw
    refine ⟨.int m, rfl, .ref tu, rfl, .ref sw, rfl, by show 2 ≤ sizeLine; decide, fun t nt => ?_⟩
    have x1417 := x1416.trans x17
    have x18 : Ex H17 (upd H17 t (.tup [.ref tu, .ref sw])) := Ex.new nt
    have ht18 : upd H17 t (.tup [.ref tu, .ref sw]) t = some (.tup [.ref tu, .ref sw]) := upd_same
    generalize upd H17 t (.tup [.ref tu, .ref sw]) = H18 at x18 ht18 ⊢
    have hf18 := hf.ex (x1417.trans x18)
    refine ⟨t, tu, sw, m, turnL m, swapL m, rfl, ht18, (htu.ex x17).ex x18, hsw.ex x18, m1, by omega, fun ce H19 Es x19 hce hEs hPm => ?_⟩
    have eE : cloL (turnL m) (swapL m) 2000 0 [unitL m] = every m := rfl
    rw [eE] at hEs hPm
    have hf19 := hf18.ex x19
    have lE : (every m).length ≤ 120 := by
      obtain rfl | rfl | rfl | rfl | rfl : m = 1 ∨ m = 2 ∨ m = 3 ∨ m = 4 ∨ m = 5 := by omega
      all_goals decide +kernel
    have hEl : (Es.map V.ref).length = (every m).length := by rw [List.length_map, hEs.len]
    refine ⟨ce, rfl, ⟨_, sl_at hce⟩, fun D nD2 => ?_⟩
    refine lc_it (walk_list (xs := Es.map V.ref)) (fun i H20 => ∃ Bs : List Addr, Ex H19 H20 ∧ H20 D = some (.lst (Bs.map V.ref)) ∧ RowsAt H20 Bs (((every m).take i).filter (hitB m e f))) ⟨[], Ex.new nD2, upd_same, by rw [List.take_zero]; exact .nil⟩ (fun i H20 _ ⟨_, x20, _⟩ => sl_at (x20.st _ _ hce refs_norow)) (fun i x H20 H21 hi ⟨Bs, x20, hD, hB⟩ ⟨e1, hx⟩ => ?_) (fun H20 ⟨Bs, x20, hD, hB⟩ => ?_)
    · subst e1
      rw [hEl] at hi
      have hg : (every m)[i]? = some (every m)[i] := List.getElem?_eq_getElem hi
      obtain ⟨u, hu, hut⟩ := (hEs.ex x20).at_ i _ hg
      have gp := hPm _ (List.mem_of_getElem? hg)
      generalize (every m)[i] = g at hg hut gp
      have eu : x = .ref u := by
        rw [List.getElem?_map, hu] at hx
        exact (Option.some.inj hx).symm
      subst eu
      refine ⟨rfl, ?_⟩
      have et : (every m).take (i + 1) = (every m).take i ++ [g] := by rw [List.take_add_one, hg]; rfl
      walk_at "sx"
      have lB : Bs.length ≤ 120 := by
        rw [hB.len]
        exact Nat.le_trans (List.length_filter_le ..) (by rw [List.length_take]; omega)
      refine ⟨u, m, g, e, rfl, ⟨hut, gp⟩, by omega, fun c H22 x22 hc => ?_⟩
      refine ⟨.tuple ((pwL m g e).map PyData.int), .tuple (f.map PyData.int), dpT_ints hc.at_, dpT_ints ((hf19.ex x20).ex x22).at_, shapedT_ints _, shapedT_ints _, ?_⟩
      rw [eqvT_ints, et, List.filter_append]
      have hD22 := x22.st _ _ hD refs_norow
      have x2022 := x20.trans x22
      refine ⟨_, rfl, ite2 (fun c => ?_) (fun c => ?_)⟩
      · have cb : hitB m e f g = true := c
        rw [List.filter_cons_of_pos cb, List.filter_nil]
        refine ⟨_, hD22, by rw [List.length_map]; exact small1000 (by omega), x2022.own nD2, Bs ++ [u], by rw [upd_same, List.map_append]; rfl, ((hB.ex x22).upd hD22 (fun _ z => by cases z)).more (kp (x22.st _ _ hut trivial) hD22 (fun z => by cases z))⟩
      · have cb : ¬ hitB m e f g = true := c
        rw [List.filter_cons_of_neg cb, List.filter_nil, List.append_nil]
        exact ⟨x2022, Bs, hD22, hB.ex x22⟩
    rw [hEl, List.take_length] at hB
    have hf20 := hf19.ex x20
    have x0120 := x014.trans (((x1417.trans x18).trans x19).trans x20)
    refine ⟨fw, m, e, f, rfl, hf20, m1, by omega, x0120.tab _ T0, he, fun H21 x21 => ⟨_, rfl, iteF ?_⟩⟩
    refine ⟨fw, m, e, f, rfl, hf20.ex x21, m1, by omega, (x0120.trans x21).tab _ T0, he, fun v H22 R x22 hF rt => ⟨Nat.zero_le _, fun e0 ne0 => ?_⟩⟩
    have xe : Ex H22 (upd H22 e0 (.lst [])) := Ex.new ne0
    have x2022 := (x21.trans x22).trans xe
    refine ⟨.list (((every m).filter (hitB m e f)).map rowD), .list [], .lst (sl_at (x2022.st _ _ hD refs_norow)) (dpAll_rows (hB.ex x2022)), dp_nil upd_same, shaped_rows _, shaped_rows [], ?_⟩
    rw [eqv_rows0]
    have key : (v = .non) ↔ ((every m).filter (hitB m e f) = []) := by
      constructor
      · intro ev
        rcases rt with ⟨_, nf⟩ | ⟨c, g, ev2, _⟩
        · refine List.filter_eq_nil_iff.mpr fun g hg hit => nf ?_
          have gp := hPm g hg
          exact pow_free gp (by omega) he (of_decide_eq_true hit) hF (cyc_full gp m1 m5)
        · rw [ev2] at ev
          cases ev
      · intro en
        rcases rt with ⟨ev, _⟩ | ⟨c, g, ev2, hg, pw, _⟩
        · exact ev
        · have w : g ∈ (every m).filter (hitB m e f) := List.mem_filter.mpr ⟨every_all hg.is m1 m5, decide_eq_true pw⟩
          rw [en] at w
          cases w
    refine ⟨rfl, ?_⟩
    rw [show decide (V.bl (decide (v = V.non)) = V.bl (decide ((every m).filter (hitB m e f) = []))) = true from decide_eq_true (congrArg V.bl (decide_eq_decide.mpr key))]
    refine iteF ?_
    obtain ⟨X, hX⟩ : ∃ X : Nat, X = (13 ^ 64) ^ 64 := ⟨_, rfl⟩
    have eX : ((13 : Int) ^ Int.toNat 64) ^ Int.toNat 64 = (X : Int) := by
      rw [hX, Int.natCast_pow, Int.natCast_pow]
      rfl
    refine ⟨⟨by decide, big_bits.1⟩, ⟨by decide, big_bits.2⟩, _, rfl, .inl ⟨by omega, by omega⟩, ?_⟩
    have x0122 := x0120.trans x2022
    have hp22 := hp14.ex ((((x1417.trans x18).trans x19).trans x20).trans x2022)
    exact ⟨ap, n, e * X, p, by rw [eX, Int.natCast_mul], hp22, n1, n12, x0122.tab _ T0, eok_big e1 e2 hX, fun H23 x23 => q H23⟩
theorem law_start {H : Hp} {a : Addr} {ns : List Int} (_ : ns.length ≤ 63) (_ : ∀ z ∈ ns, Builtin.Int.intBits z ≤ 1048576) (hS : SqL K H a (ns.map V.int)) (hT : ∀ x ∈ tabL, TabG H (He.cT K (x, none)).2) : spLaw K [.ref a] H (fun v _ => v = .bl true) fun _ _ _ => False :=
  ⟨a, ns, rfl, hS, hT "are_points" (List.mem_cons_self ..), fun _ => rfl⟩
end
end KL
namespace KL
open PySem PySem.Spec PyProof.Rows L2 GA GxR

def d_greatest_power : He.DefD := ⟨("greatest_power", none), "greatest_power", "greatest_power", defArgs sgreatest_power, defBody sgreatest_power, defScope sgreatest_power, [], []⟩
def d_is_between : He.DefD := ⟨("is_between", none), "is_between", "is_between", defArgs sis_between, defBody sis_between, defScope sis_between, [], []⟩
def d_is_tuple_of : He.DefD := ⟨("is_tuple_of", none), "is_tuple_of", "is_tuple_of", defArgs sis_tuple_of, defBody sis_tuple_of, defScope sis_tuple_of, [], []⟩
def d_is_degree : He.DefD := ⟨("is_degree", none), "is_degree", "is_degree", defArgs sis_degree, defBody sis_degree, defScope sis_degree, [], []⟩
def d_is_point : He.DefD := ⟨("is_point", none), "is_point", "is_point", defArgs sis_point, defBody sis_point, defScope sis_point, [], []⟩
def d_are_points : He.DefD := ⟨("are_points", none), "are_points", "are_points", defArgs sare_points, defBody sare_points, defScope sare_points, [], []⟩
def d_are_distinct_points : He.DefD := ⟨("are_distinct_points", none), "are_distinct_points", "are_distinct_points", defArgs sare_distinct_points, defBody sare_distinct_points, defScope sare_distinct_points, [], []⟩
def d_is_permutation : He.DefD := ⟨("is_permutation", none), "is_permutation", "is_permutation", defArgs sis_permutation, defBody sis_permutation, defScope sis_permutation, [], []⟩
def d_is_any_permutation : He.DefD := ⟨("is_any_permutation", none), "is_any_permutation", "is_any_permutation", defArgs sis_any_permutation, defBody sis_any_permutation, defScope sis_any_permutation, [], []⟩
def d_check_any_permutation : He.DefD := ⟨("check_any_permutation", none), "check_any_permutation", "check_any_permutation", defArgs scheck_any_permutation, defBody scheck_any_permutation, defScope scheck_any_permutation, [], []⟩
def d_full_cycles : He.DefD := ⟨("full_cycles", none), "full_cycles", "full_cycles", defArgs sfull_cycles, defBody sfull_cycles, defScope sfull_cycles, [], []⟩
def d_from_cycles : He.DefD := ⟨("from_cycles", none), "from_cycles", "from_cycles", defArgs sfrom_cycles, defBody sfrom_cycles, defScope sfrom_cycles, [], []⟩
def d_root : He.DefD := ⟨("root", none), "root", "root", defArgs sroot, defBody sroot, defScope sroot, [], []⟩
def d_root_obstacle : He.DefD := ⟨("root_obstacle", none), "root_obstacle", "root_obstacle", defArgs sroot_obstacle, defBody sroot_obstacle, defScope sroot_obstacle, [], []⟩
def d__by_length : He.DefD := ⟨("_by_length", none), "_by_length", "_by_length", defArgs s_by_length, defBody s_by_length, defScope s_by_length, [], []⟩
def d__divisor : He.DefD := ⟨("_divisor", none), "_divisor", "_divisor", defArgs s_divisor, defBody s_divisor, defScope s_divisor, [], []⟩
def d__merged_cycle : He.DefD := ⟨("_merged_cycle", none), "_merged_cycle", "_merged_cycle", defArgs s_merged_cycle, defBody s_merged_cycle, defScope s_merged_cycle, [], []⟩
def d__law_taken : He.DefD := ⟨("_law_taken", none), "_law_taken", "_law_taken", defArgs s_law_taken, defBody s_law_taken, defScope s_law_taken, [], []⟩
def d__law_pick : He.DefD := ⟨("_law_pick", none), "_law_pick", "_law_pick", defArgs s_law_pick, defBody s_law_pick, defScope s_law_pick, [], []⟩
def d__law_alike : He.DefD := ⟨("_law_alike", none), "_law_alike", "_law_alike", defArgs s_law_alike, defBody s_law_alike, defScope s_law_alike, [], []⟩
def d__law_unit : He.DefD := ⟨("_law_unit", none), "_law_unit", "_law_unit", defArgs s_law_unit, defBody s_law_unit, defScope s_law_unit, [], []⟩
def d__law_mul : He.DefD := ⟨("_law_mul", none), "_law_mul", "_law_mul", defArgs s_law_mul, defBody s_law_mul, defScope s_law_mul, [], []⟩
def d__law_inv : He.DefD := ⟨("_law_inv", none), "_law_inv", "_law_inv", defArgs s_law_inv, defBody s_law_inv, defScope s_law_inv, [], []⟩
def d__law_conj : He.DefD := ⟨("_law_conj", none), "_law_conj", "_law_conj", defArgs s_law_conj, defBody s_law_conj, defScope s_law_conj, [], []⟩
def d__law_is_perm : He.DefD := ⟨("_law_is_perm", none), "_law_is_perm", "_law_is_perm", defArgs s_law_is_perm, defBody s_law_is_perm, defScope s_law_is_perm, [], []⟩
def d__law_perm : He.DefD := ⟨("_law_perm", none), "_law_perm", "_law_perm", defArgs s_law_perm, defBody s_law_perm, defScope s_law_perm, [], []⟩
def d__law_closure : He.DefD := ⟨("_law_closure", none), "_law_closure", "_law_closure", defArgs s_law_closure, defBody s_law_closure, defScope s_law_closure, [], []⟩
def d__law_ring : He.DefD := ⟨("_law_ring", none), "_law_ring", "_law_ring", defArgs s_law_ring, defBody s_law_ring, defScope s_law_ring, [], []⟩
def d__law_power : He.DefD := ⟨("_law_power", none), "_law_power", "_law_power", defArgs s_law_power, defBody s_law_power, defScope s_law_power, [], []⟩
def d__law_divisor : He.DefD := ⟨("_law_divisor", none), "_law_divisor", "_law_divisor", defArgs s_law_divisor, defBody s_law_divisor, defScope s_law_divisor, [], []⟩
def d__law_blocks : He.DefD := ⟨("_law_blocks", none), "_law_blocks", "_law_blocks", defArgs s_law_blocks, defBody s_law_blocks, defScope s_law_blocks, [], []⟩
def d__law_judged : He.DefD := ⟨("_law_judged", none), "_law_judged", "_law_judged", defArgs s_law_judged, defBody s_law_judged, defScope s_law_judged, [], []⟩
def d_law : He.DefD := ⟨("law", none), "law", "law", defArgs slaw, defBody slaw, defScope slaw, [], []⟩
def fnL : List He.DefD := [d_greatest_power, d_is_between, d_is_tuple_of, d_is_degree, d_is_point, d_are_points, d_are_distinct_points, d_is_permutation, d_is_any_permutation, d_check_any_permutation, d_full_cycles, d_from_cycles, d_root, d_root_obstacle, d__by_length, d__divisor, d__merged_cycle, d__law_taken, d__law_pick, d__law_alike, d__law_unit, d__law_mul, d__law_inv, d__law_conj, d__law_is_perm, d__law_perm, d__law_closure, d__law_ring, d__law_power, d__law_divisor, d__law_blocks, d__law_judged, d_law]
def faL : List He.Fa := [.glo "greatest_power", .glo "is_between", .glo "is_tuple_of", .glo "is_degree", .glo "is_point", .glo "are_points", .glo "are_distinct_points", .glo "is_permutation", .glo "is_any_permutation", .glo "check_any_permutation", .glo "full_cycles", .glo "from_cycles", .glo "root", .glo "root_obstacle", .glo "_by_length", .glo "_divisor", .glo "_merged_cycle", .glo "_law_taken", .glo "_law_pick", .glo "_law_alike", .glo "_law_unit", .glo "_law_mul", .glo "_law_inv", .glo "_law_conj", .glo "_law_is_perm", .glo "_law_perm", .glo "_law_closure", .glo "_law_ring", .glo "_law_power", .glo "_law_divisor", .glo "_law_blocks", .glo "_law_judged", .glo "law", .free "all", .free "bool", .free "enumerate", .free "int", .free "isinstance", .free "len", .free "list", .free "range", .free "reversed", .free "set", .free "sorted", .free "str", .free "tuple", .free "type", .int "MOST_DEGREE" 12]
def tfL : List He.Defn := tabL.map fun x => (x, none)
def exF (K : PySem.W.Frag) : Bool := tupF K "PRIMES" [2, 3, 5, 7, 11]
theorem tx_of {K : PySem.W.Frag} {mg : Str → Option Value} {base h : Heap} {w : World} (X : K.In h) (G : h.Ns mainGlobals mg) (c : He.SaysX faL fnL [] tfL exF w h K) (TB : ∀ p ∈ tfL.map (He.cT K), GxR.TabB base mg p.1 p.2) : TX K mg base := by
  have F0 := fun_of (st := sgreatest_power) (c.t.d.def_ 0 (d := d_greatest_power) rfl)
  have B0 := F0.binds (ps := ["prime", "number"]) fun _ _ _ _ _ _ us hl => match us, hl with | [_, _], _ => rfl
  have F1 := fun_of (st := sis_between) (c.t.d.def_ 1 (d := d_is_between) rfl)
  have B1 := F1.binds (ps := ["value", "low", "high"]) fun _ _ _ _ _ _ us hl => match us, hl with | [_, _, _], _ => rfl
  have F2 := fun_of (st := sis_tuple_of) (c.t.d.def_ 2 (d := d_is_tuple_of) rfl)
  have B2 := F2.binds (ps := ["value", "size"]) fun _ _ _ _ _ _ us hl => match us, hl with | [_, _], _ => rfl
  have F3 := fun_of (st := sis_degree) (c.t.d.def_ 3 (d := d_is_degree) rfl)
  have B3 := F3.binds (ps := ["value"]) fun _ _ _ _ _ _ us hl => match us, hl with | [_], _ => rfl
  have F4 := fun_of (st := sis_point) (c.t.d.def_ 4 (d := d_is_point) rfl)
  have B4 := F4.binds (ps := ["degree", "value"]) fun _ _ _ _ _ _ us hl => match us, hl with | [_, _], _ => rfl
  have F5 := fun_of (st := sare_points) (c.t.d.def_ 5 (d := d_are_points) rfl)
  have B5 := F5.binds (ps := ["degree", "value"]) fun _ _ _ _ _ _ us hl => match us, hl with | [_, _], _ => rfl
  have F6 := fun_of (st := sare_distinct_points) (c.t.d.def_ 6 (d := d_are_distinct_points) rfl)
  have B6 := F6.binds (ps := ["degree", "value"]) fun _ _ _ _ _ _ us hl => match us, hl with | [_, _], _ => rfl
  have F7 := fun_of (st := sis_permutation) (c.t.d.def_ 7 (d := d_is_permutation) rfl)
  have B7 := F7.binds (ps := ["degree", "value"]) fun _ _ _ _ _ _ us hl => match us, hl with | [_, _], _ => rfl
  have F8 := fun_of (st := sis_any_permutation) (c.t.d.def_ 8 (d := d_is_any_permutation) rfl)
  have B8 := F8.binds (ps := ["value"]) fun _ _ _ _ _ _ us hl => match us, hl with | [_], _ => rfl
  have F9 := fun_of (st := scheck_any_permutation) (c.t.d.def_ 9 (d := d_check_any_permutation) rfl)
  have B9 := F9.binds (ps := ["value"]) fun _ _ _ _ _ _ us hl => match us, hl with | [_], _ => rfl
  have F10 := fun_of (st := sfull_cycles) (c.t.d.def_ 10 (d := d_full_cycles) rfl)
  have B10 := F10.binds (ps := ["p"]) fun _ _ _ _ _ _ us hl => match us, hl with | [_], _ => rfl
  have F11 := fun_of (st := sfrom_cycles) (c.t.d.def_ 11 (d := d_from_cycles) rfl)
  have B11 := F11.binds (ps := ["degree", "rows"]) fun _ _ _ _ _ _ us hl => match us, hl with | [_, _], _ => rfl
  have F12 := fun_of (st := sroot) (c.t.d.def_ 12 (d := d_root) rfl)
  have B12 := F12.binds (ps := ["p", "exponent"]) fun _ _ _ _ _ _ us hl => match us, hl with | [_, _], _ => rfl
  have F13 := fun_of (st := sroot_obstacle) (c.t.d.def_ 13 (d := d_root_obstacle) rfl)
  have B13 := F13.binds (ps := ["p", "exponent"]) fun _ _ _ _ _ _ us hl => match us, hl with | [_, _], _ => rfl
  have F14 := fun_of (st := s_by_length) (c.t.d.def_ 14 (d := d__by_length) rfl)
  have B14 := F14.binds (ps := ["p"]) fun _ _ _ _ _ _ us hl => match us, hl with | [_], _ => rfl
  have F15 := fun_of (st := s_divisor) (c.t.d.def_ 15 (d := d__divisor) rfl)
  have B15 := F15.binds (ps := ["length", "exponent"]) fun _ _ _ _ _ _ us hl => match us, hl with | [_, _], _ => rfl
  have F16 := fun_of (st := s_merged_cycle) (c.t.d.def_ 16 (d := d__merged_cycle) rfl)
  have B16 := F16.binds (ps := ["rows", "exponent"]) fun _ _ _ _ _ _ us hl => match us, hl with | [_, _], _ => rfl
  have F17 := fun_of (st := s_law_taken) (c.t.d.def_ 17 (d := d__law_taken) rfl)
  have B17 := F17.binds (ps := ["row", "many"]) fun _ _ _ _ _ _ us hl => match us, hl with | [_, _], _ => rfl
  have F18 := fun_of (st := s_law_pick) (c.t.d.def_ 18 (d := d__law_pick) rfl)
  have B18 := F18.binds (ps := ["row", "things"]) fun _ _ _ _ _ _ us hl => match us, hl with | [_, _], _ => rfl
  have F19 := fun_of (st := s_law_alike) (c.t.d.def_ 19 (d := d__law_alike) rfl)
  have B19 := F19.binds (ps := ["found", "due"]) fun _ _ _ _ _ _ us hl => match us, hl with | [_, _], _ => rfl
  have F20 := fun_of (st := s_law_unit) (c.t.d.def_ 20 (d := d__law_unit) rfl)
  have B20 := F20.binds (ps := ["degree"]) fun _ _ _ _ _ _ us hl => match us, hl with | [_], _ => rfl
  have F21 := fun_of (st := s_law_mul) (c.t.d.def_ 21 (d := d__law_mul) rfl)
  have B21 := F21.binds (ps := ["p", "q"]) fun _ _ _ _ _ _ us hl => match us, hl with | [_, _], _ => rfl
  have F22 := fun_of (st := s_law_inv) (c.t.d.def_ 22 (d := d__law_inv) rfl)
  have B22 := F22.binds (ps := ["p"]) fun _ _ _ _ _ _ us hl => match us, hl with | [_], _ => rfl
  have F23 := fun_of (st := s_law_conj) (c.t.d.def_ 23 (d := d__law_conj) rfl)
  have B23 := F23.binds (ps := ["p", "g"]) fun _ _ _ _ _ _ us hl => match us, hl with | [_, _], _ => rfl
  have F24 := fun_of (st := s_law_is_perm) (c.t.d.def_ 24 (d := d__law_is_perm) rfl)
  have B24 := F24.binds (ps := ["degree", "value"]) fun _ _ _ _ _ _ us hl => match us, hl with | [_, _], _ => rfl
  have F25 := fun_of (st := s_law_perm) (c.t.d.def_ 25 (d := d__law_perm) rfl)
  have B25 := F25.binds (ps := ["row", "degree"]) fun _ _ _ _ _ _ us hl => match us, hl with | [_, _], _ => rfl
  have F26 := fun_of (st := s_law_closure) (c.t.d.def_ 26 (d := d__law_closure) rfl)
  have B26 := F26.binds (ps := ["degree", "gens"]) fun _ _ _ _ _ _ us hl => match us, hl with | [_, _], _ => rfl
  have F27 := fun_of (st := s_law_ring) (c.t.d.def_ 27 (d := d__law_ring) rfl)
  have B27 := F27.binds (ps := ["p", "first"]) fun _ _ _ _ _ _ us hl => match us, hl with | [_, _], _ => rfl
  have F28 := fun_of (st := s_law_power) (c.t.d.def_ 28 (d := d__law_power) rfl)
  have B28 := F28.binds (ps := ["p", "exponent"]) fun _ _ _ _ _ _ us hl => match us, hl with | [_, _], _ => rfl
  have F29 := fun_of (st := s_law_divisor) (c.t.d.def_ 29 (d := d__law_divisor) rfl)
  have B29 := F29.binds (ps := ["size", "exponent"]) fun _ _ _ _ _ _ us hl => match us, hl with | [_, _], _ => rfl
  have F30 := fun_of (st := s_law_blocks) (c.t.d.def_ 30 (d := d__law_blocks) rfl)
  have B30 := F30.binds (ps := ["row", "most"]) fun _ _ _ _ _ _ us hl => match us, hl with | [_, _], _ => rfl
  have F31 := fun_of (st := s_law_judged) (c.t.d.def_ 31 (d := d__law_judged) rfl)
  have B31 := F31.binds (ps := ["p", "exponent"]) fun _ _ _ _ _ _ us hl => match us, hl with | [_, _], _ => rfl
  have F32 := fun_of (st := slaw) (c.t.d.def_ 32 (d := d_law) rfl)
  have B32 := F32.binds (ps := ["script"]) fun _ _ _ _ _ _ us hl => match us, hl with | [_], _ => rfl
  exact ⟨F0,
    B0,
    He.glo_ok X G (c.t.d.fact 0 (f := .glo "greatest_power") rfl),
    F1,
    B1,
    He.glo_ok X G (c.t.d.fact 1 (f := .glo "is_between") rfl),
    F2,
    B2,
    He.glo_ok X G (c.t.d.fact 2 (f := .glo "is_tuple_of") rfl),
    F3,
    B3,
    He.glo_ok X G (c.t.d.fact 3 (f := .glo "is_degree") rfl),
    F4,
    B4,
    He.glo_ok X G (c.t.d.fact 4 (f := .glo "is_point") rfl),
    F5,
    B5,
    He.glo_ok X G (c.t.d.fact 5 (f := .glo "are_points") rfl),
    F6,
    B6,
    He.glo_ok X G (c.t.d.fact 6 (f := .glo "are_distinct_points") rfl),
    F7,
    B7,
    He.glo_ok X G (c.t.d.fact 7 (f := .glo "is_permutation") rfl),
    F8,
    B8,
    He.glo_ok X G (c.t.d.fact 8 (f := .glo "is_any_permutation") rfl),
    F9,
    B9,
    He.glo_ok X G (c.t.d.fact 9 (f := .glo "check_any_permutation") rfl),
    F10,
    B10,
    He.glo_ok X G (c.t.d.fact 10 (f := .glo "full_cycles") rfl),
    F11,
    B11,
    He.glo_ok X G (c.t.d.fact 11 (f := .glo "from_cycles") rfl),
    F12,
    B12,
    He.glo_ok X G (c.t.d.fact 12 (f := .glo "root") rfl),
    F13,
    B13,
    He.glo_ok X G (c.t.d.fact 13 (f := .glo "root_obstacle") rfl),
    F14,
    B14,
    He.glo_ok X G (c.t.d.fact 14 (f := .glo "_by_length") rfl),
    F15,
    B15,
    He.glo_ok X G (c.t.d.fact 15 (f := .glo "_divisor") rfl),
    F16,
    B16,
    He.glo_ok X G (c.t.d.fact 16 (f := .glo "_merged_cycle") rfl),
    F17,
    B17,
    He.glo_ok X G (c.t.d.fact 17 (f := .glo "_law_taken") rfl),
    F18,
    B18,
    He.glo_ok X G (c.t.d.fact 18 (f := .glo "_law_pick") rfl),
    F19,
    B19,
    He.glo_ok X G (c.t.d.fact 19 (f := .glo "_law_alike") rfl),
    F20,
    B20,
    He.glo_ok X G (c.t.d.fact 20 (f := .glo "_law_unit") rfl),
    F21,
    B21,
    He.glo_ok X G (c.t.d.fact 21 (f := .glo "_law_mul") rfl),
    F22,
    B22,
    He.glo_ok X G (c.t.d.fact 22 (f := .glo "_law_inv") rfl),
    F23,
    B23,
    He.glo_ok X G (c.t.d.fact 23 (f := .glo "_law_conj") rfl),
    F24,
    B24,
    He.glo_ok X G (c.t.d.fact 24 (f := .glo "_law_is_perm") rfl),
    F25,
    B25,
    He.glo_ok X G (c.t.d.fact 25 (f := .glo "_law_perm") rfl),
    F26,
    B26,
    He.glo_ok X G (c.t.d.fact 26 (f := .glo "_law_closure") rfl),
    F27,
    B27,
    He.glo_ok X G (c.t.d.fact 27 (f := .glo "_law_ring") rfl),
    F28,
    B28,
    He.glo_ok X G (c.t.d.fact 28 (f := .glo "_law_power") rfl),
    F29,
    B29,
    He.glo_ok X G (c.t.d.fact 29 (f := .glo "_law_divisor") rfl),
    F30,
    B30,
    He.glo_ok X G (c.t.d.fact 30 (f := .glo "_law_blocks") rfl),
    F31,
    B31,
    He.glo_ok X G (c.t.d.fact 31 (f := .glo "_law_judged") rfl),
    F32,
    B32,
    He.glo_ok X G (c.t.d.fact 32 (f := .glo "law") rfl),
    He.free_ok X G (c.t.d.fact 33 (f := .free "all") rfl),
    He.free_ok X G (c.t.d.fact 34 (f := .free "bool") rfl),
    He.free_ok X G (c.t.d.fact 35 (f := .free "enumerate") rfl),
    He.free_ok X G (c.t.d.fact 36 (f := .free "int") rfl),
    He.free_ok X G (c.t.d.fact 37 (f := .free "isinstance") rfl),
    He.free_ok X G (c.t.d.fact 38 (f := .free "len") rfl),
    He.free_ok X G (c.t.d.fact 39 (f := .free "list") rfl),
    He.free_ok X G (c.t.d.fact 40 (f := .free "range") rfl),
    He.free_ok X G (c.t.d.fact 41 (f := .free "reversed") rfl),
    He.free_ok X G (c.t.d.fact 42 (f := .free "set") rfl),
    He.free_ok X G (c.t.d.fact 43 (f := .free "sorted") rfl),
    He.free_ok X G (c.t.d.fact 44 (f := .free "str") rfl),
    He.free_ok X G (c.t.d.fact 45 (f := .free "tuple") rfl),
    He.free_ok X G (c.t.d.fact 46 (f := .free "type") rfl),
    gi_ok (He.int_ok X G (c.t.d.fact 47 (f := .int "MOST_DEGREE" 12) rfl)),
    tup_ok X G c.more (by decide),
    TB (He.cT K ("are_points", none)) (List.mem_map.mpr ⟨("are_points", none), by simp [tfL, tabL], rfl⟩)⟩
abbrev R : PySem.W.OpenRow := PySem.W.OpenLaw.row PySem.Challenge.rw_stronggens_k06_whole_roots
abbrev hk : PySem.W.Hook := He.hookX 4 faL fnL [] tfL exF
abbrev others : List Str := ((["greatest_power", "GroupError", "BadPermutation", "BadExponent", "MOST_DEGREE", "is_between", "is_tuple_of", "is_degree", "is_point", "are_points", "are_distinct_points", "is_permutation", "is_any_permutation", "check_any_permutation", "full_cycles", "from_cycles", "PRIMES", "root", "root_obstacle", "_by_length", "_divisor", "_merged_cycle", "_law_taken", "_law_pick", "_law_alike", "_law_unit", "_law_mul", "_law_inv"] : List Str) ++ (["_law_conj", "_law_is_perm", "_law_perm", "_law_closure", "_law_ring", "_law_power", "_law_divisor", "_law_blocks", "_law_judged"] : List Str))
def ob (s : PySem.W.SharedT) : He.AlX := He.obsX 4 faL fnL [] tfL exF (HandSHeadRun.getT s)
theorem ob_eq (s : PySem.W.SharedT) : ob s = hk.obs s.abs := He.obsX_eq (HandSHeadRun.getT_eq s)
set_option maxHeartbeats 0 in
theorem run (w : World) : HandSHeadRun.RunEq R (PySem.W.view R.prog [43]) hk ob 4000 ((["greatest_power", "GroupError", "BadPermutation", "BadExponent", "MOST_DEGREE", "is_between", "is_tuple_of", "is_degree", "is_point", "are_points", "are_distinct_points", "is_permutation", "is_any_permutation", "check_any_permutation", "full_cycles", "from_cycles", "PRIMES", "root", "root_obstacle", "_by_length", "_divisor", "_merged_cycle", "_law_taken", "_law_pick", "_law_alike", "_law_unit", "_law_mul", "_law_inv"] : List Str) ++ (["_law_conj", "_law_is_perm", "_law_perm", "_law_closure", "_law_ring", "_law_power", "_law_divisor", "_law_blocks", "_law_judged"] : List Str)) w := by
  intro os
  kernel_rfl
theorem facts {w : World} {K : PySem.W.Frag} {h : Heap} {mg : Str → Option Value} {f : Addr} (X : K.In h) (G : h.Ns mainGlobals mg) (hfa : mg ("law" : Str) = some (.ref f)) (c : He.SaysX faL fnL [] tfL exF w h K) :
    LamX.LawAtS PySem.Challenge.rw_stronggens_k06_whole_roots w K CX0 11 63 "script" mg f h := by
  obtain ⟨fd0, F0⟩ := c.t.d.def_ 32 (d := d_law) rfl
  have e := hfa.symm.trans (He.glo_ok X G (c.t.d.fact 32 (f := .glo "law") rfl))
  cases e
  have F : Fun K "law" "law" slaw (He.ga K "law") (fdK K "law") := fun_of ⟨fd0, F0⟩
  obtain ⟨oc, od, kV, doc, pm, an, cdv, ct, osl, ef, lk, hcd⟩ := F.ex
  refine ⟨fdK K "law", tfL.map (He.cT K), spLaw K, ?_, ?_, ?_, ?_, ?_, ?_⟩
  · intro p hp
    obtain ⟨q, hq, rfl⟩ := List.mem_map.mp hp
    exact c.empty q hq
  · intro p hp
    obtain ⟨q, hq, rfl⟩ := List.mem_map.mp hp
    exact c.out q hq
  · intro p hp
    obtain ⟨q, hq, rfl⟩ := List.mem_map.mp hp
    exact PySem.W.codeHd_of_K X (c.hd q hq)
  · intro s u
    rw [ef]
    exact .of_eq rfl
  · intro H a ns hl hb hH hS
    exact law_start hl hb hS fun x hx => ⟨#[], hH (He.cT K (x, none)) (List.mem_map.mpr ⟨(x, none), List.mem_map.mpr ⟨x, hx, rfl⟩, rfl⟩), by simp [TriplesOk]⟩
  · intro base hb hg hT
    exact ok_law (tx_of X G c fun p hp => ⟨(hT p hp).code, (hT p hp).bm, (hT p hp).gP⟩)
end KL
open PySem PySem.W PySem.Calls PyProof.Rows
set_option maxHeartbeats 0 in
theorem PySem.Challenge.cw_stronggens_k06_whole_roots_holds : PySem.Challenge.rw_stronggens_k06_whole_roots.Holds := by
  w_on; o_law
  refine HandSHeadRun.head_any (r := OpenLaw.row PySem.Challenge.rw_stronggens_k06_whole_roots) (q := view (OpenLaw.row PySem.Challenge.rw_stronggens_k06_whole_roots).prog [43]) (H := KL.hk) (ob := KL.ob) (M := 4000) (loose := ((["greatest_power", "GroupError", "BadPermutation", "BadExponent", "MOST_DEGREE", "is_between", "is_tuple_of", "is_degree", "is_point", "are_points", "are_distinct_points", "is_permutation", "is_any_permutation", "check_any_permutation", "full_cycles", "from_cycles", "PRIMES", "root", "root_obstacle", "_by_length", "_divisor", "_merged_cycle", "_law_taken", "_law_pick", "_law_alike", "_law_unit", "_law_mul", "_law_inv"] : List Str) ++ (["_law_conj", "_law_is_perm", "_law_perm", "_law_closure", "_law_ring", "_law_power", "_law_divisor", "_law_blocks", "_law_judged"] : List Str))) (d := HandSHeadRun.topDef (OpenLaw.row PySem.Challenge.rw_stronggens_k06_whole_roots).prog 43) (kwd := []) KL.ob_eq
    (by kernel_rfl) (fun s => by kernel_rfl) KL.run (by kernel_rfl) (by kernel_rfl) (by kernel_rfl) (by rfl) (by first | assumption | decide +kernel) (by decide +kernel) ⟨rfl, rfl, rfl, rfl, rfl, by decide +kernel⟩ ?hw ?hc
  case hw => w_witness2
  case hc =>
    refine LamX.walk_ofTsE (l := PySem.Challenge.rw_stronggens_k06_whole_roots) (n := 63) (k := 11) (x := "script") (CX := fun _ => L2.CX0) rfl (by decide) (by kernel_rfl) ⟨rfl, by decide, by decide⟩ ?F (fun _ _ _ _ _ z => z)
    intro w mg fa h Y G hmg0
    obtain ⟨K, KX, c⟩ := Y
    have hmg : mg ("law" : PySem.Str) = some (.ref fa) := by
      have e : (HandSHeadRun.topDef (OpenLaw.row PySem.Challenge.rw_stronggens_k06_whole_roots).prog 43).name = ("law" : PySem.Str) := by kernel_rfl
      rw [← e]
      exact hmg0
    exact ⟨K, KX, KL.facts KX G hmg c⟩

