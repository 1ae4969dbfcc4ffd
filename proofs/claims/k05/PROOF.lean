import PyProof.Rows.All
import Wide.All
import OpenK.AllK
import Wide.FinOn
import HandS.ForMost
import HandS.Conv
import HandS.AnyAll
import HandS.Nested
import HandS.Walk
import KE.GoesEnum
import HandS.SetFor
import HandS.IsInst
import HandS.Codes
import HandS.TupAny
import HandS.SortInts
import HandS.Wide
import HandS.Zip
import HandS.Head0
import HandS.Head1
import HandS.Head2
import HandS.HeadEnd
import HandS.HeadHook1
import HandS.HeadHook2
import HandS.HeadHook3
import HandS.HeadHook4
import HandS.HeadWalk
import KE.KEqSeq
import KE.KSortedM
import PyProof.P3Eq
import HandS.Strs
import KE.KEqDeep
import HandS.Gcd
import KE.KMathGC
import KE.SortKeyHeap
import KE.KDictDisplayH
import HandS.SortKw
import HandS.Style
import HandS.Keys
import KE.KStateDown
import HandS.Head3
import PySem.Challenge.RW_stronggens_k05_whole_conjugates
set_option Elab.async false
set_option linter.all false
set_option maxRecDepth 100000
set_option maxHeartbeats 4000000
namespace GA
open PySem PySem.Spec PyProof.Rows L2

/-- a def without cells called, told by its body, in the model's own terms -/
theorem lib_call {P : Program} {w : World} {A : Around} {E : Value → Shared → Prop} {K : PySem.W.Frag} {x qual : Str} {st : Stmt} {f : Addr} {fd : FuncData} {ps : List Str} {us : List Value} {s : Shared} {Q : Value → Shared → Prop}
    (F : Fun K x qual st f fd) (X : K.In s.heap) (lim : s.heap.NoLimit) (hd : A.depth < recursionLimit) (hb : Binds K fd ps []) (hlen : us.length = ps.length)
    (hk : (defScope st).kind = .function) (hco : (defScope st).isCoroutine = false) (hgen : (defScope st).isGenerator = false) (hcell : ∀ y ∈ (defScope st).names, y.2 ≠ .cell) (hloc : ∀ n ∈ ps, (defScope st).names.lookup n = some .local)
    (h : ∀ (h₀ : Heap) (env : Env) (tk : Nat), env.scope = defScope st → env.globals = mainGlobals → env.builtins = builtinsNs → h₀.Ns env.locals (fun x => (ps.zip us).reverse.lookup x) → (∀ b o, s.heap.get? b = some o → h₀.get? b = some o) →
      wpAny (model P w) (A.deeper env) (execs (defBody st) env) (fun fl s' => ∃ u, fl = .ret u ∧ Q u s') (fun _ _ => False) { s with heap := h₀, toks := tk }) :
    wpAny (model P w) A (call (.ref f) us) Q E s := by
  obtain ⟨oc, od, kV, doc, pm, an, cdv, ct, osl, rfl, lk, hcd⟩ := F.ex
  have hb1 := hb s us X (by rw [List.append_nil]; exact hlen)
  rw [List.append_nil] at hb1
  refine wpAny_call (codeAny_call_def hd (X _ _ lk) rfl lim (PySem.W.codeRec_of X hcd) rfl hb1 hcell (fun y hy => hloc _ (List.of_mem_zip hy).1) (fun h₀ hns hkeep => ?_) hco hgen hk)
  refine wpAny_mono (h h₀ _ _ rfl rfl rfl hns hkeep) (fun fl s' q => ?_) (fun e s' q => q.elim)
  obtain ⟨u, rfl, q⟩ := q
  exact q

/-- a value that is an int, or is of another built-in type -/
inductive Kd (s : Shared) (v : Value) : Option Int → Prop where
  | int {i : Int} {t : Tok} (h : v = .int i t) : Kd s v (some i)
  | oth {T : String} (h : s.TypeIs v T) (n : T ≠ "int") (nb : (Value.type T == Value.type "builtin_function_or_method") = false) : Kd s v none
def inR (lo hi : Int) : Option Int → Bool
  | some i => decide (lo ≤ i) && decide (i ≤ hi)
  | none => false

theorem typeIs_keep {s s' : Shared} {v : Value} {T : String} (k : ∀ b u, s.heap.get? b = some u → s'.heap.get? b = some u) (h : s.TypeIs v T) : s'.TypeIs v T := by
  cases v with
  | ref a => obtain ⟨o, h1, h2⟩ := h; exact ⟨o, k _ _ h1, h2⟩
  | _ => exact h
theorem kd_keep {s s' : Shared} {v : Value} {o : Option Int} (k : ∀ b u, s.heap.get? b = some u → s'.heap.get? b = some u) (h : Kd s v o) : Kd s' v o := by
  cases h with
  | int h => exact .int h
  | oth h n nb => exact .oth (typeIs_keep k h) n nb

/-- what stands around: the written part and the module's names -/
structure At (K : PySem.W.Frag) (mg : Str → Option Value) (base : Heap) (h : Heap) : Prop where
  mod : Mod K mg base
  bk : ∀ b o, base.get? b = some o → h.get? b = some o
section
variable {K : PySem.W.Frag} {mg : Str → Option Value} {base : Heap} {h h' : Heap}
theorem At.keep (a : At K mg base h) (k : ∀ b o, h.get? b = some o → h'.get? b = some o) : At K mg base h' := ⟨a.mod, fun b o e => k b o (a.bk b o e)⟩
theorem At.kin (a : At K mg base h) : K.In h := a.mod.kin.keeps a.bk
theorem At.lim (a : At K mg base h) : h.NoLimit := a.mod.nolimit.keeps a.bk
end
section
variable {M : Model} {A : Around} {E : Value → Shared → Prop} {s : Shared} {K : PySem.W.Frag} {mg : Str → Option Value} {base : Heap} {env : Env} {x : Str} {pos : Pos} {u : Value} {Q : Value → Shared → Prop}
theorem nm_loc {m : Str → Option Value} (hk : env.scope.kind = .function) (hl : env.scope.names.lookup x = some .local) (hn : s.heap.Ns env.locals m) (hv : m x = some u) (h : Q u s) (hd : (x == ("__debug__" : Str)) = false := by decide) :
    wpAny M A (eval (.Name x pos) env) Q E s := wpAny_Name (wpAny_loadName_local hk hl hn hv h) hd
theorem nm_glob (a : At K mg base s.heap) (hk : env.scope.kind = .function) (hl : env.scope.names.lookup x = some .globalImplicit) (hg : env.globals = mainGlobals) (hm : mg x = some u) (h : Q u s) (hd : (x == ("__debug__" : Str)) = false := by decide) :
    wpAny M A (eval (.Name x pos) env) Q E s := Calls.Name_function_global hk hl (Calls.loadGlobal_global (by rw [hg]; exact a.mod.glob.keeps a.bk) hm h) hd
theorem nm_blt (a : At K mg base s.heap) (hk : env.scope.kind = .function) (hl : env.scope.names.lookup x = some .globalImplicit) (hg : env.globals = mainGlobals) (hb : env.builtins = builtinsNs) (hm : mg x = none) (hv : bootBuiltins x = some u) (h : Q u s)
    (hn : x ≠ "__name__" := by decide) (hd : (x == ("__debug__" : Str)) = false := by decide) : wpAny M A (eval (.Name x pos) env) Q E s := by
  obtain ⟨mb, h1, h2⟩ := a.mod.blt
  exact Calls.Name_function_global hk hl (Calls.loadGlobal_builtin (by rw [hg]; exact a.mod.glob.keeps a.bk) hm (by rw [hb]; exact h1.keeps a.bk) ((h2 x hn).trans hv) h) hd
end

/-- def is_between(value, low, high): return type(value) is int and low <= value <= high -/
def btBody (p1 p2 p3 p4 p5 p6 p7 p8 p9 p10 p11 : Pos) : List Stmt :=
  [.Return (some (.BoolOp .And [.Compare (.Call (.Name "type" p1) [.Name "value" p2] [] p3) [.Is] [.Name "int" p4] p5, .Compare (.Name "low" p6) [.LtE, .LtE] [.Name "value" p7, .Name "high" p8] p9] p10)) p11]
structure BtDef (st : Stmt) : Prop where
  body : ∃ p1 p2 p3 p4 p5 p6 p7 p8 p9 p10 p11, defBody st = btBody p1 p2 p3 p4 p5 p6 p7 p8 p9 p10 p11
  kind : (defScope st).kind = .function
  co : (defScope st).isCoroutine = false
  gen : (defScope st).isGenerator = false
  cell : ∀ y ∈ (defScope st).names, y.2 ≠ .cell
  v : (defScope st).names.lookup ("value" : Str) = some .local
  l : (defScope st).names.lookup ("low" : Str) = some .local
  h : (defScope st).names.lookup ("high" : Str) = some .local
  t : (defScope st).names.lookup ("type" : Str) = some .globalImplicit
  i : (defScope st).names.lookup ("int" : Str) = some .globalImplicit
theorem lib_between {P : Program} {w : World} {A : Around} {E : Value → Shared → Prop} {K : PySem.W.Frag} {mg : Str → Option Value} {base : Heap} {st : Stmt} {f : Addr} {fd : FuncData} {s : Shared} {v : Value} {lo hi : Int} {t1 t2 : Tok} {o : Option Int} {q : Str}
    (F : Fun K "is_between" q st f fd) (D : BtDef st) (hb : Binds K fd ["value", "low", "high"] []) (mt : mg "type" = none) (mi : mg "int" = none) (a : At K mg base s.heap) (hd : A.depth + 1 < recursionLimit) (k : Kd s v o) :
    wpAny (model P w) A (call (.ref f) [v, .int lo t1, .int hi t2]) (fun y s' => y = .bool (inR lo hi o) ∧ Keeps s s') E s := by
  refine lib_call F a.kin a.lim (by omega) hb rfl D.kind D.co D.gen D.cell (fun n hn => ?_) (fun h₀ env tk e1 e2 e3 hns hkeep => ?_)
  · simp only [List.mem_cons, List.not_mem_nil, or_false] at hn
    rcases hn with rfl | rfl | rfl
    · exact D.v
    · exact D.l
    · exact D.h
  · obtain ⟨p1, p2, p3, p4, p5, p6, p7, p8, p9, p10, p11, eb⟩ := D.body
    rw [eb]
    have a' : At K mg base h₀ := a.keep hkeep
    have kf : env.scope.kind = .function := by rw [e1]; exact D.kind
    have lv : env.scope.names.lookup ("value" : Str) = some .local := by rw [e1]; exact D.v
    have ll : env.scope.names.lookup ("low" : Str) = some .local := by rw [e1]; exact D.l
    have lh : env.scope.names.lookup ("high" : Str) = some .local := by rw [e1]; exact D.h
    have lt : env.scope.names.lookup ("type" : Str) = some .globalImplicit := by rw [e1]; exact D.t
    have li : env.scope.names.lookup ("int" : Str) = some .globalImplicit := by rw [e1]; exact D.i
    have k' : Kd { s with heap := h₀, toks := tk } v o := kd_keep (s := s) hkeep k
    have fin : ∀ b, b = inR lo hi o → ∃ u, Flow.ret (.bool b) = .ret u ∧ u = .bool (inR lo hi o) ∧ Keeps s { s with heap := h₀, toks := tk } := fun b e => ⟨_, rfl, by rw [e], h₀, tk, rfl, hkeep⟩
    refine wpAny_execs_cons (wpAny_Return_some (BoolOp_and ?_))
    refine wpAny_Compare1 (wpAny_Call_Name_kw (nm_blt a' kf lt e2 e3 mt boot_type ?_)) (by rfl)
    refine PyProof.Rows.callWith_type1 (args_cons (nm_loc kf lv hns rfl (args_nil ?_)))
    cases k' with
    | @int v_i v_t hv =>
      subst hv
      refine call_type_of (Tx := "int") rfl (by decide +kernel) (nm_blt a' kf li e2 e3 mi boot_int (wpAny_is_self rfl (wpAny_truthy_bool ?_)))
      rw [if_pos rfl]
      refine BoolOp_one ?_
      refine Compare_chain (nm_loc kf ll hns rfl (chain_link (nm_loc kf lv hns rfl (PyProof.Rows.le_int (wpAny_truthy_bool ?_))))) (by rfl)
      by_cases c : lo ≤ v_i
      · rw [decide_eq_true c, if_pos rfl]
        refine chain_last (nm_loc kf lh hns rfl (PyProof.Rows.le_int (fin _ ?_)))
        show _ = (decide (lo ≤ _) && _)
        rw [decide_eq_true c, Bool.true_and]
      · rw [decide_eq_false c, if_neg Bool.false_ne_true]
        refine fin _ ?_
        show _ = (decide (lo ≤ _) && _)
        rw [decide_eq_false c, Bool.false_and]
    | oth ht n nb =>
      refine call_type_of ht nb (nm_blt a' kf li e2 e3 mi boot_int (wpAny_is_other rfl (fun z => n (Value.type.inj z)) (wpAny_truthy_bool ?_)))
      rw [if_neg Bool.false_ne_true]
      exact fin _ rfl

/-- def is_point(degree, value): return is_between(value, 0, degree - 1) -/
def ptBody (p1 p2 p3 p4 p5 p6 p7 p8 : Pos) (j k : Nat) : List Stmt :=
  [.Return (some (.Call (.Name "is_between" p1) [.Name "value" p2, .Constant (.int 0) j p3, .BinOp (.Name "degree" p4) .Sub (.Constant (.int 1) k p5) p6] [] p7)) p8]
structure PtDef (st : Stmt) : Prop where
  body : ∃ p1 p2 p3 p4 p5 p6 p7 p8 j k, defBody st = ptBody p1 p2 p3 p4 p5 p6 p7 p8 j k
  kind : (defScope st).kind = .function
  co : (defScope st).isCoroutine = false
  gen : (defScope st).isGenerator = false
  cell : ∀ y ∈ (defScope st).names, y.2 ≠ .cell
  v : (defScope st).names.lookup ("value" : Str) = some .local
  d : (defScope st).names.lookup ("degree" : Str) = some .local
  b : (defScope st).names.lookup ("is_between" : Str) = some .globalImplicit
theorem keeps_from {s s' : Shared} {h : Heap} {tk : Nat} (hk : ∀ b o, s.heap.get? b = some o → h.get? b = some o) (k : Keeps { s with heap := h, toks := tk } s') : Keeps s s' := by
  obtain ⟨h', tk', e, kk⟩ := k
  exact ⟨h', tk', e, fun b o q => kk b o (hk b o q)⟩
theorem lib_point {P : Program} {w : World} {A : Around} {E : Value → Shared → Prop} {K : PySem.W.Frag} {mg : Str → Option Value} {base : Heap} {st stB : Stmt} {f fB : Addr} {fd fdB : FuncData} {s : Shared} {v : Value} {n : Int} {t1 : Tok} {o : Option Int} {q qB : Str}
    (F : Fun K "is_point" q st f fd) (D : PtDef st) (hb : Binds K fd ["degree", "value"] []) (FB : Fun K "is_between" qB stB fB fdB) (DB : BtDef stB) (hbB : Binds K fdB ["value", "low", "high"] []) (gB : mg "is_between" = some (.ref fB))
    (mt : mg "type" = none) (mi : mg "int" = none) (a : At K mg base s.heap) (hd : A.depth + 2 < recursionLimit) (k : Kd s v o) :
    wpAny (model P w) A (call (.ref f) [.int n t1, v]) (fun y s' => y = .bool (inR 0 (n - 1) o) ∧ Keeps s s') E s := by
  refine lib_call F a.kin a.lim (by omega) hb rfl D.kind D.co D.gen D.cell (fun n hn => ?_) (fun h₀ env tk e1 e2 e3 hns hkeep => ?_)
  · simp only [List.mem_cons, List.not_mem_nil, or_false] at hn
    rcases hn with rfl | rfl
    · exact D.d
    · exact D.v
  · obtain ⟨p1, p2, p3, p4, p5, p6, p7, p8, j, kk, eb⟩ := D.body
    rw [eb]
    have a' : At K mg base h₀ := a.keep hkeep
    have kf : env.scope.kind = .function := by rw [e1]; exact D.kind
    have lv : env.scope.names.lookup ("value" : Str) = some .local := by rw [e1]; exact D.v
    have ld : env.scope.names.lookup ("degree" : Str) = some .local := by rw [e1]; exact D.d
    have lb : env.scope.names.lookup ("is_between" : Str) = some .globalImplicit := by rw [e1]; exact D.b
    have k' : Kd { s with heap := h₀, toks := tk } v o := kd_keep (s := s) hkeep k
    refine wpAny_execs_cons (wpAny_Return_some (wpAny_Call_Name_kw (nm_glob a' kf lb e2 gB ?_)))
    refine PySem.W.callWith_K (h₀ := base) a'.mod.kin FB.kp (args_cons ?_)
    refine nm_loc kf lv hns rfl (args_cons (wpAny_Constant_int (args_cons ?_)))
    refine wpAny_BinOp (nm_loc kf ld hns rfl (wpAny_Constant_int (PyProof.Rows.sub_int (args_nil ?_))))
    refine ⟨a'.kin, ?_⟩
    refine thn (lib_between FB DB hbB mt mi (base := base) (s := { s with heap := h₀, toks := _ }) a' (by show A.depth + 1 + 1 < recursionLimit; omega) (kd_keep (s := { s with heap := h₀, toks := tk }) (fun _ _ e => e) k')) fun y s' r => ?_
    obtain ⟨rfl, r2⟩ := r
    exact ⟨_, rfl, rfl, keeps_from (s := s) hkeep r2⟩
end GA
/-! all(test for x in t), t a tuple, the test any expression that is walked in the generator's own frame -/
namespace GA
open PySem PySem.Spec PyProof.Rows L2 GxR
/-- what the test says of the item in place j -/
def plT (pb : V → Bool) (xs : List V) (j : Nat) : Bool := (xs[j]?).any pb
theorem plT_all (pb : V → Bool) (xs : List V) : (List.range xs.length).all (plT pb xs) = xs.all pb := by
  have e : (List.range xs.length).map (plT pb xs) = xs.map pb := by
    refine List.ext_getElem (by simp) fun j h1 h2 => ?_
    have hj : j < xs.length := by simpa using h2
    simp [plT, hj]
  have q := congrArg (fun l : List Bool => l.all id) e
  simpa [List.all_map, Function.comp_def] using q
section
variable {X : Cx} {pins : List (Addr × Obj)} {σ : L2.St} {H : Hp} {s : Shared}
/-- the code object of a generator expression: told before, or made now (then its def's table has grown) -/
theorem gx_code {c T : Addr} {env : Env} {pos : Pos} {q : Str} {scope : Scope} {ps : Array Value} {A : Around} {E : Value → Shared → Prop} {P : Program} {w : World} {Post : Value → Shared → Prop}
    (hc : env.code = .ref c) (hd : PySem.W.CodeHd s.heap c T) (hT : s.heap.get? T = some { cls := .none, data := .fields ps }) (ok : TriplesOk ps.toList)
    (k : ∀ (code : Value) (g : Heap) (tk : Nat) (more : Array Value), Heap.ExtBut T s.heap g → s.heap.objs.size ≤ g.objs.size → g.get? T = some { cls := .none, data := .fields (ps ++ more) } → TriplesOk (ps ++ more).toList → Post code { s with heap := g, toks := tk }) :
    wpAny (model P w) A (genexprCode env pos q scope) Post E s := by
  cases seen : codeAmong pos ps.toList with
  | some v =>
    have q0 : ps ++ #[] = ps := by simp
    exact wpAny_genexprCode_hit hc (hd.code hT ok) seen (k v s.heap s.toks #[] (Heap.ExtBut.refl _ _) (Nat.le_refl _) (by rw [q0]; exact hT) (by rw [q0]; exact ok))
  | none =>
    refine wpAny_genexprCodeX hc (hd.code hT ok) (hd.tab hT) seen fun v g tk far big small made _ tab' _ => ?_
    obtain ⟨_, _, _, _, _, _, _, _, _, _, _, _, _, _, _, _, _, _, _, good, _⟩ := made
    exact k _ g tk _ far (Nat.le_trans big (Nat.le_of_lt small)) tab'.2 good
/-- g is the generator over the items xs, not begun -/
def Begun (X : Cx) (pins : List (Addr × Obj)) (σ : L2.St) (H1 : Hp) (T : Addr) (xs : List V) (pb : V → Bool) (g : Addr) (z : Shared) : Prop :=
  ∃ (foot wrt : List Addr) (Gs : Array GenState → Array GenState → Prop) (Fv : Nat → Value → Prop) (Sn : Nat → Shared → Prop),
    WalksS X.prog X.w X.A.in1 g foot wrt Gs xs.length Fv Sn ∧ Sn 0 z ∧ TruthOf X.prog X.w X.A.in1 Fv (plT pb xs) ∧ ∀ z', Moved wrt Gs z z' → ∃ H2, Tabbed T H1 H2 ∧ Inv X pins σ H2 z'
/-- the test of one item, in the generator's frame; s1, H1: the state in which the tuple was read -/
def EltT (X : Cx) (T : Addr) (scope : Scope) (x : Str) (elt : Expr) (s1 : Shared) (H1 : Hp) (xs : List V) (pb : V → Bool) : Prop :=
  ∀ (ge : Env) (B : Around) (E' : Value → Shared → Prop) (y : V) (v : Value) (z : Shared) (names : Str → Option Value), ge.scope = scope → ge.globals = mainGlobals → ge.builtins = builtinsNs → ge.cells = cloFrom X.env.cells scope.names [] →
    B.handled = none → B.depth ≤ X.A.depth + 1 → z.heap.Ns ge.locals names → names x = some v → RelV y v → y ∈ xs → (∀ b u, b ≠ T → s1.heap.get? b = some u → z.heap.get? b = some u) →
    wpAny (model X.prog X.w) B (eval elt ge) (fun r z' => r = .bool (pb y) ∧ Keeps z z') E' z
theorem gen_tup {c T : Addr} {elt iter : Expr} {x : Str} {px gpos : Pos} {scope : Scope} {te : TE} {k : Nat} {Q' : Value → Shared → Prop} {R : List V → (V → Bool) → Hp → Prop}
    (hr : Room k X.A) (TB : TabB X.base X.mg c T) (hcode : X.env.code = .ref c) (S : GenS X.env scope x) (hi : PE X iter te) (hs : ∀ v, genFold iter X.env v = pure v) (I : Inv X pins σ H s)
    (h : te σ H fun v H1 => ∃ a xs pb, v = .ref a ∧ SqT X.K H1 a xs ∧ TabG H1 T ∧ (∀ pins s1, Inv X pins σ H1 s1 → EltT X T scope x elt s1 H1 xs pb) ∧ R xs pb H1)
    (hQ : ∀ xs pb H1 g z, R xs pb H1 → Begun X pins σ H1 T xs pb g z → Q' (.ref g) z) :
    wpAny (model X.prog X.w) X.A (eval (.GeneratorExp elt [⟨.Name x px, iter, [], 0⟩] scope gpos) X.env) Q' X.xe s := by
  have room := hr.dp
  refine wpAny_GeneratorExp_walksQD hr.hd S.co (closure_ok S.free) S.cell S.dot S.loc S.kind (by omega) (thn (hi.run pins s σ H _ I h) fun tv s1 ⟨v, H1, J, rt, a, xs, pb, ev, hx, ⟨ps, atT, okT⟩, test, goal⟩ => ?_) hs
  subst ev
  obtain rfl : tv = .ref a := rt
  obtain ⟨its, vals, tup, _⟩ := J.tuple hx
  have isT : s1.heap.IsTuple a its.toArray := tup
  have objT : s1.heap.get? T = some { cls := .none, data := .fields ps } := J.hok T _ atT
  have ltT := Heap.lt_size objT
  have lta := tup.lt
  have apart : a ≠ T := by
    rintro rfl
    obtain ⟨ob, g1, g2, _⟩ := isT
    rw [objT] at g1
    cases g1
    cases g2
  refine wpAny_pyIter_tuple isT ⟨J.nolimit.push _, ?_⟩
  generalize ei : ({ cls := .type "tuple_iterator", data := .fields #[.ref a, .int 0 0] } : Obj) = io
  have live : io.isFreed = false := by rw [← ei]; rfl
  have wide : (s1.heap.push io).objs.size = s1.heap.objs.size + 1 := Heap.size_push ..
  refine gx_code (s := { s1 with heap := s1.heap.push io }) hcode (TB.code.keeps fun b u e => Heap.get?_push_of_some _ (J.bk b u e)) (Heap.get?_push_of_some _ objT) okT fun code g tk more far big tabg good => ?_
  -- what stood ahead of the iterator stands, but for the table
  have stay : ∀ b u, b ≠ T → s1.heap.get? b = some u → g.get? b = some u := fun b u n e => far b u n (Heap.get?_push_of_some _ e)
  have itAt : g.get? s1.heap.objs.size = some io := far _ _ (Nat.ne_of_gt ltT) (Heap.get?_push_size _ live)
  have big' : s1.heap.objs.size < g.objs.size := by
    have : s1.heap.objs.size + 1 ≤ g.objs.size := wide ▸ big
    omega
  have stat : cStatics < s1.heap.objs.size ∧ cStatics ≠ T := by
    obtain ⟨_, ns, _⟩ := J.nolimit
    refine ⟨ns.lt, ?_⟩
    rintro rfl
    obtain ⟨_, _, _, g1, g2, _⟩ := ns
    rw [objT] at g1
    cases g1
    cases g2
  obtain ⟨bm, ob, b1, b2, b3, b4, b5, b6, b7, b8⟩ := TB.bm
  refine wpAny_builtinsFor (m := X.mg) (J.ok.glob ▸ ((J.mod.glob.keeps J.bk).push io).extBut far TB.gP) b1 b2 (stay _ _ b4 (J.bk _ _ b5)) b6 b7 b8 ?_
  refine ⟨s1.heap.objs.size, [s1.heap.objs.size, a], [s1.heap.objs.size], its.toArray.size, _, _, fun _ => true, fun i y => ∃ z, xs[i]? = some z ∧ y = .bool (pb z), rfl,
    fun B hB => Walks.tuple hB _ _ (Nat.ne_of_lt lta) its.toArray, ⟨⟨io, itAt, by rw [← ei], by rw [← ei]; rfl⟩, ?_⟩, ?_, (J.nolimit.push _).extBut far stat.2, ?_, fun ref old => ?_, ?_⟩
  · obtain ⟨ot, g1, g2⟩ := isT
    exact ⟨ot, stay _ _ apart g1, g2⟩
  · simp only [List.mem_cons, List.not_mem_nil, or_false]
    rintro b (rfl | rfl)
    · exact big'
    · exact Nat.lt_trans lta big'
  · simp only [List.mem_cons, List.not_mem_nil, or_false]
    exact Nat.ne_of_lt stat.1
  · refine ⟨fun B E' i v z names _ _ _ _ _ _ _ => ?_, fun B E' i v z names hB dB _ pv _ hn hx' keep => ?_⟩
    · rw [List.forIn_nil]
      exact wpAny_pure ⟨rfl, keeps_refl _⟩
    · have hv : its[i]? = some v := by simpa using pv
      obtain ⟨li, _⟩ := List.getElem?_eq_some_iff.mp hv
      have lx : i < xs.length := vals.length ▸ li
      have gx := List.getElem?_eq_getElem lx
      obtain ⟨v', hv', rel⟩ := vals.get gx
      obtain rfl : v = v' := Option.some.inj (hv.symm.trans hv')
      refine thn (test pins s1 J _ B E' xs[i] v z names rfl J.ok.glob rfl rfl hB dB hn hx' rel (List.getElem_mem lx) fun b u n e => ?_) fun r z' t => ⟨⟨xs[i], gx, t.1⟩, t.2⟩
      have inG := stay b u n e
      refine keep b (List.mem_range.mpr (Heap.lt_size inG)) ?_ u (old b u inG)
      simp only [List.mem_cons, List.not_mem_nil, or_false]
      exact Nat.ne_of_lt (Heap.lt_size e)
  · intro ga g5 tk5 gs bare _ _ keep5 walk start
    have cnt : its.toArray.size = xs.length := by rw [vals.length]; simp
    rw [cnt] at walk start
    rw [GxR.passing_true, List.length_range] at walk
    refine hQ xs pb H1 ga _ goal ⟨_, _, _, _, _, walk.in4_1, start, fun j y sj Qj Ej hy hq => ?_, fun z' mv => ?_⟩
    · obtain ⟨i, at_i, w', hw', rfl⟩ := hy
      obtain ⟨_, same⟩ := List.getElem?_eq_some_iff.mp at_i
      rw [List.getElem_range] at same
      subst same
      have val : plT pb xs j = pb w' := by simp [plT, hw']
      exact wpAny_truthy_bool (val ▸ hq)
    · have out : ∀ b u, s1.heap.get? b = some u → b ∉ [g.objs.size, s1.heap.objs.size] := fun b u e => by
        have lb := Heap.lt_size e
        simp only [List.mem_cons, List.not_mem_nil, or_false, not_or]
        exact ⟨Nat.ne_of_lt (Nat.lt_trans lb big'), Nat.ne_of_lt lb⟩
      have N := inv_tab (more := more) (h' := z'.heap) (g' := z'.gens) (d' := z'.drawn) (t' := z'.toks) J atT (fun b u n e => mv.heap b u (out b u e) (keep5 b u (stay b u n e)))
        (mv.heap T _ (out T _ objT) (keep5 T _ tabg)) (AllBare.movedS (J.bare.push bare) mv)
      rw [sh_eta s1 z' mv.os] at N
      exact ⟨_, ⟨⟨_, upd_same, good⟩, fun b n => upd_ne n⟩, N⟩
/-- all(..): true of every item; the table may have grown -/
def tAllT (X : Cx) (T : Addr) (scope : Scope) (x : Str) (elt : Expr) (te : TE) : TE := fun σ H Q => te σ H fun v H1 => ∃ a xs pb, v = .ref a ∧ SqT X.K H1 a xs ∧ TabG H1 T ∧
  (∀ pins s1, Inv X pins σ H1 s1 → EltT X T scope x elt s1 H1 xs pb) ∧ ∀ H2, Tabbed T H1 H2 → Q (.bl (xs.all pb)) H2
theorem pe_allT {c T : Addr} {elt iter : Expr} {x : Str} {px p pos gpos : Pos} {scope : Scope} {te : TE} {k : Nat}
    (hr : Room k X.A) (hg : Gl X "all") (hm : X.mg "all" = none) (TB : TabB X.base X.mg c T) (hcode : X.env.code = .ref c) (S : GenS X.env scope x) (hi : PE X iter te)
    (hs : ∀ v, genFold iter X.env v = pure v) (hb : bootBuiltins "all" = some (.builtin "all"))
    (one : starEach [.GeneratorExp elt [⟨.Name x px, iter, [], 0⟩] scope gpos] X.env = (false, eval (.GeneratorExp elt [⟨.Name x px, iter, [], 0⟩] scope gpos) X.env) :: starEach [] X.env := by rfl) :
    PE X (.Call (.Name "all" p) [.GeneratorExp elt [⟨.Name x px, iter, [], 0⟩] scope gpos] [] pos) (tAllT X T scope x elt te) := by
  constructor
  intro pins s σ H Q I h
  refine wpAny_Call_Name_kw (ld_blt I hg hm hb (PyProof.Rows.callWith_builtin1 (args_cons ?_ one) one (by rfl)))
  refine gen_tup (R := fun xs pb H1 => ∀ H2, Tabbed T H1 H2 → Q (.bl (xs.all pb)) H2) hr TB hcode S hi hs I h fun xs pb H1 g z said ⟨foot, wrt, Gs, Fv, Sn, W, st, tr, back⟩ => args_nil ?_
  refine call_all_walkS (W.self 0 _ _ _ st ⟨g, foot, wrt, Gs, _, Fv, Sn, _, rfl, W, st, tr, fun z' mv => ?_⟩)
  obtain ⟨H2, grown, N⟩ := back z' mv
  exact ⟨.bl _, H2, N, rfl, plT_all pb xs ▸ said H2 grown⟩
end
end GA
namespace GA
open PySem PySem.Spec PyProof.Rows L2 GxR

/-- a value of a built-in kind -/
def PlainV (K : PySem.W.Frag) (H : Hp) : V → Prop
  | .ref p => (∃ xs, SqL K H p xs) ∨ (∃ xs, SqT K H p xs) ∨ (∃ kvs, H p = some (.dK kvs))
  | .ty _ => False
  | _ => True
/-- is it an int from lo to hi -/
def btV (lo hi : Int) : V → Bool
  | .int i => decide (lo ≤ i) && decide (i ≤ hi)
  | _ => false
def intO : V → Option Int
  | .int i => some i
  | _ => none
theorem btV_inR (lo hi : Int) (v : V) : inR lo hi (intO v) = btV lo hi v := by cases v <;> rfl
theorem plain_kd {X : Cx} {pins : List (Addr × Obj)} {σ : L2.St} {H : Hp} {s : Shared} {x : V} {v : Value} (I : Inv X pins σ H s) (p : PlainV X.K H x) (r : RelV x v) : Kd s v (intO x) := by
  cases x with
  | non => cases (show v = Value.none from r); exact .oth (T := "NoneType") rfl (by decide) (by decide +kernel)
  | bl y => cases (show v = Value.bool y from r); exact .oth (T := "bool") rfl (by decide) (by decide +kernel)
  | int i => obtain ⟨t, rfl⟩ := (show ∃ t, v = Value.int i t from r); exact .int rfl
  | str y => obtain ⟨t, rfl⟩ := (show ∃ t, v = Value.str y t from r); exact .oth (T := "str") rfl (by decide) (by decide +kernel)
  | byt y => obtain ⟨t, rfl⟩ := (show ∃ t, v = Value.bytes y t from r); exact .oth (T := "bytes") (PySem.W.typeIs_bytes _ _ _) (by decide) (by decide +kernel)
  | flt y => obtain ⟨t, rfl⟩ := (show ∃ t, v = Value.float y t from r); exact .oth (T := "float") rfl (by decide) (by decide +kernel)
  | ty y => exact p.elim
  | ref q =>
    cases (show v = Value.ref q from r)
    rcases p with ⟨xs, h⟩ | ⟨xs, h⟩ | ⟨kvs, h⟩
    · obtain ⟨its, rv, ⟨ob, n, g, c, _, _⟩, hz⟩ := I.list h
      exact .oth (T := "list") ⟨ob, g, c⟩ (by decide) (by decide +kernel)
    · obtain ⟨its, rv, ⟨ob, g, c, k⟩, hz⟩ := I.tuple h
      exact .oth (T := "tuple") ⟨ob, g, c⟩ (by decide) (by decide +kernel)
    · obtain ⟨z, y, vs, rr, ob, es, ep, e, c, _⟩ := I.hok q _ h
      exact .oth (T := "dict") ⟨ob, e, c.1⟩ (by decide) (by decide +kernel)

/-- what the element of all(is_point(degree, x) for x in ..) needs -/
structure PtElt (scope : Scope) : Prop where
  kind : scope.kind = .function
  x : scope.names.lookup ("x" : Str) = some .local
  d : scope.names.lookup ("degree" : Str) = some .free
  p : scope.names.lookup ("is_point" : Str) = some .globalImplicit
theorem elt_point {X : Cx} {pins : List (Addr × Obj)} {σ : L2.St} {H1 : Hp} {s1 : Shared} {P : Addr} {scope : Scope} {xs : List V} {n : Int} {i k : Nat} {p1 p2 p3 p4 : Pos} {st stB : Stmt} {f fB : Addr} {fd fdB : FuncData} {q qB : Str}
    (I : Inv X pins σ H1 s1) (hP : TabG H1 P) (S : GenS X.env scope "x") (SE : PtElt scope) (hN : X.N[i]? = some ("degree" : Str)) (hσ : σ[i]? = some (some (.int n))) (hk : X.env.scope.names.lookup ("degree" : Str) = some .cell)
    (F : Fun X.K "is_point" q st f fd) (D : PtDef st) (hb : Binds X.K fd ["degree", "value"] []) (g : X.mg "is_point" = some (.ref f)) (FB : Fun X.K "is_between" qB stB fB fdB) (DB : BtDef stB) (hbB : Binds X.K fdB ["value", "low", "high"] [])
    (gB : X.mg "is_between" = some (.ref fB)) (mt : X.mg "type" = none) (mi : X.mg "int" = none) (hr : Room (k + 2) X.A) (hx : ∀ x ∈ xs, PlainV X.K H1 x) (hbP : ∀ b o, X.base.get? b = some o → b ≠ P) :
    EltT X P scope "x" (.Call (.Name "is_point" p1) [.Name "degree" p2, .Name "x" p3] [] p4) s1 H1 xs (btV 0 (n - 1)) := by
  intro cenv A' E' y v s₂ m₂ e1 e2 e3 e4 hh hd hn hm ry hy hkp
  obtain ⟨ps, hPs, _⟩ := hP
  have hPo : s1.heap.get? P = some { cls := .none, data := .fields ps } := I.hok P _ hPs
  have a2 : At X.K X.mg X.base s₂.heap := ⟨I.ok.mod, fun b o e => hkp b o (hbP b o e) (I.bk b o e)⟩
  have kf : cenv.scope.kind = .function := by rw [e1]; exact SE.kind
  obtain ⟨m, hns, hlk⟩ := I.loc
  obtain ⟨u, ru, lk⟩ := hlk i "degree" (.int n) hN hσ (.inr (.inl hk))
  obtain ⟨t, rfl⟩ := (show ∃ t, u = Value.int n t from ru)
  have kc : X.env.kindOf ("degree" : Str) = some .cell := hk
  obtain ⟨c, hc, hcell⟩ : ∃ c, X.env.cells.lookup ("degree" : Str) = some c ∧ s1.heap.IsCell c (some (.int n t)) := by
    rcases lk with ⟨z, _⟩ | ⟨_, z⟩
    · rw [kc] at z
      cases z
    · exact z
  have hc2 : cenv.cells.lookup ("degree" : Str) = some c := by
    rw [e4]
    exact NdefX.clo_has S.free (PySem.mem_of_lookup SE.d) hc
  have hcell2 : s₂.heap.IsCell c (some (.int n t)) := by
    obtain ⟨o, h1, h2⟩ := hcell
    refine ⟨o, hkp c o (fun z => ?_) h1, h2⟩
    rw [z, hPo] at h1
    cases h1
    cases h2
  refine wpAny_Call_Name_kw (nm_glob a2 kf (by rw [e1]; exact SE.p) e2 g ?_)
  refine PySem.W.callWith_K (h₀ := X.base) a2.mod.kin F.kp (args_cons ?_)
  refine wpAny_Name (wpAny_loadName_free kf (show cenv.scope.names.lookup _ = _ by rw [e1]; exact SE.d) hc2 hcell2 (args_cons ?_)) (by decide)
  refine nm_loc kf (by rw [e1]; exact SE.x) hn hm (args_nil ⟨a2.kin, ?_⟩)
  have kd := plain_kd I (hx y hy) ry
  have kd2 : Kd s₂ v (intO y) := by
    generalize intO y = oy at kd
    cases kd with
    | int h => exact .int h
    | oth h n' nb =>
      refine .oth ?_ n' nb
      cases v with
      | ref a =>
        obtain ⟨o, h1, h2⟩ := h
        refine ⟨o, hkp a o (fun z => ?_) h1, h2⟩
        rw [z, hPo] at h1
        cases h1
        cases h2
      | _ => exact h
  have hd2 : A'.depth + 2 < recursionLimit := by have := hr.dp; omega
  refine thn (lib_point (n := n) F D hb FB DB hbB gB mt mi a2 hd2 kd2) fun y' s3 r => ?_
  rw [btV_inR] at r
  exact r
end GA
/-! for k, x in enumerate(t), t a tuple -/
namespace GA
open PySem PySem.Spec PyProof.Rows L2
theorem enum_made {v : Value} {o : Obj} {H : Heap → Prop} (B : Begins v o H) :
    Meets (Builtin.«enumerate.__new__» ⟨[.type "enumerate", v], []⟩) (fun _ R z => H z.heap ∧
      R (.ok (.ret (.ref (z.heap.push o).objs.size))) { z with heap := (z.heap.push o).push { cls := .type "enumerate", data := .fields #[.none, .bool false, .ref z.heap.objs.size, rawInt 0, .none, .none] } }) := by
  refine .of_wp fun prog w A R z hz => ?_
  obtain ⟨hp, gs, dr, tk, os⟩ := z
  obtain ⟨ready, done⟩ := hz
  have sub := sub_enumerate
  have draw : ∀ {A' : Around} {E Q : Value → Shared → Prop}, Q (.ref hp.objs.size) ⟨hp.push o, gs, dr, tk, os⟩ → wpAny (model prog w) A' (pyIter v) Q E ⟨hp, gs, dr, tk, os⟩ := fun q => B.iter prog w _ _ ⟨hp, gs, dr, tk, os⟩ _ ready q
  wp_walk using draw
  refine wpAny_stack_any fun _ => wpAny_pure ?_
  split
  case' h_1 c _ _ _ _ _ => cases (c == Value.type "enumerate")
  all_goals (wp_walk using draw; exact ⟨_, rfl, done⟩)
theorem call_enum {prog : Program} {w : World} {A : Around} {E Q : Value → Shared → Prop} {z : Shared} {v : Value} {o : Obj} {H : Heap → Prop} (B : Begins v o H) (ready : H z.heap)
    (k : ∀ g, IsEnum g (z.heap.objs.size + 1) z.heap.objs.size 0 .none → g.get? z.heap.objs.size = some o → (∀ b u, z.heap.get? b = some u → g.get? b = some u) → Q (.ref (z.heap.objs.size + 1)) { z with heap := g }) :
    wpAny (model prog w) A (call (.type "enumerate") [v]) Q E z := by
  have size : (z.heap.push o).objs.size = z.heap.objs.size + 1 := Heap.size_push ..
  refine callType_new F.called_enumerate (by decide) (F.typeCall_enumerate_1 _) (F.newCall_enumerate_1 _) (fun x => F.args_object_init_2 x _) F.entry_enumerate_new (enum_made B) ⟨ready, ?_⟩
  show _ ∧ _
  rw [size]
  have here : IsEnum ((z.heap.push o).push { cls := .type "enumerate", data := .fields #[.none, .bool false, .ref z.heap.objs.size, rawInt 0, .none, .none] }) (z.heap.objs.size + 1) z.heap.objs.size 0 .none :=
    size ▸ Heap.get?_push_size (z.heap.push o) rfl
  exact ⟨⟨_, here, rfl⟩, k _ here (Heap.get?_push_of_some _ (Heap.get?_push_size _ B.free)) fun b u e => Heap.get?_push_of_some _ (Heap.get?_push_of_some _ e)⟩

/-- what the loop gets: at turn i a new pair of i and the tuple's i-th item -/
def IteT (K : PySem.W.Frag) (a : Addr) : It where
  go i H := ∃ (xs : List V) (x : V), SqT K H a xs ∧ xs[i]? = some x
  yld i H v H' := ∃ T x, v = .ref T ∧ H T = none ∧ H' = upd H T (.tup [.int (i : Nat), x]) ∧ ∀ xs, SqT K H a xs → xs[i]? = some x
  stop i H := ∃ xs : List V, SqT K H a xs ∧ xs.length ≤ i
/-- the enumerate object at e over the tuple's iterator at it, ahead of turn i -/
def AtTurn (a e it : Addr) (i : Nat) (h : Heap) : Prop := (∃ old, IsEnum h e it ((i : Nat) : Int) old) ∧ h.IsTupleIter it a i ∧ e ≠ it
section
variable {X : Cx} {pins : List (Addr × Obj)} {σ : L2.St} {H : Hp} {s : Shared} {a e it : Addr} {i : Nat} {E : Value → Shared → Prop} {elts : List Expr} {kk : Nat} {tpos : Pos}
theorem enumT_item (calm : X.calm = true) (ea : e ≠ a) (ia : it ≠ a) (I : Inv X pins σ H s) (own : ∀ b ∈ [e, it], FpOk X pins H b) (st : AtTurn a e it i s.heap) (g : (IteT X.K a).go i H) :
    wpAny (model X.prog X.w) X.A (pyNext (.ref e)) (fun r s1 => ∃ u, r = some u ∧
      wpAny (model X.prog X.w) X.A (letOwnedTupleGo (.Tuple elts kk tpos) (.ref e) u) (fun _ s2 => ∃ x H', Inv X pins σ H' s2 ∧ RelV x u ∧ (IteT X.K a).yld i H x H' ∧ AtTurn a e it (i + 1) s2.heap ∧ ∀ b ∈ [e, it], H' b = none) E s1) E s := by
  obtain ⟨⟨old, isE⟩, isI, ne⟩ := st
  obtain ⟨xs, x, hxs, hx⟩ := g
  obtain ⟨its, vals, tup, _⟩ := I.tuple hxs
  obtain ⟨u, hu, rel⟩ := vals.get hx
  have small : i < its.toArray.size := by simpa using (List.getElem?_eq_some_iff.mp hu).1
  have lte := Heap.lt_size isE
  have lti : it < s.heap.objs.size := let ⟨_, q, _⟩ := isI; Heap.lt_size q
  have outside : e ∉ [it, a] := by simp [ne, ea]
  refine wpAny_pyNext_enum_itemD (Draws.tuple (A := X.A.in1) (I.ok.hd calm) it a (Ne.symm ia) its.toArray) isE ⟨isI, tup⟩ small ne outside fun w' g tk got out next pair _ old' => ?_
  obtain rfl : u = w' := by
    have q : its[i]? = some w' := by simpa using got
    exact Option.some.inj (hu.symm.trans q)
  refine ⟨_, rfl, wpAny_letOwnedTupleGo_enum (s := { s with heap := g, toks := tk + 1 }) out fun g2 isE2 only => ?_⟩
  have pair2 := (only.2 _ (Nat.ne_of_gt lte)).trans pair
  have told : ObjOk X.prog X.w (upd H s.heap.objs.size (.tup [.int (i : Nat), x])) g2 s.heap.objs.size (.tup [.int (i : Nat), x]) :=
    ⟨(by decide : 2 ≤ sizeLine), [.int i tk, u], .cons ⟨_, rfl⟩ (.cons rel .nil), _, pair2, rfl, _, rfl⟩
  have J := I.turnedNew (ch := [e, it]) (h' := g2) (t' := tk + 1) (fun b o hb q => by
    simp only [List.mem_cons, List.not_mem_nil, or_false, not_or] at hb
    exact (only.2 b hb.1).trans (old' b o hb.1 hb.2 q)) own (Nat.le_refl _) told
  have fresh := I.hok.fresh (Nat.le_refl s.heap.objs.size)
  refine ⟨.ref s.heap.objs.size, _, J, rfl, ⟨_, x, rfl, fresh, rfl, fun ys hy => I.tuple_inj hxs hy ▸ hx⟩, ⟨⟨u, ?_⟩, next.1.at fun o q => (only.2 it (Ne.symm ne)).trans q, ne⟩, ?_⟩
  · rw [Int.natCast_succ]
    exact isE2
  · simp only [List.mem_cons, List.not_mem_nil, or_false]
    rintro b (rfl | rfl)
    · exact (upd_ne (Nat.ne_of_lt lte)).trans (own _ (by simp)).1
    · exact (upd_ne (Nat.ne_of_lt lti)).trans (own _ (by simp)).1
theorem enumT_end (calm : X.calm = true) (I : Inv X pins σ H s) (own : ∀ b ∈ [e, it], FpOk X pins H b) (st : AtTurn a e it i s.heap) (g : (IteT X.K a).stop i H) :
    wpAny (model X.prog X.w) X.A (pyNext (.ref e)) (fun r s1 => r = none ∧ Inv X pins σ H s1) E s := by
  obtain ⟨⟨_, isE⟩, isI, _⟩ := st
  obtain ⟨xs, hxs, past⟩ := g
  obtain ⟨its, vals, tup, _⟩ := I.tuple hxs
  have far : its.toArray.size ≤ i := by rw [List.size_toArray, ← vals.length]; exact past
  have typ : s.TypeIs (.ref e) "enumerate" := ⟨_, isE, rfl⟩
  obtain ⟨f0, f1, f2, f3, f4, f5⟩ := own it (by simp)
  unfold pyNext
  refine wpAny_bind (wpAny_attempt (wpAny_callSpecial?_slot (name := Str.ofString "__next__") typ F.slot_enumerate_next (wpAny_call_entry F.slot_enumerate_next typ F.entry_enumerate_next ?_ (F.args_enumerate_next_1 _))))
  refine wpAny_bind (m := field (.ref e) 2) (wpAny_field isE rfl (x := .ref it) rfl (wpAny_bind (wpAny_nextOf_tuple_end (I.ok.hd calm) isI tup (Array.getElem?_eq_none far) fun g x kept ⟨o, ho, cls⟩ => ?_)))
  exact wpAny_bind (wpAny_isInstance (T := "StopIteration") (b := true) ⟨o, ho, cls⟩ isSubtype_stop (wpAny_pure ⟨rfl, I.turned (t' := s.toks) (fun b o n q => kept b o n q) f0 f1 f3 f4 f5⟩))
end
theorem turn_enumT {P : Program} {w : World} {K : PySem.W.Frag} {elts : List Expr} {kk : Nat} {tpos : Pos} (a e it : Addr) (ea : e ≠ a) (ia : it ≠ a) : Turn P w K (.Tuple elts kk tpos) (IteT K a) [e, it] e (AtTurn a e it) where
  mem := List.mem_cons_self ..
  obj i h st := by
    obtain ⟨⟨_, isE⟩, ⟨o, ho, _, hd⟩, _⟩ := st
    simp only [List.mem_cons, List.not_mem_nil, or_false]
    rintro b (rfl | rfl)
    · exact ⟨_, isE, fun _ q => nomatch q⟩
    · exact ⟨o, ho, fun _ q => by cases hd.symm.trans q⟩
  keep i h h' st k := ⟨st.1.imp fun _ q => k e (by simp) _ q, st.2.1.at fun o q => k it (by simp) o q, st.2.2⟩
  item X e1 e2 e3 calm i pins s σ H E I own st g := by
    subst e1 e2 e3
    exact enumT_item calm ea ia I own st g
  done X e1 e2 e3 calm i pins s σ H E I own st g := by
    subst e1 e2 e3
    exact enumT_end calm I own st g
  self A i s Q E st q := let ⟨⟨_, isE⟩, _⟩ := st; wpAny_pyIter_enum isE q
def iEnumT (K : PySem.W.Frag) (ta : TA) : TI := fun σ H R => ta σ H fun vs H1 => ∃ a xs, vs = [.ref a] ∧ SqT K H1 a xs ∧ R (IteT K a) H1
theorem pi_enumT {X : Cx} {e : Expr} {ta : TA} {p pos tpos : Pos} {elts : List Expr} {kk : Nat} (hg : Gl X "enumerate") (hm : X.mg "enumerate" = none) (ha : PA X [e] ta) (one : starEach [e] X.env = [(false, eval e X.env)] := by rfl) :
    PI X (.Tuple elts kk tpos) (.Call (.Name "enumerate" p) [e] [] pos) (iEnumT X.K ta) := by
  constructor
  intro pins s σ H R I h
  refine Call_ (ld_blt I hg hm boot_enumerate (PyProof.Rows.callWith_type1 (thn (ha.run pos pins s σ H _ I h) fun us s1 ⟨vs, H1, J, rel, a, xs, ev, hxs, go⟩ => ?_) one rfl))
  subst ev
  obtain ⟨its, vals, tup, _⟩ := J.tuple hxs
  have lta := tup.lt
  rw [Vals.ref1 rel]
  refine call_enum (begins_tuple a its.toArray) tup fun g isE isI keep => wpAny_pyIter_enum isE ?_
  refine ⟨s1.heap.objs.size + 1, [s1.heap.objs.size + 1, s1.heap.objs.size], _, _, H1, rfl, J.kept (t' := s1.toks) keep, turn_enumT a _ _ (Nat.ne_of_gt (Nat.lt_succ_of_lt lta)) (Nat.ne_of_gt lta), ⟨⟨.none, isE⟩, ⟨_, isI, rfl, rfl⟩, Nat.succ_ne_self _⟩, ?_, go⟩
  simp only [List.mem_cons, List.not_mem_nil, or_false]
  rintro b (rfl | rfl)
  · exact J.fpOk (Nat.le_succ _) (J.hok.fresh (Nat.le_succ _))
  · exact J.fpOk (Nat.le_refl _) (J.hok.fresh (Nat.le_refl _))
theorem walk_enumT {K : PySem.W.Frag} {a : Addr} {xs : List V} : Walk (IteT K a) xs.length (fun H => SqT K H a xs) (YPair (fun i => some (.int (i : Nat))) (fun i => xs[i]?)) where
  goes i H hi h := ⟨xs, xs[i], h, List.getElem?_eq_getElem hi⟩
  stops H h := ⟨xs, h, Nat.le_refl _⟩
  yields i H v H' hi h y := let ⟨T, x, e, n, e2, f⟩ := y; ⟨T, _, x, e, n, e2, rfl, f xs h⟩
end GA
namespace GA
open PySem PySem.Spec PyProof.Rows L2 GxR

/-! ### sizes of sets -/
theorem len_le_sub : ∀ {ks ns : List Int}, ks.Nodup → (∀ k ∈ ks, k ∈ ns) → ks.length ≤ ns.length
  | [], _, _, _ => Nat.zero_le _
  | k :: ks, ns, hn, hs => by
    have h1 : k ∈ ns := hs k (List.mem_cons_self ..)
    have hn' := List.nodup_cons.mp hn
    have h2 : ks.length ≤ (ns.erase k).length := len_le_sub hn'.2 fun j hj => by
      have hne : j ≠ k := fun e => hn'.1 (e ▸ hj)
      exact (List.mem_erase_of_ne hne).mpr (hs j (List.mem_cons_of_mem _ hj))
    rw [List.length_erase_of_mem h1] at h2
    have h3 : 0 < ns.length := List.length_pos_of_mem h1
    show ks.length + 1 ≤ ns.length
    omega
theorem len_nodup {ks ns : List Int} (hk : ks.Nodup) (h : ∀ k, k ∈ ks ↔ k ∈ ns) (hn : ns.Nodup) : ks.length = ns.length :=
  Nat.le_antisymm (len_le_sub hk fun k z => (h k).mp z) (len_le_sub hn fun k z => (h k).mpr z)
theorem nodup_of_len {ks ns : List Int} (hk : ks.Nodup) (h : ∀ k, k ∈ ks ↔ k ∈ ns) (he : ks.length = ns.length) : ns.Nodup := by
  apply Classical.byContradiction
  intro hn
  obtain ⟨ms, hl, hm⟩ : ∃ ms : List Int, ms.length < ns.length ∧ ∀ k ∈ ns, k ∈ ms := by
    clear hk h he
    induction ns with
    | nil => exact absurd List.nodup_nil hn
    | cons x r ih =>
      by_cases hx : x ∈ r
      · exact ⟨r, Nat.lt_succ_self _, fun k hk => by
          rcases List.mem_cons.mp hk with z | z
          · rw [z]; exact hx
          · exact z⟩
      · obtain ⟨ms, hl, hm⟩ := ih fun z => hn (List.nodup_cons.mpr ⟨hx, z⟩)
        exact ⟨x :: ms, Nat.succ_lt_succ hl, fun k hk => by
          rcases List.mem_cons.mp hk with z | z
          · rw [z]; exact List.mem_cons_self ..
          · exact List.mem_cons_of_mem _ (hm k z)⟩
  have := len_le_sub hk fun k z => hm k ((h k).mp z)
  omega
/-- len(set(t)), t a tuple of ints -/
def tLenSetT (K : PySem.W.Frag) (ta : TE) : TE := fun σ H Q => ta σ H fun x H1 => ∃ (l : Addr) (ns : List Int), x = .ref l ∧ SqT K H1 l (ns.map V.int) ∧ ns.length ≤ 4000 ∧ ∀ ks : List Int, ks.Nodup → (∀ k, k ∈ ks ↔ k ∈ ns) → Q (.int (ks.length : Nat)) H1
theorem pe_lenSetT {X : Cx} {a : Expr} {ta : TE} {p p2 q pos : Pos} (hg : Gl X "len") (hm : X.mg "len" = none) (hg2 : Gl X "set") (hm2 : X.mg "set" = none) (ha : PE X a ta) (hc : X.calm = true := by rfl)
    (na : starEach [a] X.env = (false, eval a X.env) :: starEach [] X.env := by rfl) : PE X (.Call (.Name "len" p) [.Call (.Name "set" p2) [a] [] q] [] pos) (tLenSetT X.K ta) := by
  refine ⟨fun pins s σ H Q I h => ?_⟩
  refine Call_ (ld_blt I hg hm boot_len ?_)
  refine PyProof.Rows.callWith_builtin1 (PyProof.Rows.args_cons ?_ rfl) rfl rfl
  refine Call_ (ld_blt I hg2 hm2 boot_set ?_)
  refine PyProof.Rows.callWith_type1 (PyProof.Rows.args_cons (thn (ha.run pins s σ H _ I h) fun v s1 ⟨x, H1, I1, r1, q1⟩ => PyProof.Rows.args_nil ?_) na) na rfl
  obtain ⟨l, ns, rfl, hq, hl, q1⟩ := q1
  cases r1
  obtain ⟨its, r, pl, hz⟩ := I1.tuple hq
  refine call_set_tupI ns (I1.ok.hd hc) (show s1.heap.IsTuple l its.toArray from pl) (by simpa using RZ.intsAre_vals r) (by unfold scanBound; omega) fun h' tk c hS hle hk => ?_
  refine PyProof.Rows.args_nil ?_
  obtain ⟨o, es, ep, t, ho, hex, hd, _, hnd, hmem, _, hf, hn, _⟩ := hS
  have I2 : Inv X pins σ H1 { s1 with heap := h', toks := tk } := I1.kept fun b o e => hk b o e
  have q2 := q1 (es.toList.map keyOf) hnd (fun k => by rw [← hmem k, decide_eq_true_iff])
  rw [List.length_map, Array.length_toList] at q2
  exact call_len_set ho hex hd hf (by rw [hn] <;> omega) ⟨.int es.size, H1, I2.tok _, ⟨_, rfl⟩, q2⟩

/-! ### facts by names -/
def fdK (K : PySem.W.Frag) (x : Str) : FuncData := match K.lookup (He.ga K x) with
  | some ⟨_, _, .func fd, _⟩ => fd
  | _ => PySem.W.fnOf "" "" { posonlyargs := [], args := [], vararg := none, kwonlyargs := [], kw_defaults := [], kwarg := none, defaults := [] } [] { kind := .function, names := [], isGenerator := false, isCoroutine := false } .none .none .none .none none .none .none
theorem fun_of {K : PySem.W.Frag} {x q : Str} {st : Stmt} (h : ∃ fd, FunD K x q (defArgs st) (defBody st) (defScope st) [] [] (He.ga K x) fd) : Fun K x q st (He.ga K x) (fdK K x) := by
  obtain ⟨fd, F⟩ := h
  obtain ⟨oc, od, dV, kV, doc, pm, an, cdv, ct, osl, e, lk, hcd, hD, hK⟩ := F.ex
  have ed : dV = .none := by
    rcases hD with ⟨_, z⟩ | ⟨z, _⟩
    · exact z
    · exact absurd rfl z
  subst ed
  have ef : fdK K x = fd := by
    unfold fdK
    rw [lk]
  rw [ef]
  exact ⟨⟨oc, od, kV, doc, pm, an, cdv, ct, osl, e, lk, hcd⟩, F.kp⟩
/-- THE RULE for a def whose code object is asked for -/
theorem okC {P : Program} {w : World} {K : PySem.W.Frag} {mg : Str → Option Value} {base : Heap} {x qual : Str} {st : Stmt} {fd : FuncData} {N ps : List Str} {k : Nat} {sp : Sp} (F : Fun K x qual st (He.ga K x) fd) (S : FnScope N ps (defScope st)) (len : ∀ vs H Q E, sp vs H Q E → vs.length = ps.length)
    (hbody : ∀ (cdv : Value) (A : Around) (outer : List Env) (s : Shared) (H : Hp) (vs : List V) (Q : VK) (E : XK), cdv = .ref (He.cT K (x, none)).1 → Room k (A.deeper (envOfC qual (defScope st) s.heap.objs.size (He.ga K x) cdv)) → sp vs H Q E →
      ∃ t, PSs (cxOf CX0 P w K mg base N qual (defScope st) (He.ga K x) cdv A outer s H E).nox (defBody st) t ∧ t { nx := fun _ H' => Q .non H', rt := Q } (start N vs) H) : FnOk P w K mg base CX0 (k + 1) (He.ga K x) fd ps sp := by
  obtain ⟨oc, od, kV, doc, pm, an, cdv, ct, osl, rfl, lk, hcd⟩ := F.ex
  obtain ⟨c, rfl⟩ := He.codeIn_ref hcd
  have ec : He.codeOf K (x, none) = c := He.codeOf_eq (p := (x, none)) lk rfl
  refine fn_of lk hcd S len fun A outer s H vs Q E hr hsp => ?_
  obtain ⟨t, h, q⟩ := hbody (.ref c) A outer s H vs Q E (by show _ = Value.ref (He.codeOf K (x, none)); rw [ec]) hr hsp
  exact ⟨t, h.nox, q⟩
theorem gi_ok {mg : Str → Option Value} {x : Str} {i : Int} (h : ∃ t, mg x = some (.int i t)) : ∃ u, mg x = some u ∧ RelV (.int i) u := let ⟨t, e⟩ := h; ⟨_, e, t, rfl⟩
theorem gs_ok {mg : Str → Option Value} {x z : Str} (h : ∃ t, mg x = some (.str z t)) : ∃ u, mg x = some u ∧ RelV (.str z) u := let ⟨t, e⟩ := h; ⟨_, e, t, rfl⟩
theorem deepOf {k : Nat} {A : Around} (hr : Room k A) : A.units + 64 < cLine := by have := hr.un; omega
theorem hu0 {k : Nat} {A : Around} (hr : Room k A) : A.units < cLine := by have := hr.un; omega

theorem genS_by {env : Env} {scope : Scope} {x : Str} (h1 : scope.kind = .function) (h2 : scope.isCoroutine = false) (h3 : ∀ y ∈ scope.names, y.2 ≠ .cell) (h4 : scope.names.lookup (".0" : Str) = some NameKind.local) (h5 : scope.names.lookup x = some .local)
    (h : (scope.names.all fun y => match y.2 with | .free => (env.cells.lookup y.1).isSome | _ => true) = true) : GenS env scope x := by
  refine ⟨h1, h2, h3, h4, h5, fun y hy e => ?_⟩
  have q := List.all_eq_true.mp h y hy
  rw [e] at q
  exact Option.isSome_iff_exists.mp q
theorem base_ne {X : Cx} {pins : List (Addr × Obj)} {σ : L2.St} {H : Hp} {s : Shared} {P : Addr} (I : Inv X pins σ H s) (t : TabG H P) : ∀ b o, X.base.get? b = some o → b ≠ P := fun b o e z => by
  obtain ⟨ps, h, _⟩ := t
  have q := (I.bs b o e).2
  rw [z, h] at q
  cases q
/-! ### rules with the written part told (within a comprehension it must not hang on the block) -/
section
variable {X : Cx} {K : PySem.W.Frag}
theorem ixT (h : X.K = K) : IxR X (rIxT K) := by subst h; exact ix_tup
theorem ixL (h : X.K = K) : IxR X (rIxL K) := by subst h; exact ix_list
theorem lenS (h : X.K = K) : CallR X (.builtin "len") (fun xs H Q => ∃ p ys, xs = [.ref p] ∧ (SqL K H p ys ∨ SqT K H p ys) ∧ Q (.int ys.length) H) := by subst h; exact call_len_seq
theorem inS (h : X.K = K) : OpR X (compareOp .In) (rIn K false) := by subst h; exact op_in_seq
theorem ninS (h : X.K = K) : OpR X (compareOp .NotIn) (rIn K true) := by subst h; exact op_notIn_seq
theorem eqD (h : X.K = K) {k : Nat} (hr : Room k X.A) : OpR X (compareOp .Eq) (rEqD K) := by subst h; exact op_eqD (deepOf hr)
theorem neD (h : X.K = K) {k : Nat} (hr : Room k X.A) : OpR X (compareOp .NotEq) (rNeD K) := by subst h; exact op_neD (deepOf hr)
theorem catA (h : X.K = K) : OpR X (binaryOp .Add) (rCatA K) := by subst h; exact op_catA
theorem isiK (h : X.K = K) : CallR X (.builtin "isinstance") (rIsi K) := by subst h; exact call_isi
theorem isiTK (h : X.K = K) : CallR X (.builtin "isinstance") (rIsiT K) := by subst h; exact call_isiT
theorem lstOf (h : X.K = K) : CallR X (.type "list") (fun xs H Q => ∃ p ys, xs = [.ref p] ∧ (SqL K H p ys ∨ SqT K H p ys) ∧ ∀ l, H l = none → Q (.ref l) (upd H l (.lst ys))) := by subst h; exact call_list_of
theorem slL (h : X.K = K) : SlR X (rSlL K) := by subst h; exact sl_list
theorem slA (h : X.K = K) : SlR X (rSlA K) := by subst h; exact sl_tupA
theorem pe_tupK {a : Expr} {ta : TE} {p pos : Pos} (h : X.K = K) (hg : Gl X "tuple") (hm : X.mg "tuple" = none) (ha : PE X a ta) (na : starEach [a] X.env = (false, eval a X.env) :: starEach [] X.env := by rfl) : PE X (.Call (.Name "tuple" p) [a] [] pos) (tThen ta (kTup K)) := by subst h; exact pe_tupleOf hg hm ha na
theorem piT {tg l : Expr} {tl : TE} (h : X.K = K) (hl : PE X l tl) : PI X tg l (iTup K tl) := by subst h; exact pi_tup hl
theorem piL {tg l : Expr} {tl : TE} (h : X.K = K) (hl : PE X l tl) : PI X tg l (iList K tl) := by subst h; exact pi_list hl
end
theorem yesI {σ : L2.St} {H : Hp} {A B : Hp → Prop} (h : A H) : tYes σ H (fun b H3 => if b = true then A H3 else B H3) := by
  show if true = true then A H else B H
  exact iteT h
/-! ### heaps -/
/-- a list that is a row of draws: [the script, int, int, int] -/
def RowO (o : HO) : Prop := ∃ (s : Addr) (i j k : Int), o = .lst [.ref s, .int i, .int j, .int k]
/-- what nobody changes behind its maker's back -/
def Stable : HO → Prop
  | .tbl _ => False
  | .lst xs => ¬ RowO (.lst xs)
  | _ => True
def RowAt (H : Hp) (r s : Addr) : Prop := ∃ i j k : Int, H r = some (.lst [.ref s, .int i, .int j, .int k]) ∧ 0 ≤ i ∧ 0 ≤ j ∧ j < 2147483648 ∧ 0 ≤ k
structure Ex (H H' : Hp) : Prop where
  st : ∀ a o, H a = some o → Stable o → H' a = some o
  tab : ∀ P, TabG H P → TabG H' P
  row : ∀ r s, RowAt H r s → RowAt H' r s
  no : ∀ a, H' a = none → H a = none
theorem Ex.refl (H : Hp) : Ex H H := ⟨fun _ _ h _ => h, fun _ h => h, fun _ _ h => h, fun _ h => h⟩
theorem Ex.trans {H H1 H2 : Hp} (a : Ex H H1) (b : Ex H1 H2) : Ex H H2 := ⟨fun x o h s => b.st x o (a.st x o h s) s, fun P h => b.tab P (a.tab P h), fun r s h => b.row r s (a.row r s h), fun x h => a.no x (b.no x h)⟩
theorem Ex.new {H : Hp} {p : Addr} {o : HO} (h : H p = none) : Ex H (upd H p o) := by
  refine ⟨fun a u e _ => ?_, fun P t => ?_, fun r s t => ?_, fun a e => ?_⟩
  · rw [upd_ne (ne_of_none e h)]; exact e
  · obtain ⟨ps, e, t⟩ := t
    exact ⟨ps, by rw [upd_ne (ne_of_none e h)]; exact e, t⟩
  · obtain ⟨i, j, k, e, t⟩ := t
    exact ⟨i, j, k, by rw [upd_ne (ne_of_none e h)]; exact e, t⟩
  · by_cases z : a = p
    · rw [z]; exact h
    · rw [upd_ne z] at e; exact e
/-- an object that is new behind H changes -/
theorem Ex.own {H H1 : Hp} {p : Addr} {o : HO} (x : Ex H H1) (h : H p = none) : Ex H (upd H1 p o) := by
  refine ⟨fun a u e s => ?_, fun P t => ?_, fun r s t => ?_, fun a e => ?_⟩
  · rw [upd_ne (ne_of_none e h)]; exact x.st a u e s
  · obtain ⟨ps, e, _⟩ := id t
    obtain ⟨ps', e', t'⟩ := x.tab P t
    exact ⟨ps', by rw [upd_ne (ne_of_none e h)]; exact e', t'⟩
  · obtain ⟨_, _, _, e, _⟩ := id t
    obtain ⟨i, j, k, e', t'⟩ := x.row r s t
    exact ⟨i, j, k, by rw [upd_ne (ne_of_none e h)]; exact e', t'⟩
  · by_cases z : a = p
    · rw [z]; exact h
    · rw [upd_ne z] at e; exact x.no a e
/-- a table has grown -/
theorem Ex.tabbed {H H' : Hp} {P : Addr} (hP : TabG H P) (t : Tabbed P H H') : Ex H H' := by
  obtain ⟨ps, e0, _⟩ := hP
  have nP : ∀ a o, H a = some o → (∀ q, o ≠ .tbl q) → a ≠ P := fun a o e n z => by
    rw [z, e0] at e
    exact n ps (Option.some.inj e).symm
  refine ⟨fun a o e s => ?_, fun Q q => ?_, fun r s q => ?_, fun a e => ?_⟩
  · rw [t.2 a (nP a o e fun q z => by rw [z] at s; exact s)]; exact e
  · by_cases z : Q = P
    · rw [z]; exact t.1
    · obtain ⟨ps', e', t'⟩ := q
      exact ⟨ps', by rw [t.2 Q z]; exact e', t'⟩
  · obtain ⟨i, j, k, e, q⟩ := q
    exact ⟨i, j, k, by rw [t.2 r (nP r _ e fun q z => by cases z)]; exact e, q⟩
  · by_cases z : a = P
    · obtain ⟨ps', e', _⟩ := t.1
      rw [z, e'] at e
      cases e
    · rw [t.2 a z] at e; exact e
/-- the row is drawn from -/
theorem Ex.draw {H : Hp} {r s : Addr} {i j k : Int} (h : RowAt H r s) (hi : 0 ≤ i) (hj : 0 ≤ j) (hj2 : j < 2147483648) (hk : 0 ≤ k) : Ex H (upd H r (.lst [.ref s, .int i, .int j, .int k])) := by
  obtain ⟨i0, j0, k0, e0, _⟩ := h
  refine ⟨fun a u e st => ?_, fun P t => ?_, fun r' s' t => ?_, fun a e => ?_⟩
  · have z : a ≠ r := fun z => by
      rw [z, e0] at e
      cases e
      exact st ⟨s, i0, j0, k0, rfl⟩
    rw [upd_ne z]; exact e
  · obtain ⟨ps, e, t⟩ := t
    have z : P ≠ r := fun z => by
      rw [z, e0] at e
      cases e
    exact ⟨ps, by rw [upd_ne z]; exact e, t⟩
  · obtain ⟨i1, j1, k1, e, t⟩ := t
    by_cases z : r' = r
    · rw [z, e0] at e
      cases e
      exact ⟨i, j, k, by rw [z]; exact upd_same, hi, hj, hj2, hk⟩
    · exact ⟨i1, j1, k1, by rw [upd_ne z]; exact e, t⟩
  · by_cases z : a = r
    · rw [z, upd_same] at e; cases e
    · rw [upd_ne z] at e; exact e
section
variable {K : PySem.W.Frag} {H H' : Hp} {a p : Addr} {xs ys : List V} {o : HO}
theorem Ex.t (e : Ex H H') (h : SqT K H a xs) : SqT K H' a xs := by
  rcases h with (h | ⟨o, h⟩) | h
  · exact .inl (.inl (e.st _ _ h trivial))
  · exact .inl (.inr ⟨o, e.st _ _ h trivial⟩)
  · exact .inr h
theorem Ex.l (e : Ex H H') (n : ¬ RowO (.lst xs)) (h : SqL K H a xs) : SqL K H' a xs := by
  rcases h with (h | ⟨o, h⟩) | h
  · exact .inl (.inl (e.st _ _ h n))
  · exact .inl (.inr ⟨o, e.st _ _ h trivial⟩)
  · exact .inr h
theorem ints_norow {ns : List Int} : ¬ RowO (.lst (ns.map V.int)) := fun ⟨s, i, j, k, e⟩ => by
  have e1 : ns.map V.int = [.ref s, .int i, .int j, .int k] := HO.lst.inj e
  cases ns with
  | nil => cases e1
  | cons x r => cases (List.cons.inj e1).1
theorem nil_norow : ¬ RowO (.lst []) := fun ⟨s, i, j, k, e⟩ => by cases e
theorem Ex.i {ns : List Int} (e : Ex H H') (h : H a = some (.lst (ns.map V.int))) : H' a = some (.lst (ns.map V.int)) := e.st _ _ h ints_norow
theorem sq_new : SqT K (upd H p (.tup xs)) p xs := .inl (.inl upd_same)
theorem sl_new : SqL K (upd H p (.lst xs)) p xs := .inl (.inl upd_same)
theorem sl_at (h : H p = some (.lst xs)) : SqL K H p xs := .inl (.inl h)
end
end GA
namespace GA
open PySem PySem.Spec PyProof.Rows L2 GxR
open Srt in
theorem sorted_ordT {prog : Program} {w : World} {A : Around} {E : Value → Shared → Prop} {s : Shared} {t : Addr} {vs : List Value} {ltv : Value → Value → Bool} {Q : Value → Shared → Prop} (O : SrtO.Swo ltv) (ht : s.heap.IsTuple t vs.toArray) (hz : vs.length ≤ sizeLine)
    (hS : 2 ≤ vs.length → ∀ (h₁ : Heap) (a : Addr), SrtO.SortableO prog w A.in1.in1 { s with heap := h₁ } a vs ltv)
    (h : ∀ (out : List Value) (h1 h' : Heap) (e : Nat), SrtO.Srtd ltv out → SrtO.Stb ltv out vs → (∀ b o, s.heap.get? b = some o → h1.get? b = some o) → h'.get? h1.objs.size = some (seqObj "list" out.toArray e) → (∀ b o, h1.get? b = some o → h'.get? b = some o) → Q (.ref h1.objs.size) { s with heap := h' }) :
    wpAny (model prog w) A (call (.builtin "sorted") [.ref t]) Q E s := by
  refine Calls.call_function_entry kind_sorted plain_sorted entry_sorted (args_sorted1 _) ?_
  unfold Builtin.«sorted»
  refine wpAny_bind (m := checkCount "sorted" 1 1 _) (wpAny_pure ?_)
  obtain ⟨o, ho, hc, n, hd⟩ := ht
  refine wpAny_bind (wpAny_collect_seq t (.inr rfl) ho hc hd (fun h1 hk => ?_) (by rw [List.size_toArray]; exact hz))
  have e0 : vs.toArray.toList = vs := by simp
  rw [e0]
  refine wpAny_bind (wpAny_newList ?_ hz)
  have hoL : (h1.push (seqObj "list" vs.toArray 0)).get? h1.objs.size = some (seqObj "list" vs.toArray 0) := Heap.get?_push_size _ rfl
  refine wpAny_bind (wpAny_holding (wpAny_call_entry slot_list_sort ⟨_, hoL, rfl⟩ entry_list_sort (SrtO.list_sort_ord O hoL hz (fun h2 => hS h2 _ _) fun out hs hb => ⟨_, rfl, ?_⟩) (args_list_sort _)))
  obtain ⟨e, he⟩ := sortedHeap_at (vs := vs) (out := out.toArray) hoL
  refine wpAny_pure ⟨_, rfl, h out h1 _ e hs hb hk he fun b u q => ?_⟩
  have hlt : b < h1.objs.size := Heap.lt_size q
  have hlt2 : b < (h1.push (seqObj "list" vs.toArray 0)).objs.size := by rw [Heap.size_push]; exact Nat.lt_succ_of_lt hlt
  rw [sortedHeap_old (Nat.ne_of_lt hlt) hlt2]
  exact Heap.get?_push_of_some _ q
/-- sorted(t), t a tuple of ints -/
def rSortedTI (K : PySem.W.Frag) : List V → Hp → VK → Prop := fun vs H Q => ∃ (a : Addr) (ns : List Int), vs = [V.ref a] ∧ SqT K H a (ns.map V.int) ∧ ∀ (ns' : List Int) (p : Addr), ns'.Perm ns → ns'.Pairwise (· ≤ ·) → H p = none → Q (.ref p) (upd H p (.lst (ns'.map V.int)))
theorem cr_sortedTI {X : Cx} : CallR X (.builtin "sorted") (rSortedTI X.K) := by
  intro pins s σ H vs us Q I r h
  obtain ⟨a, ns, rfl, hs, q⟩ := h
  obtain ⟨its, rv, hl, hz⟩ := I.tuple hs
  rw [Vals.ref1 r]
  have hi := rv.ints
  refine sorted_ordT SrtO.swo_int (show s.heap.IsTuple a its.toArray from hl) (by rw [← rv.length]; exact hz) (fun h2 h₁ a' => SrtO.ints_sortable hi h2) fun out h1 h' ep o1 o2 hk he hk' => ?_
  obtain ⟨k1, k2, k3⟩ := SrtO.ints_out hi o1 o2
  have hlen : ((out.map SrtO.iv).map V.int).length ≤ sizeLine := by
    rw [List.length_map, k2.length_eq]
    rw [List.length_map] at hz
    exact hz
  have I1 : Inv X pins σ H { s with heap := h1 } := I.kept (t' := s.toks) hk
  exact ⟨.ref _, upd H h1.objs.size (.lst ((out.map SrtO.iv).map V.int)), I1.laid (t' := s.toks) hk' (Nat.le_refl _) ⟨hlen, out, ep, vals_of_ints k1, he⟩, rfl, q _ _ k2 k3 (I1.hok.fresh (Nat.le_refl _))⟩
theorem srtT {X : Cx} {K : PySem.W.Frag} (h : X.K = K) : CallR X (.builtin "sorted") (rSortedTI K) := by subst h; exact cr_sortedTI
theorem srtL {X : Cx} {K : PySem.W.Frag} (h : X.K = K) : CallR X (.builtin "sorted") (rSortedI K) := by subst h; exact cr_sortedI
end GA
/-! promises and the mathematics behind them: checks of permutations, products, inverses, draws -/
namespace KL
open PySem PySem.Spec PyProof.Rows L2 GA GxR
section
variable {K : PySem.W.Frag}
def TyK (H : Hp) (v : V) : Prop := ∃ n, zTyV v H = some n
theorem zty_int (v : V) (H : Hp) : zTyV v H = some "int" → ∃ i, v = .int i := by
  intro h
  cases v with
  | int i => exact ⟨i, rfl⟩
  | ref p =>
    have h : (match H p with
      | some (.lst _) => some "list"
      | some (.tup _) => some "tuple"
      | _ => none) = some "int" := h
    split at h
    · exact absurd (Option.some.inj h) (by decide)
    · exact absurd (Option.some.inj h) (by decide)
    · cases h
  | ty y => exact absurd h (by simp [zTyV])
  | non => exact absurd (Option.some.inj h) (by decide)
  | bl => exact absurd (Option.some.inj h) (by decide)
  | str => exact absurd (Option.some.inj h) (by decide)
  | byt => exact absurd (Option.some.inj h) (by decide)
  | flt => exact absurd (Option.some.inj h) (by decide)
/-- the items, if it is a tuple -/
def tupO : Option HO → Option (List V)
  | some (.tup xs) => some xs
  | _ => none
def tupOf (H : Hp) : V → Option (List V)
  | .ref a => tupO (H a)
  | _ => none
theorem tupO_some {o : Option HO} {xs : List V} (h : tupO o = some xs) : o = some (.tup xs) := by
  unfold tupO at h
  split at h
  · rw [Option.some.inj h]
  · cases h
theorem tupOf_some {H : Hp} {v : V} {xs : List V} (h : tupOf H v = some xs) : ∃ a, v = .ref a ∧ H a = some (.tup xs) := by
  cases v with
  | ref a => exact ⟨a, rfl, tupO_some h⟩
  | _ => cases h
theorem tupOf_at {H : Hp} {a : Addr} {xs : List V} (h : H a = some (.tup xs)) : tupOf H (.ref a) = some xs := by
  show tupO (H a) = some xs
  rw [h]
  rfl
theorem zty_tup (v : V) (H : Hp) (xs : List V) (h : tupOf H v = some xs) : zTyV v H = some "tuple" := by
  obtain ⟨a, rfl, e⟩ := tupOf_some h
  simp only [zTyV, e]
theorem zty_not (v : V) (H : Hp) (n : String) (h : zTyV v H = some n) (hn : tupOf H v = none) : n ≠ "tuple" := by
  intro z
  subst z
  cases v with
  | ref p =>
    have h : (match H p with
      | some (.lst _) => some "list"
      | some (.tup _) => some "tuple"
      | _ => none) = some "tuple" := h
    split at h
    · exact absurd (Option.some.inj h) (by decide)
    · rename_i e
      rw [tupOf_at e] at hn
      cases hn
    · cases h
  | ty y => exact absurd h (by simp [zTyV])
  | non => exact absurd (Option.some.inj h) (by decide)
  | bl => exact absurd (Option.some.inj h) (by decide)
  | int => exact absurd (Option.some.inj h) (by decide)
  | str => exact absurd (Option.some.inj h) (by decide)
  | byt => exact absurd (Option.some.inj h) (by decide)
  | flt => exact absurd (Option.some.inj h) (by decide)
/-- a value that may be asked whether it is a permutation -/
structure GoodV (K : PySem.W.Frag) (H : Hp) (v : V) : Prop where
  ty : TyK H v
  it : ∀ xs, tupOf H v = some xs → xs.length ≤ 4000 ∧ ∀ x ∈ xs, PlainV K H x
def lenB (H : Hp) (n : Int) (v : V) : Bool := match tupOf H v with
  | some xs => decide ((xs.length : Int) = n)
  | none => false
def ptsB (H : Hp) (d : Int) (v : V) : Bool := match tupOf H v with
  | some xs => xs.all (btV 0 (d - 1))
  | none => false
def dstB (H : Hp) (d : Int) (v : V) : Bool := match tupOf H v with
  | some xs => xs.all (btV 0 (d - 1)) && decide xs.Nodup
  | none => false
def permB (H : Hp) (d : Int) (v : V) : Bool := lenB H d v && dstB H d v
def anyB (H : Hp) (v : V) : Bool := match tupOf H v with
  | some xs => btV 1 12 (.int xs.length) && permB H xs.length v
  | none => false
theorem all_ints {lo hi : Int} : ∀ {xs : List V}, xs.all (btV lo hi) = true → ∃ ns : List Int, xs = ns.map V.int ∧ ∀ n ∈ ns, lo ≤ n ∧ n ≤ hi
  | [], _ => ⟨[], rfl, fun _ h => by cases h⟩
  | x :: xs, h => by
    rw [List.all_cons, Bool.and_eq_true] at h
    obtain ⟨ns, rfl, hn⟩ := all_ints h.2
    cases x with
    | int i =>
      have h1 : (decide (lo ≤ i) && decide (i ≤ hi)) = true := h.1
      rw [Bool.and_eq_true, decide_eq_true_iff, decide_eq_true_iff] at h1
      refine ⟨i :: ns, rfl, fun n hm => ?_⟩
      rcases List.mem_cons.mp hm with z | z
      · rw [z]; exact h1
      · exact hn n z
    | _ => cases h.1
theorem nodup_map_int {ns : List Int} : (ns.map V.int).Nodup ↔ ns.Nodup := by
  constructor
  · intro h
    induction ns with
    | nil => exact List.nodup_nil
    | cons x r ih =>
      rw [List.map_cons, List.nodup_cons] at h
      exact List.nodup_cons.mpr ⟨fun z => h.1 (List.mem_map.mpr ⟨x, z, rfl⟩), ih h.2⟩
  · intro h
    induction ns with
    | nil => exact List.nodup_nil
    | cons x r ih =>
      rw [List.nodup_cons] at h
      rw [List.map_cons, List.nodup_cons]
      refine ⟨fun z => ?_, ih h.2⟩
      obtain ⟨y, hy, e⟩ := List.mem_map.mp z
      exact h.1 (V.int.inj e ▸ hy)
def PP (K : PySem.W.Frag) : Addr := (He.cT K ("are_points", none)).2
def spBetween : Sp := fun vs H Q _ => ∃ (v : V) (lo hi : Int), vs = [v, .int lo, .int hi] ∧ TyK H v ∧ Q (.bl (btV lo hi v)) H
def spDegree : Sp := fun vs H Q _ => ∃ v : V, vs = [v] ∧ TyK H v ∧ Q (.bl (btV 1 12 v)) H
def spTupleOf : Sp := fun vs H Q _ => ∃ (v : V) (n : Int), vs = [v, .int n] ∧ TyK H v ∧ Q (.bl (lenB H n v)) H
def spPoints (K : PySem.W.Frag) : Sp := fun vs H Q _ => ∃ (v : V) (d : Int), vs = [.int d, v] ∧ GoodV K H v ∧ TabG H (PP K) ∧ ∀ H', Ex H H' → Q (.bl (ptsB H d v)) H'
def spDistinct (K : PySem.W.Frag) : Sp := fun vs H Q _ => ∃ (v : V) (d : Int), vs = [.int d, v] ∧ GoodV K H v ∧ TabG H (PP K) ∧ ∀ H', Ex H H' → Q (.bl (dstB H d v)) H'
def spPerm (K : PySem.W.Frag) : Sp := fun vs H Q _ => ∃ (v : V) (d : Int), vs = [.int d, v] ∧ GoodV K H v ∧ TabG H (PP K) ∧ ∀ H', Ex H H' → Q (.bl (permB H d v)) H'
def spAny (K : PySem.W.Frag) : Sp := fun vs H Q _ => ∃ v : V, vs = [v] ∧ GoodV K H v ∧ TabG H (PP K) ∧ ∀ H', Ex H H' → Q (.bl (anyB H v)) H'
def spCkDegree : Sp := fun vs H Q _ => ∃ v : V, vs = [v] ∧ TyK H v ∧ btV 1 12 v = true ∧ Q .non H
def spCkAny (K : PySem.W.Frag) : Sp := fun vs H Q _ => ∃ v : V, vs = [v] ∧ GoodV K H v ∧ TabG H (PP K) ∧ anyB H v = true ∧ ∀ H', Ex H H' → Q .non H'
def spCkPerm (K : PySem.W.Frag) : Sp := fun vs H Q _ => ∃ (v : V) (d : Int), vs = [.int d, v] ∧ GoodV K H v ∧ TabG H (PP K) ∧ permB H d v = true ∧ ∀ H', Ex H H' → Q .non H'
/-- a permutation of the points below n -/
structure IsPm (n : Nat) (p : List Int) : Prop where
  len : p.length = n
  nd : p.Nodup
  bd : ∀ x ∈ p, 0 ≤ x ∧ x < n
/-- the tuple of a permutation's images at a -/
structure Pm (H : Hp) (a : Addr) (n : Nat) (p : List Int) : Prop where
  at_ : H a = some (.tup (p.map V.int))
  is : IsPm n p
theorem Pm.ex {H H' : Hp} {a : Addr} {n : Nat} {p : List Int} (x : Ex H H') (h : Pm H a n p) : Pm H' a n p := ⟨x.st _ _ h.at_ trivial, h.is⟩
theorem plain_int {K : PySem.W.Frag} {H : Hp} {p : List Int} : ∀ x ∈ p.map V.int, PlainV K H x := fun x hx => by
  obtain ⟨i, _, rfl⟩ := List.mem_map.mp hx
  trivial
theorem Pm.good {H : Hp} {a : Addr} {n : Nat} {p : List Int} (h : Pm H a n p) (hn : n ≤ 12) : GoodV K H (.ref a) := by
  have ht := tupOf_at h.at_
  refine ⟨⟨"tuple", zty_tup _ H _ ht⟩, fun xs hx => ?_⟩
  rw [ht] at hx
  cases hx
  refine ⟨?_, plain_int⟩
  rw [List.length_map, h.is.len]
  omega
theorem all_bt {lo hi : Int} {ns : List Int} (h : ∀ n ∈ ns, lo ≤ n ∧ n ≤ hi) : (ns.map V.int).all (btV lo hi) = true := by
  rw [List.all_eq_true]
  intro x hx
  obtain ⟨i, hi', rfl⟩ := List.mem_map.mp hx
  have := h i hi'
  show (decide (lo ≤ i) && decide (i ≤ hi)) = true
  rw [decide_eq_true this.1, decide_eq_true this.2]
  rfl
theorem Pm.permB {H : Hp} {a : Addr} {n : Nat} {p : List Int} (h : Pm H a n p) : permB H n (.ref a) = true := by
  have ht := tupOf_at h.at_
  unfold KL.permB lenB dstB
  rw [ht]
  show (decide (((p.map V.int).length : Int) = (n : Int)) && ((p.map V.int).all (btV 0 (n - 1)) && decide (p.map V.int).Nodup)) = true
  rw [List.length_map, h.is.len, decide_eq_true rfl, all_bt fun x hx => ⟨(h.is.bd x hx).1, by have := (h.is.bd x hx).2; omega⟩, decide_eq_true (nodup_map_int.mpr h.is.nd)]
  rfl
theorem Pm.anyB {H : Hp} {a : Addr} {n : Nat} {p : List Int} (h : Pm H a n p) (h1 : 1 ≤ n) (h12 : n ≤ 12) : anyB H (.ref a) = true := by
  have ht := tupOf_at h.at_
  unfold KL.anyB
  rw [ht]
  show (btV 1 12 (.int ((p.map V.int).length : Nat)) && KL.permB H ((p.map V.int).length : Nat) (.ref a)) = true
  rw [List.length_map, h.is.len, h.permB]
  show ((decide ((1 : Int) ≤ n) && decide ((n : Int) ≤ 12)) && true) = true
  rw [decide_eq_true (by omega), decide_eq_true (by omega)]
  rfl
def spCkTwo (K : PySem.W.Frag) : Sp := fun vs H Q _ => ∃ (a b : Addr) (n : Nat) (p q : List Int), vs = [.ref a, .ref b] ∧ Pm H a n p ∧ Pm H b n q ∧ 1 ≤ n ∧ n ≤ 12 ∧ TabG H (PP K) ∧ ∀ H', Ex H H' → Q .non H'
/-! ### permutations as lists of images -/
def mulL (p q : List Int) : List Int := p.map fun x => q.getD x.toNat 0
def invL (p : List Int) : List Int := (List.range p.length).map fun i => ((p.idxOf (Int.ofNat i) : Nat) : Int)
theorem IsPm.get {n : Nat} {p : List Int} (h : IsPm n p) {i : Nat} (hi : i < n) : ∃ x : Int, p[i]? = some x ∧ 0 ≤ x ∧ x < n := by
  have hl : i < p.length := by rw [h.len]; exact hi
  exact ⟨p[i], List.getElem?_eq_getElem hl, h.bd _ (List.getElem_mem hl)⟩
theorem getD_of {l : List Int} {i : Nat} {x d : Int} (h : l[i]? = some x) : l.getD i d = x := by rw [List.getD_eq_getElem?_getD, h]; rfl
theorem at_int {l : List Int} {x : Int} {v : Int} (h0 : 0 ≤ x) (h : l[x.toNat]? = some v) : atI (l.map V.int) x = some (.int v) := by
  have e : x = ((x.toNat : Nat) : Int) := by omega
  rw [e]
  exact atI_nat (by rw [List.getElem?_map, h]; rfl)
def spUnit : Sp := fun vs H Q _ => ∃ n : Nat, vs = [.int n] ∧ n ≤ 1000 ∧ ∀ a H', Ex H H' → H' a = some (.tup (((List.range n).map Int.ofNat).map V.int)) → Q (.ref a) H'
theorem rg_ints (n : Nat) : rgV 0 n = ((List.range n).map Int.ofNat).map V.int := by
  unfold rgV
  rw [List.map_map]
  have e : ((n : Int) - 0).toNat = n := by omega
  rw [e]
  refine List.map_congr_left fun i _ => ?_
  show V.int (0 + (i : Int)) = V.int (i : Int)
  rw [Int.zero_add]
def spMul : Sp := fun vs H Q _ => ∃ (a b : Addr) (n : Nat) (p q : List Int), vs = [.ref a, .ref b] ∧ Pm H a n p ∧ Pm H b n q ∧ n ≤ 1000 ∧ ∀ c H', Ex H H' → H' c = some (.tup ((mulL p q).map V.int)) → Q (.ref c) H'
theorem mul_take {p q : List Int} {i : Nat} {x : Int} (h : p[i]? = some x) : (mulL p q).take (i + 1) = (mulL p q).take i ++ [q.getD x.toNat 0] := by
  rw [List.take_add_one]
  unfold mulL
  rw [List.getElem?_map, h]
  rfl
/-! ### inverses: a list filled by places -/
/-- the places of p's first i items are filled: at p j stands f j -/
structure Filled (n : Nat) (p : List Int) (f : Nat → Int) (i : Nat) (L : List Int) : Prop where
  len : L.length = n
  at_ : ∀ j x, j < i → p[j]? = some x → L[x.toNat]? = some (f j)
theorem Filled.start {n : Nat} {p : List Int} {f : Nat → Int} : Filled n p f 0 (List.replicate n 0) := ⟨List.length_replicate .., fun j x h => absurd h (Nat.not_lt_zero _)⟩
theorem Filled.step {n : Nat} {p : List Int} {f : Nat → Int} {i : Nat} {L : List Int} {x : Int} (h : Filled n p f i L) (hp : IsPm n p) (hx : p[i]? = some x) : Filled n p f (i + 1) (L.set x.toNat (f i)) := by
  have hb := hp.bd x (List.mem_of_getElem? hx)
  refine ⟨by rw [List.length_set, h.len], fun j y hj hy => ?_⟩
  by_cases e : j = i
  · subst e
    rw [hx] at hy
    cases hy
    rw [List.getElem?_set_self (by rw [h.len]; omega)]
  · have hne : x.toNat ≠ y.toNat := fun z => by
      have hb2 := hp.bd y (List.mem_of_getElem? hy)
      have exy : x = y := by omega
      subst exy
      obtain ⟨h1, e1⟩ := List.getElem?_eq_some_iff.mp hx
      obtain ⟨h2, e2⟩ := List.getElem?_eq_some_iff.mp hy
      exact e ((List.getElem_inj hp.nd).mp (e2.trans e1.symm))
    rw [List.getElem?_set_ne hne]
    exact h.at_ j y (by omega) hy
/-- each point below n is an image -/
theorem IsPm.onto {n : Nat} {p : List Int} (h : IsPm n p) {k : Nat} (hk : k < n) : ∃ j, j < n ∧ p[j]? = some (k : Int) := by
  have hm : (k : Int) ∈ p := by
    apply Classical.byContradiction
    intro hn
    have h1 : ∀ x ∈ (k : Int) :: p, x ∈ (List.range n).map Int.ofNat := fun x hx => by
      rcases List.mem_cons.mp hx with z | z
      · rw [z]
        exact List.mem_map.mpr ⟨k, List.mem_range.mpr hk, rfl⟩
      · have := h.bd x z
        exact List.mem_map.mpr ⟨x.toNat, List.mem_range.mpr (by omega), by show ((x.toNat : Nat) : Int) = x; omega⟩
    have h2 := len_le_sub (List.nodup_cons.mpr ⟨hn, h.nd⟩) h1
    rw [List.length_map, List.length_range, List.length_cons, h.len] at h2
    omega
  obtain ⟨j, hj, e⟩ := List.getElem_of_mem hm
  exact ⟨j, by rw [← h.len]; exact hj, by rw [List.getElem?_eq_getElem hj, e]⟩
theorem Filled.uniq {n : Nat} {p : List Int} {f : Nat → Int} {L M : List Int} (hp : IsPm n p) (h : Filled n p f n L) (g : Filled n p f n M) : L = M := by
  refine List.ext_getElem? fun k => ?_
  by_cases hk : k < n
  · obtain ⟨j, hj, e⟩ := hp.onto hk
    have h1 := h.at_ j _ hj e
    have h2 := g.at_ j _ hj e
    have ek : ((k : Nat) : Int).toNat = k := by omega
    rw [ek] at h1 h2
    rw [h1, h2]
  · rw [List.getElem?_eq_none (by rw [h.len]; omega), List.getElem?_eq_none (by rw [g.len]; omega)]
theorem invL_filled {n : Nat} {p : List Int} (hp : IsPm n p) : Filled n p (fun j => (j : Int)) n (invL p) := by
  unfold invL
  refine ⟨by rw [List.length_map, List.length_range, hp.len], fun j x hj hx => ?_⟩
  have hb := hp.bd x (List.mem_of_getElem? hx)
  rw [List.getElem?_map, List.getElem?_range (by rw [hp.len]; omega)]
  show some (((p.idxOf (Int.ofNat x.toNat)) : Nat) : Int) = some ((j : Nat) : Int)
  have e : Int.ofNat x.toNat = x := by show ((x.toNat : Nat) : Int) = x; omega
  obtain ⟨h1, e1⟩ := List.getElem?_eq_some_iff.mp hx
  rw [e, ← e1, List.Nodup.idxOf_getElem hp.nd]
def spInv : Sp := fun vs H Q _ => ∃ (a : Addr) (n : Nat) (p : List Int), vs = [.ref a] ∧ Pm H a n p ∧ n ≤ 1000 ∧ ∀ c H', Ex H H' → H' c = some (.tup ((invL p).map V.int)) → Q (.ref c) H'
theorem rep_flat (n : Nat) : (List.replicate n [V.int 0]).flatten = (List.replicate n (0 : Int)).map V.int := by
  induction n with
  | zero => rfl
  | succ n ih =>
    rw [List.replicate_succ, List.flatten_cons, ih, List.replicate_succ]
    rfl
theorem set_map (L : List Int) (k : Nat) (v : Int) : (L.map V.int).set k (.int v) = (L.set k v).map V.int := by rw [List.map_set]
theorem ixN_of {n : Nat} {x : Int} (h0 : 0 ≤ x) (h : x < n) : ixN n x = some x.toNat := by
  unfold ixN
  rw [if_pos h0, if_pos h]
theorem Filled.isPm {n : Nat} {q : List Int} {f : Nat → Int} {L : List Int} (hq : IsPm n q) (h : Filled n q f n L) (hb : ∀ j, j < n → 0 ≤ f j ∧ f j < n) (hi : ∀ j k, j < n → k < n → f j = f k → j = k) : IsPm n L := by
  have key : ∀ k, k < n → ∃ j, j < n ∧ q[j]? = some (k : Int) ∧ L[k]? = some (f j) := fun k hk => by
    obtain ⟨j, hj, e⟩ := hq.onto hk
    have h1 := h.at_ j _ hj e
    have ek : ((k : Nat) : Int).toNat = k := by omega
    rw [ek] at h1
    exact ⟨j, hj, e, h1⟩
  refine ⟨h.len, ?_, fun x hx => ?_⟩
  · rw [List.nodup_iff_pairwise_ne, List.pairwise_iff_getElem]
    intro a b ha hb2 hab e
    obtain ⟨j, hj, e1, e2⟩ := key a (by rw [← h.len]; exact ha)
    obtain ⟨k, hk, e3, e4⟩ := key b (by rw [← h.len]; exact hb2)
    rw [List.getElem?_eq_getElem ha] at e2
    rw [List.getElem?_eq_getElem hb2] at e4
    have ejk := hi j k hj hk (by rw [← Option.some.inj e2, ← Option.some.inj e4, e])
    subst ejk
    rw [e1] at e3
    have := Option.some.inj e3
    omega
  · obtain ⟨k, hk, e⟩ := List.getElem_of_mem hx
    obtain ⟨j, hj, _, e2⟩ := key k (by rw [← h.len]; exact hk)
    rw [List.getElem?_eq_getElem hk, e] at e2
    rw [Option.some.inj e2]
    exact hb j hj
theorem IsPm.inj {n : Nat} {p : List Int} (h : IsPm n p) {i j : Nat} {x : Int} (hi : p[i]? = some x) (hj : p[j]? = some x) : i = j := by
  obtain ⟨h1, e1⟩ := List.getElem?_eq_some_iff.mp hi
  obtain ⟨h2, e2⟩ := List.getElem?_eq_some_iff.mp hj
  exact (List.getElem_inj h.nd).mp (e1.trans e2.symm)
theorem invL_pm {n : Nat} {p : List Int} (hp : IsPm n p) : IsPm n (invL p) := (invL_filled hp).isPm hp (fun j hj => ⟨by omega, by omega⟩) fun j k _ _ e => by omega
/-- q's image of p's image of j -/
def thenF (p q : List Int) (j : Nat) : Int := q.getD (p.getD j 0).toNat 0
theorem thenF_of {n : Nat} {p q : List Int} (hp : IsPm n p) (hq : IsPm n q) {j : Nat} (hj : j < n) : ∃ x y : Int, p[j]? = some x ∧ 0 ≤ x ∧ x < n ∧ q[x.toNat]? = some y ∧ 0 ≤ y ∧ y < n ∧ thenF p q j = y := by
  obtain ⟨x, hx, h0, hb⟩ := hp.get hj
  obtain ⟨y, hy, g0, gb⟩ := hq.get (i := x.toNat) (by omega)
  exact ⟨x, y, hx, h0, hb, hy, g0, gb, by unfold thenF; rw [getD_of hx, getD_of hy]⟩
theorem thenF_inj {n : Nat} {p q : List Int} (hp : IsPm n p) (hq : IsPm n q) {j k : Nat} (hj : j < n) (hk : k < n) (e : thenF p q j = thenF p q k) : j = k := by
  obtain ⟨x, y, hx, h0, hb, hy, g0, gb, ej⟩ := thenF_of hp hq hj
  obtain ⟨x', y', hx', h0', hb', hy', g0', gb', ek⟩ := thenF_of hp hq hk
  rw [ej, ek] at e
  subst e
  have e2 := hq.inj hy hy'
  have e3 : x = x' := by omega
  subst e3
  exact hp.inj hx hx'
theorem mulL_get {n : Nat} {p q : List Int} (hp : IsPm n p) {j : Nat} (hj : j < n) : (mulL p q)[j]? = some (thenF p q j) := by
  obtain ⟨x, hx, _, _⟩ := hp.get hj
  unfold mulL thenF
  rw [List.getElem?_map, hx, getD_of hx]
  rfl
theorem mulL_pm {n : Nat} {p q : List Int} (hp : IsPm n p) (hq : IsPm n q) : IsPm n (mulL p q) := by
  have hl : (mulL p q).length = n := by unfold mulL; rw [List.length_map, hp.len]
  refine ⟨hl, ?_, fun x hx => ?_⟩
  · rw [List.nodup_iff_pairwise_ne, List.pairwise_iff_getElem]
    intro a b ha hb hab e
    have ea := mulL_get (q := q) hp (j := a) (by omega)
    have eb := mulL_get (q := q) hp (j := b) (by omega)
    rw [List.getElem?_eq_getElem ha] at ea
    rw [List.getElem?_eq_getElem hb] at eb
    have := thenF_inj hp hq (j := a) (k := b) (by omega) (by omega) (by rw [← Option.some.inj ea, ← Option.some.inj eb, e])
    omega
  · obtain ⟨k, hk, e⟩ := List.getElem_of_mem hx
    have ek := mulL_get (q := q) hp (j := k) (by omega)
    rw [List.getElem?_eq_getElem hk, e] at ek
    obtain ⟨_, y, _, _, _, _, g0, gb, ey⟩ := thenF_of hp hq (j := k) (by omega)
    rw [Option.some.inj ek, ey]
    exact ⟨g0, gb⟩
theorem unit_pm (n : Nat) : IsPm n ((List.range n).map Int.ofNat) := by
  refine ⟨by rw [List.length_map, List.length_range], ?_, fun x hx => ?_⟩
  · rw [List.nodup_iff_pairwise_ne, List.pairwise_iff_getElem]
    intro a b ha hb hab e
    rw [List.getElem_map, List.getElem_map, List.getElem_range, List.getElem_range] at e
    have : (a : Int) = (b : Int) := e
    omega
  · obtain ⟨k, hk, rfl⟩ := List.mem_map.mp hx
    have := List.mem_range.mp hk
    exact ⟨by show (0 : Int) ≤ (k : Int); omega, by show (k : Int) < (n : Int); omega⟩
def spConj : Sp := fun vs H Q _ => ∃ (a b : Addr) (n : Nat) (p g : List Int), vs = [.ref a, .ref b] ∧ Pm H a n p ∧ Pm H b n g ∧ n ≤ 1000 ∧ ∀ c H' L, Ex H H' → H' c = some (.tup (L.map V.int)) → Filled n g (thenF p g) n L → Q (.ref c) H'
def unitL (n : Nat) : List Int := (List.range n).map Int.ofNat
def spIdentity : Sp := fun vs H Q _ => ∃ n : Nat, vs = [.int n] ∧ 1 ≤ n ∧ n ≤ 12 ∧ ∀ a H', Ex H H' → Pm H' a n (unitL n) → Q (.ref a) H'
def spProduct (K : PySem.W.Frag) : Sp := fun vs H Q _ => ∃ (a b : Addr) (n : Nat) (p q : List Int), vs = [.ref a, .ref b] ∧ Pm H a n p ∧ Pm H b n q ∧ 1 ≤ n ∧ n ≤ 12 ∧ TabG H (PP K) ∧ ∀ c H', Ex H H' → Pm H' c n (mulL p q) → Q (.ref c) H'
def spInverse (K : PySem.W.Frag) : Sp := fun vs H Q _ => ∃ (a : Addr) (n : Nat) (p : List Int), vs = [.ref a] ∧ Pm H a n p ∧ 1 ≤ n ∧ n ≤ 12 ∧ TabG H (PP K) ∧ ∀ c H', Ex H H' → Pm H' c n (invL p) → Q (.ref c) H'
def spConjugate (K : PySem.W.Frag) : Sp := fun vs H Q _ => ∃ (a b : Addr) (n : Nat) (p g : List Int), vs = [.ref a, .ref b] ∧ Pm H a n p ∧ Pm H b n g ∧ 1 ≤ n ∧ n ≤ 12 ∧ TabG H (PP K) ∧ ∀ c H' L, Ex H H' → Pm H' c n L → Filled n g (thenF p g) n L → Q (.ref c) H'
theorem thenF_filled {n : Nat} {p g q L : List Int} (hp : IsPm n p) (hg : IsPm n g) (hq : IsPm n q) (h : Filled n q (thenF p g) n L) : IsPm n L :=
  h.isPm hq (fun j hj => by
    obtain ⟨_, _, _, _, _, _, g0, gb, e⟩ := thenF_of hp hg hj
    rw [e]
    exact ⟨g0, gb⟩) fun j k hj hk e => thenF_inj hp hg hj hk e
def spCommutator (K : PySem.W.Frag) : Sp := fun vs H Q _ => ∃ (a b : Addr) (n : Nat) (p q : List Int), vs = [.ref a, .ref b] ∧ Pm H a n p ∧ Pm H b n q ∧ 1 ≤ n ∧ n ≤ 12 ∧ TabG H (PP K) ∧ ∀ c H' L, Ex H H' → Pm H' c n L → Filled n (mulL q p) (thenF p q) n L → Q (.ref c) H'
theorem comm_filled {n : Nat} {p q L : List Int} (hp : IsPm n p) (hq : IsPm n q) (h : Filled n q (thenF p q) n L) : Filled n (mulL q p) (thenF p q) n (mulL (invL p) L) := by
  have hL := thenF_filled hp hq hq h
  refine ⟨(mulL_pm (invL_pm hp) hL).len, fun j x hj hx => ?_⟩
  obtain ⟨k, y, hk, k0, kb, hy, y0, yb, e⟩ := thenF_of hq hp hj
  rw [mulL_get hq hj, e] at hx
  cases hx
  have h1 := (invL_filled hp).at_ k.toNat x (by omega) hy
  have h2 := h.at_ j k hj hk
  unfold mulL
  rw [List.getElem?_map, h1]
  show some (L.getD (((k.toNat : Nat) : Int)).toNat 0) = some (thenF p q j)
  have ek : (((k.toNat : Nat) : Int)).toNat = k.toNat := by omega
  rw [ek, getD_of h2]
/-! ### draws -/
def spTaken (K : PySem.W.Frag) : Sp := fun vs H Q _ => ∃ (r s : Addr) (m : Nat) (ns : List Int), vs = [.ref r, .int m] ∧ RowAt H r s ∧ SqL K H s (ns.map V.int) ∧ 1 ≤ m ∧ m ≤ 2000000000 ∧ ∀ (j : Nat) H', Ex H H' → j < m → Q (.int j) H'
theorem IsPm.swap {n : Nat} {L : List Int} (h : IsPm n L) {i j : Nat} {x y : Int} (hi : L[i]? = some x) (hj : L[j]? = some y) : IsPm n ((L.set i y).set j x) := by
  obtain ⟨h1, e1⟩ := List.getElem?_eq_some_iff.mp hi
  obtain ⟨h2, e2⟩ := List.getElem?_eq_some_iff.mp hj
  have p := List.set_set_perm h1 h2
  rw [e1, e2] at p
  exact ⟨p.length_eq.trans h.len, p.nodup_iff.mpr h.nd, fun z hz => h.bd z (p.mem_iff.mp hz)⟩
def spLawPerm (K : PySem.W.Frag) : Sp := fun vs H Q _ => ∃ (r s : Addr) (n : Nat) (ns : List Int), vs = [.ref r, .int n] ∧ RowAt H r s ∧ SqL K H s (ns.map V.int) ∧ 1 ≤ n ∧ n ≤ 1000 ∧ ∀ c H' p, Ex H H' → Pm H' c n p → Q (.ref c) H'
def spLawUnit : Sp := fun vs H Q _ => ∃ n : Nat, vs = [.int n] ∧ n ≤ 1000 ∧ ∀ a H', Ex H H' → Pm H' a n (unitL n) → Q (.ref a) H'
def spLawInv : Sp := fun vs H Q _ => ∃ (a : Addr) (n : Nat) (p : List Int), vs = [.ref a] ∧ Pm H a n p ∧ n ≤ 1000 ∧ ∀ c H', Ex H H' → Pm H' c n (invL p) → Q (.ref c) H'
/-! ### the law's own comparison -/
theorem isi_q {K : PySem.W.Frag} {H : Hp} {x : V} {T C : String} {b : Bool} {Q : VK} (t : TyX K H x (.type T)) (k : kitB T C = some b) (q : Q (.bl b) H) : rIsi K [x, .ty C] H Q := ⟨x, .ty C, .type T, .type C, b, rfl, .ty C, t, kit_ty k, q⟩
theorem isit_q {K : PySem.W.Frag} {H : Hp} {x : V} {T C D : String} {b c : Bool} {tp : Addr} {Q : VK} (t : TyX K H x (.type T)) (hp : H tp = some (.tup [.ty C, .ty D])) (k : kitB T C = some b) (k2 : kitB T D = some c) (q : Q (.bl (b || c)) H) : rIsiT K [x, .ref tp] H Q := by
  refine ⟨x, tp, [.ty C, .ty D], .type T, [.type C, .type D], b || c, rfl, hp, .cons (.ty C) (.cons (.ty D) .nil), t, ?_, q⟩
  refine kitAny_cons (kit_ty k) (fun e => ?_) (fun e => by rw [e]; rfl)
  subst e
  refine kitAny_cons (kit_ty k2) (fun e => by rw [e]; rfl) (fun e => by rw [e]; rfl)
theorem tyx_int {K : PySem.W.Frag} {H : Hp} (i : Int) : TyX K H (.int i) (.type "int") := .base (.int i)
theorem tyx_tup {K : PySem.W.Frag} {H : Hp} {a : Addr} {xs : List V} (h : H a = some (.tup xs)) : TyX K H (.ref a) (.type "tuple") := .base (.tup h)
def spAlike0 : Sp := fun vs H Q _ => ∃ (x y : Int), vs = [.int x, .int y] ∧ ∀ H', Ex H H' → Q (.bl (decide (x = y))) H'
theorem dp_nil {K : PySem.W.Frag} {H : Hp} {a : Addr} (h : H a = some (.lst [])) : Dp K H (.ref a) (.list []) := .lst (sl_at h) .nil
def spAlike : Sp := fun vs H Q _ => ∃ (a b : Addr) (ns : List Int), vs = [.ref a, .ref b] ∧ H a = some (.tup (ns.map V.int)) ∧ H b = some (.tup (ns.map V.int)) ∧ ns.length ≤ 1000 ∧ ∀ H', Ex H H' → Q (.bl true) H'
theorem dp_all {K : PySem.W.Frag} {H : Hp} : ∀ ns : List Int, DpAll K H (ns.map V.int) (ns.map PyData.int)
  | [] => .nil
  | x :: r => .cons (.int x) (dp_all r)
theorem dp_ints {K : PySem.W.Frag} {H : Hp} {a : Addr} {ns : List Int} (h : H a = some (.lst (ns.map V.int))) : Dp K H (.ref a) (.list (ns.map PyData.int)) := .lst (sl_at h) (dp_all ns)
theorem canLay_ints (ns : List Int) : PyData.canLay0 (.list (ns.map PyData.int)) = true := SeqAt.canLay_of_shaped (PySem.W.ke_shaped_ints ns)
theorem srt_unit {n : Nat} {p ns : List Int} (hp : IsPm n p) (h : ns.Perm p) (hs : ns.Pairwise (· ≤ ·)) : ns = unitL n := by
  have hpu : p.Perm (unitL n) := (List.perm_ext_iff_of_nodup hp.nd (unit_pm n).nd).mpr fun x => by
    constructor
    · intro hx
      have := hp.bd x hx
      exact List.mem_map.mpr ⟨x.toNat, List.mem_range.mpr (by omega), by show ((x.toNat : Nat) : Int) = x; omega⟩
    · intro hx
      obtain ⟨k, hk, rfl⟩ := List.mem_map.mp hx
      obtain ⟨j, hj, e⟩ := hp.onto (List.mem_range.mp hk)
      exact List.mem_of_getElem? e
  refine PySem.W.ksm_same (h.trans hpu) hs ?_
  unfold unitL
  rw [List.pairwise_map]
  refine List.Pairwise.imp (fun {a b} h => ?_) List.pairwise_lt_range
  show ((a : Nat) : Int) ≤ ((b : Nat) : Int)
  omega
def spIsPerm : Sp := fun vs H Q _ => ∃ (a : Addr) (n : Nat) (p : List Int), vs = [.int n, .ref a] ∧ Pm H a n p ∧ n ≤ 1000 ∧ ∀ H', Ex H H' → Q (.bl true) H'
theorem invL_invL {n : Nat} {p : List Int} (hp : IsPm n p) : invL (invL p) = p := by
  have hi := invL_pm hp
  refine Filled.uniq hi (invL_filled hi) ⟨hp.len, fun j x hj hx => ?_⟩
  obtain ⟨k, hk, e⟩ := hp.onto hj
  have h1 := (invL_filled hp).at_ k _ hk e
  have ej : ((j : Nat) : Int).toNat = j := by omega
  rw [ej, hx] at h1
  have ex : x = (k : Int) := Option.some.inj h1
  rw [ex]
  have ek : ((k : Nat) : Int).toNat = k := by omega
  rw [ek, e]
theorem mul_inv {n : Nat} {p : List Int} (hp : IsPm n p) : mulL p (invL p) = unitL n := by
  have hi := invL_pm hp
  refine List.ext_getElem? fun j => ?_
  by_cases hj : j < n
  · obtain ⟨x, y, hx, h0, hb, hy, _, _, e⟩ := thenF_of hp hi hj
    have h1 := (invL_filled hp).at_ j x hj hx
    rw [hy] at h1
    rw [mulL_get hp hj, e]
    unfold unitL
    rw [List.getElem?_map, List.getElem?_range hj]
    exact h1
  · rw [List.getElem?_eq_none (by rw [(mulL_pm hp hi).len]; omega), List.getElem?_eq_none (by rw [show (unitL n).length = n from (unit_pm n).len]; omega)]
end
end KL
/-! powers of permutations and their cycles -/
namespace KL
open PySem PySem.Spec PyProof.Rows L2 GA GxR
/-- p times itself, k times -/
def pwL (n : Nat) (p : List Int) : Nat → List Int
  | 0 => unitL n
  | k + 1 => mulL (pwL n p k) p
theorem pwL_pm {n : Nat} {p : List Int} (hp : IsPm n p) : ∀ k, IsPm n (pwL n p k)
  | 0 => unit_pm n
  | k + 1 => mulL_pm (pwL_pm hp k) hp
theorem unitL_get {n j : Nat} (h : j < n) : (unitL n)[j]? = some (j : Int) := by
  unfold unitL
  rw [List.getElem?_map, List.getElem?_range h]
  rfl
theorem pm_ext {n : Nat} {p q : List Int} (hp : p.length = n) (hq : q.length = n) (h : ∀ j, j < n → p[j]? = q[j]?) : p = q := by
  refine List.ext_getElem? fun j => ?_
  by_cases hj : j < n
  · exact h j hj
  · rw [List.getElem?_eq_none (by omega), List.getElem?_eq_none (by omega)]
theorem mulL_at {p q : List Int} {j : Nat} {x y : Int} (hx : p[j]? = some x) (hy : q[x.toNat]? = some y) : (mulL p q)[j]? = some y := by
  unfold mulL
  rw [List.getElem?_map, hx]
  show some (q.getD x.toNat 0) = some y
  rw [getD_of hy]
theorem unit_mulL {n : Nat} {p : List Int} (hp : IsPm n p) : mulL (unitL n) p = p := by
  refine pm_ext (n := n) (mulL_pm (unit_pm n) hp).len hp.len fun j hj => ?_
  obtain ⟨y, hy, _⟩ := hp.get hj
  rw [mulL_at (unitL_get hj) (y := y) (by rw [show ((j : Nat) : Int).toNat = j by omega]; exact hy), hy]
theorem mulL_unit {n : Nat} {p : List Int} (hp : IsPm n p) : mulL p (unitL n) = p := by
  refine pm_ext (n := n) (mulL_pm hp (unit_pm n)).len hp.len fun j hj => ?_
  obtain ⟨y, hy, h0, hb⟩ := hp.get hj
  rw [mulL_at hy (y := y) (by rw [unitL_get (by omega)]; congr 1; omega), hy]
theorem mulL_assoc {n : Nat} {p q r : List Int} (hp : IsPm n p) (hq : IsPm n q) (hr : IsPm n r) : mulL (mulL p q) r = mulL p (mulL q r) := by
  refine pm_ext (n := n) (mulL_pm (mulL_pm hp hq) hr).len (mulL_pm hp (mulL_pm hq hr)).len fun j hj => ?_
  obtain ⟨x, hx, x0, xb⟩ := hp.get hj
  obtain ⟨y, hy, y0, yb⟩ := hq.get (i := x.toNat) (by omega)
  obtain ⟨z, hz, z0, zb⟩ := hr.get (i := y.toNat) (by omega)
  rw [mulL_at (mulL_at hx hy) hz, mulL_at hx (mulL_at hy hz)]
theorem pwL_one {n : Nat} {p : List Int} (hp : IsPm n p) : pwL n p 1 = p := unit_mulL hp
theorem pwL_add {n : Nat} {p : List Int} (hp : IsPm n p) (a : Nat) : ∀ b, mulL (pwL n p a) (pwL n p b) = pwL n p (a + b)
  | 0 => mulL_unit (pwL_pm hp a)
  | b + 1 => by
    show mulL (pwL n p a) (mulL (pwL n p b) p) = mulL (pwL n p (a + b)) p
    rw [← mulL_assoc (pwL_pm hp a) (pwL_pm hp b) hp, pwL_add hp a b]
theorem pwL_per {n N : Nat} {p : List Int} (hp : IsPm n p) (h : pwL n p N = unitL n) (k : Nat) : ∀ t, pwL n p (k + N * t) = pwL n p k
  | 0 => rfl
  | t + 1 => by
    have e : k + N * (t + 1) = (k + N * t) + N := by rw [Nat.mul_succ]; omega
    rw [e, ← pwL_add hp, h, mulL_unit (pwL_pm hp _), pwL_per hp h k t]
theorem pwL_mod {n N : Nat} {p : List Int} (hp : IsPm n p) (h : pwL n p N = unitL n) (k : Nat) : pwL n p (k % N) = pwL n p k := by
  rw [← pwL_per hp h (k % N) (k / N), Nat.mod_add_div]
/-- a row that p turns by one place -/
structure Turn (p r : List Int) : Prop where
  ne : 0 < r.length
  st : ∀ i x, r[i]? = some x → p[x.toNat]? = r[(i + 1) % r.length]?
/-- p's cycles -/
structure Cyc (n : Nat) (p : List Int) (R : List (List Int)) : Prop where
  tn : ∀ r ∈ R, Turn p r
  nd : R.flatten.Nodup
  bd : ∀ x ∈ R.flatten, 0 ≤ x ∧ x < n
theorem Turn.pw {n : Nat} {p r : List Int} (hp : IsPm n p) (T : Turn p r) (hb : ∀ x ∈ r, 0 ≤ x ∧ x < n) {i : Nat} {x : Int} (h : r[i]? = some x) : ∀ k, (pwL n p k)[x.toNat]? = r[(i + k) % r.length]?
  | 0 => by
    have hi : i < r.length := (List.getElem?_eq_some_iff.mp h).1
    have b := hb x (List.mem_of_getElem? h)
    show (unitL n)[x.toNat]? = _
    rw [unitL_get (by omega), Nat.add_zero, Nat.mod_eq_of_lt hi, h]
    congr 1
    omega
  | k + 1 => by
    have ih := T.pw hp hb h k
    have hm : (i + k) % r.length < r.length := Nat.mod_lt _ T.ne
    rw [List.getElem?_eq_getElem hm] at ih
    have st := T.st _ _ (List.getElem?_eq_getElem hm)
    have hm2 : ((i + k) % r.length + 1) % r.length < r.length := Nat.mod_lt _ T.ne
    rw [List.getElem?_eq_getElem hm2] at st
    show (mulL (pwL n p k) p)[x.toNat]? = _
    rw [mulL_at ih st, ← List.getElem?_eq_getElem hm2]
    congr 1
    rw [Nat.add_mod, Nat.mod_mod, ← Nat.add_mod, Nat.add_assoc]
theorem nodup_row {R : List (List Int)} (h : R.flatten.Nodup) : ∀ r ∈ R, r.Nodup := by
  induction R with
  | nil => intro r hr; cases hr
  | cons a R ih =>
    intro r hr
    rw [List.flatten_cons] at h
    have h2 := List.nodup_append.mp h
    rcases List.mem_cons.mp hr with z | z
    · rw [z]; exact h2.1
    · exact ih h2.2.1 r z
theorem Cyc.pw {n : Nat} {p : List Int} {R : List (List Int)} (hp : IsPm n p) (C : Cyc n p R) {r : List Int} (hr : r ∈ R) {i : Nat} {x : Int} (h : r[i]? = some x) (k : Nat) : (pwL n p k)[x.toNat]? = r[(i + k) % r.length]? :=
  (C.tn r hr).pw hp (fun x hx => C.bd x (List.mem_flatten.mpr ⟨r, hr, hx⟩)) h k
theorem Cyc.dvd {n N : Nat} {p : List Int} {R : List (List Int)} (hp : IsPm n p) (C : Cyc n p R) {r : List Int} (hr : r ∈ R) (hN : pwL n p N = unitL n) : r.length ∣ N := by
  have T := C.tn r hr
  have h0 : r[0]? = some (r[0]'T.ne) := List.getElem?_eq_getElem T.ne
  have b := C.bd _ (List.mem_flatten.mpr ⟨r, hr, List.mem_of_getElem? h0⟩)
  have e := C.pw hp hr h0 N
  have hm : (0 + N) % r.length < r.length := Nat.mod_lt _ T.ne
  rw [hN, unitL_get (by omega), List.getElem?_eq_getElem hm] at e
  have e2 := Option.some.inj e
  have e3 : r[0]'T.ne = r[(0 + N) % r.length] := by rw [← e2]; omega
  have e4 := (List.getElem_inj (nodup_row C.nd r hr)).mp e3
  rw [Nat.zero_add] at e4
  exact Nat.dvd_of_mod_eq_zero e4.symm
theorem Cyc.pwMod {n N : Nat} {p : List Int} {R : List (List Int)} (hp : IsPm n p) (C : Cyc n p R) {r : List Int} (hr : r ∈ R) {i : Nat} {x : Int} (h : r[i]? = some x) (hN : pwL n p N = unitL n) (h1 : 1 ≤ N) (e : Int) :
    (pwL n p (e % (N : Int)).toNat)[x.toNat]? = r[(((i : Int) + e) % (r.length : Int)).toNat]? := by
  rw [C.pw hp hr h]
  congr 1
  obtain ⟨t, et⟩ := C.dvd hp hr hN
  have l0 := (C.tn r hr).ne
  have n0 : 0 ≤ e % (N : Int) := Int.emod_nonneg _ (by omega)
  have a0 : 0 ≤ ((i : Int) + e) % (r.length : Int) := Int.emod_nonneg _ (by omega)
  have k : (((i + (e % (N : Int)).toNat) % r.length : Nat) : Int) = ((i : Int) + e) % (r.length : Int) := by
    rw [Int.natCast_emod, Int.natCast_add, Int.toNat_of_nonneg n0, Int.add_emod, Int.emod_emod_of_dvd e (by rw [et]; exact ⟨t, by rw [Int.natCast_mul]⟩), ← Int.add_emod]
  omega
/-- numbers that sum to at most b have a common multiple of at most 60 -/
def chk : Nat → Nat → Nat → Bool
  | 0, _, acc => decide (1 ≤ acc) && decide (acc ≤ 60)
  | f + 1, b, acc => (decide (1 ≤ acc) && decide (acc ≤ 60)) && (List.range b).all fun a => chk f (b - (a + 1)) (Nat.lcm acc (a + 1))
theorem chk_acc : ∀ f b acc, chk f b acc = true → 1 ≤ acc ∧ acc ≤ 60
  | 0, b, acc, h => by
    have h : (decide (1 ≤ acc) && decide (acc ≤ 60)) = true := h
    rw [Bool.and_eq_true, decide_eq_true_iff, decide_eq_true_iff] at h
    exact h
  | f + 1, b, acc, h => by
    have h : ((decide (1 ≤ acc) && decide (acc ≤ 60)) && (List.range b).all fun a => chk f (b - (a + 1)) (Nat.lcm acc (a + 1))) = true := h
    rw [Bool.and_eq_true, Bool.and_eq_true, decide_eq_true_iff, decide_eq_true_iff] at h
    exact h.1
theorem chk_all : ∀ (ls : List Nat) (f b acc : Nat), chk f b acc = true → (∀ l ∈ ls, 1 ≤ l) → ls.sum ≤ b → ls.length ≤ f → ∃ N, 1 ≤ N ∧ N ≤ 60 ∧ acc ∣ N ∧ ∀ l ∈ ls, l ∣ N
  | [], f, b, acc, h, _, _, _ => ⟨acc, (chk_acc f b acc h).1, (chk_acc f b acc h).2, Nat.dvd_refl _, fun _ z => by cases z⟩
  | l :: ls, 0, b, acc, h, _, _, hf => absurd hf (by rw [List.length_cons]; omega)
  | l :: ls, f + 1, b, acc, h, h1, hs, hf => by
    have h : ((decide (1 ≤ acc) && decide (acc ≤ 60)) && (List.range b).all fun a => chk f (b - (a + 1)) (Nat.lcm acc (a + 1))) = true := h
    rw [Bool.and_eq_true] at h
    have l1 := h1 l (List.mem_cons_self ..)
    rw [List.sum_cons] at hs
    have hl := List.all_eq_true.mp h.2 (l - 1) (List.mem_range.mpr (by omega))
    have el : l - 1 + 1 = l := by omega
    rw [el] at hl
    obtain ⟨N, a, c, d, g⟩ := chk_all ls f (b - l) _ hl (fun x hx => h1 x (List.mem_cons_of_mem _ hx)) (by omega) (by rw [List.length_cons] at hf; omega)
    refine ⟨N, a, c, Nat.dvd_trans (Nat.dvd_lcm_left _ _) d, fun x hx => ?_⟩
    rcases List.mem_cons.mp hx with z | z
    · rw [z]; exact Nat.dvd_trans (Nat.dvd_lcm_right _ _) d
    · exact g x z
theorem chk12 : chk 12 12 1 = true := by decide +kernel
theorem Cyc.period {n : Nat} {p : List Int} {R : List (List Int)} (hp : IsPm n p) (C : Cyc n p R) (all : ∀ x : Int, 0 ≤ x → x < n → x ∈ R.flatten) (hn : n ≤ 12) : ∃ N, 1 ≤ N ∧ N ≤ 60 ∧ pwL n p N = unitL n := by
  have hs : (R.map List.length).sum = R.flatten.length := List.length_flatten.symm
  have hl : R.flatten.length ≤ n := by
    have h := len_le_sub (ns := unitL n) C.nd fun x hx => by
      have b := C.bd x hx
      exact List.mem_map.mpr ⟨x.toNat, List.mem_range.mpr (by omega), by show ((x.toNat : Nat) : Int) = x; omega⟩
    unfold unitL at h
    rw [List.length_map, List.length_range] at h
    exact h
  have h1 : ∀ l ∈ R.map List.length, 1 ≤ l := fun l hl => by
    obtain ⟨r, hr, rfl⟩ := List.mem_map.mp hl
    exact (C.tn r hr).ne
  have hlen : ∀ ls : List Nat, (∀ l ∈ ls, 1 ≤ l) → ls.length ≤ ls.sum := fun ls => by
    induction ls with
    | nil => intro _; exact Nat.le_refl _
    | cons a ls ih =>
      intro h
      have := ih fun l z => h l (List.mem_cons_of_mem _ z)
      have := h a (List.mem_cons_self ..)
      rw [List.length_cons, List.sum_cons]
      omega
  obtain ⟨N, a, b, _, d⟩ := chk_all (R.map List.length) 12 12 1 chk12 h1 (by omega) (by have := hlen _ h1; omega)
  refine ⟨N, a, b, pm_ext (n := n) (pwL_pm hp N).len (unit_pm n).len fun j hj => ?_⟩
  obtain ⟨r, hr, hx⟩ := List.mem_flatten.mp (all (j : Int) (by omega) (by omega))
  obtain ⟨i, hi, e⟩ := List.getElem_of_mem hx
  have h : r[i]? = some (j : Int) := by rw [List.getElem?_eq_getElem hi, e]
  have k := C.pw hp hr h N
  obtain ⟨t, et⟩ := d _ (List.mem_map_of_mem (f := List.length) hr)
  rw [et, Nat.add_mul_mod_self_left, Nat.mod_eq_of_lt hi, h, show ((j : Nat) : Int).toNat = j by omega] at k
  rw [et, k]
  exact (unitL_get hj).symm
theorem Cyc.same {n N M : Nat} {p : List Int} {R : List (List Int)} (hp : IsPm n p) (C : Cyc n p R) (all : ∀ x : Int, 0 ≤ x → x < n → x ∈ R.flatten) (hN : pwL n p N = unitL n) (h1 : 1 ≤ N) (hM : pwL n p M = unitL n) (h2 : 1 ≤ M) (e : Int) :
    pwL n p (e % (N : Int)).toNat = pwL n p (e % (M : Int)).toNat := by
  refine pm_ext (n := n) (pwL_pm hp _).len (pwL_pm hp _).len fun j hj => ?_
  obtain ⟨r, hr, hx⟩ := List.mem_flatten.mp (all (j : Int) (by omega) (by omega))
  obtain ⟨i, hi, e2⟩ := List.getElem_of_mem hx
  have h : r[i]? = some (j : Int) := by rw [List.getElem?_eq_getElem hi, e2]
  have a := C.pwMod hp hr h hN h1 e
  have b := C.pwMod hp hr h hM h2 e
  rw [show ((j : Nat) : Int).toNat = j by omega] at a b
  rw [a, b]
theorem pw_sum {n N : Nat} {p : List Int} (hp : IsPm n p) (hN : pwL n p N = unitL n) (h1 : 1 ≤ N) (a b : Int) : mulL (pwL n p (a % (N : Int)).toNat) (pwL n p (b % (N : Int)).toNat) = pwL n p ((a + b) % (N : Int)).toNat := by
  rw [pwL_add hp, ← pwL_mod hp hN]
  congr 1
  have a0 : 0 ≤ a % (N : Int) := Int.emod_nonneg _ (by omega)
  have b0 : 0 ≤ b % (N : Int) := Int.emod_nonneg _ (by omega)
  have c0 : 0 ≤ (a + b) % (N : Int) := Int.emod_nonneg _ (by omega)
  have k : ((((a % (N : Int)).toNat + (b % (N : Int)).toNat) % N : Nat) : Int) = (a + b) % (N : Int) := by
    rw [Int.natCast_emod, Int.natCast_add, Int.toNat_of_nonneg a0, Int.toNat_of_nonneg b0, ← Int.add_emod]
  omega
/-! ### how the cycles are found -/
/-- L is walked from `first`, the next point is pt -/
structure Chain (p : List Int) (first : Int) (L : List Int) (pt : Int) : Prop where
  hd : (L ++ [pt])[0]? = some first
  st : ∀ i x, L[i]? = some x → p[x.toNat]? = (L ++ [pt])[i + 1]?
theorem Chain.start {p : List Int} {first : Int} : Chain p first [] first := ⟨rfl, fun i x h => by cases i <;> cases h⟩
theorem Chain.step {p : List Int} {first pt nx : Int} {L : List Int} (C : Chain p first L pt) (h : p[pt.toNat]? = some nx) : Chain p first (L ++ [pt]) nx := by
  refine ⟨?_, fun i x hx => ?_⟩
  · have hd := C.hd
    rw [List.getElem?_append_left (by rw [List.length_append]; exact Nat.succ_pos _)]
    exact hd
  · by_cases hi : i < L.length
    · rw [List.getElem?_append_left hi] at hx
      rw [C.st i x hx, List.getElem?_append_left (l₁ := L ++ [pt]) (by rw [List.length_append]; show i + 1 < L.length + 1; omega)]
    · have hl := (List.getElem?_eq_some_iff.mp hx).1
      have hl : i < L.length + 1 := by rw [List.length_append] at hl; exact hl
      have ei : i = L.length := by omega
      subst ei
      rw [List.getElem?_append_right (Nat.le_refl _), Nat.sub_self] at hx
      cases hx
      rw [h, List.getElem?_append_right (by rw [List.length_append]; exact Nat.le_refl _), List.length_append]
      show _ = [nx][L.length + 1 - (L.length + 1)]?
      rw [Nat.sub_self]
      rfl
theorem Turn.pre {n : Nat} {p r : List Int} (hp : IsPm n p) (T : Turn p r) (hb : ∀ x ∈ r, 0 ≤ x ∧ x < n) {x y : Int} (hx : 0 ≤ x) (e : p[x.toNat]? = some y) (hy : y ∈ r) : x ∈ r := by
  obtain ⟨i, hi, ei⟩ := List.getElem_of_mem hy
  -- the place before i
  obtain ⟨j, hj, ej⟩ : ∃ j, j < r.length ∧ (j + 1) % r.length = i := by
    by_cases z : i = 0
    · exact ⟨r.length - 1, by have := T.ne; omega, by rw [z, show r.length - 1 + 1 = r.length by have := T.ne; omega, Nat.mod_self]⟩
    · exact ⟨i - 1, by omega, by rw [show i - 1 + 1 = i by omega, Nat.mod_eq_of_lt hi]⟩
  have st := T.st j r[j] (List.getElem?_eq_getElem hj)
  rw [ej, List.getElem?_eq_getElem hi, ei] at st
  have k := hp.inj st e
  have b := hb _ (List.getElem_mem hj)
  have : r[j] = x := by omega
  exact this ▸ List.getElem_mem hj
theorem Chain.close {n : Nat} {p : List Int} {R : List (List Int)} {first pt : Int} {L : List Int} (hp : IsPm n p) (C : Cyc n p R) (c : Chain p first L pt) (nd : (R.flatten ++ L).Nodup) (hb : ∀ x ∈ L, 0 ≤ x ∧ x < n) (hf : first ∉ R.flatten) (hm : pt ∈ R.flatten ++ L) : Turn p L := by
  have L0 : L ≠ [] := fun z => by
    subst z
    have e := Option.some.inj c.hd
    rw [List.append_nil] at hm
    exact hf (e ▸ hm)
  have hl : 0 < L.length := List.length_pos_iff.mpr L0
  have last := c.st (L.length - 1) L[L.length - 1] (List.getElem?_eq_getElem (by omega))
  rw [show L.length - 1 + 1 = L.length by omega, List.getElem?_append_right (Nat.le_refl _), Nat.sub_self] at last
  have last : p[(L[L.length - 1]).toNat]? = some pt := last
  have bl := hb _ (List.getElem_mem (h := (show L.length - 1 < L.length by omega)))
  have nd2 := List.nodup_append.mp nd
  have e : pt = first := by
    rcases List.mem_append.mp hm with z | z
    · obtain ⟨r, hr, hx⟩ := List.mem_flatten.mp z
      have q := (C.tn r hr).pre hp (fun x hx => C.bd x (List.mem_flatten.mpr ⟨r, hr, hx⟩)) bl.1 last hx
      exact absurd rfl (nd2.2.2 _ (List.mem_flatten.mpr ⟨r, hr, q⟩) _ (List.getElem_mem (h := (show L.length - 1 < L.length by omega))))
    · obtain ⟨j, hj, ej⟩ := List.getElem_of_mem z
      by_cases j0 : j = 0
      · subst j0
        have hd := c.hd
        rw [List.getElem?_append_left hl, List.getElem?_eq_getElem hl, ej] at hd
        exact Option.some.inj hd
      · have st := c.st (j - 1) L[j - 1] (List.getElem?_eq_getElem (by omega))
        rw [show j - 1 + 1 = j by omega, List.getElem?_append_left hj, List.getElem?_eq_getElem hj, ej] at st
        have k := hp.inj st last
        have b2 := hb _ (List.getElem_mem (h := (show j - 1 < L.length by omega)))
        have k2 : L[j - 1] = L[L.length - 1] := by omega
        have := (List.getElem_inj nd2.2.1).mp k2
        omega
  refine ⟨hl, fun i x hx => ?_⟩
  rw [c.st i x hx]
  have hi := (List.getElem?_eq_some_iff.mp hx).1
  by_cases z : i + 1 < L.length
  · rw [List.getElem?_append_left z, Nat.mod_eq_of_lt z]
  · rw [show i + 1 = L.length by omega, Nat.mod_self, List.getElem?_append_right (Nat.le_refl _), Nat.sub_self, e]
    have hd := c.hd
    rw [List.getElem?_append_left hl] at hd
    rw [hd]
    rfl
theorem Cyc.more {n : Nat} {p : List Int} {R : List (List Int)} {L : List Int} (C : Cyc n p R) (T : Turn p L) (nd : (R.flatten ++ L).Nodup) (hb : ∀ x ∈ L, 0 ≤ x ∧ x < n) : Cyc n p (R ++ [L]) := by
  have e : (R ++ [L]).flatten = R.flatten ++ L := by rw [List.flatten_append, List.flatten_cons, List.flatten_nil, List.append_nil]
  refine ⟨fun r hr => ?_, by rw [e]; exact nd, fun x hx => ?_⟩
  · rcases List.mem_append.mp hr with z | z
    · exact C.tn r z
    · rw [List.mem_singleton.mp z]; exact T
  · rw [e] at hx
    rcases List.mem_append.mp hx with z | z
    · exact C.bd x z
    · exact hb x z
theorem Cyc.nil {n : Nat} {p : List Int} : Cyc n p [] := ⟨(fun _ h => by cases h), List.nodup_nil, (fun _ h => by cases h)⟩
end KL
/-! powers and cycles: a power of a great base; promises -/
namespace KL
open PySem PySem.Spec PyProof.Rows L2 GA GxR
def CPowB (i j : Int) : Prop := 0 ≤ j ∧ (Builtin.Int.intBits i : Int) * j ≤ 2 ^ 27
theorem op_powB {X : Cx} : OpR X (binaryOp .Pow) (rI CPowB fun i j => .int (i ^ j.toNat)) := opI fun _ _ _ _ _ _ _ hc q => pow_int hc.1 hc.2 q
theorem dpT_ints {K : PySem.W.Frag} {H : Hp} {a : Addr} {ns : List Int} (h : H a = some (.tup (ns.map V.int))) : Dp K H (.ref a) (.tuple (ns.map PyData.int)) := .tup (.inl (.inl h)) (dp_all ns)
theorem shapedT_ints (ns : List Int) : SeqAt.shaped (.tuple (ns.map PyData.int)) = true := PySem.W.ke_shaped_ints ns
theorem eqvT_ints (ns ms : List Int) : PyData.eqv (.tuple (ns.map PyData.int)) (.tuple (ms.map PyData.int)) = decide (ns = ms) := by
  rw [← PySem.W.ked_eqvAll, PyData.eqv]
/-- the rows as tuples -/
structure RowsAt (H : Hp) (As : List Addr) (R : List (List Int)) : Prop where
  len : As.length = R.length
  at_ : ∀ (i : Nat) (r : List Int), R[i]? = some r → ∃ a : Addr, As[i]? = some a ∧ H a = some (.tup (r.map V.int))
theorem RowsAt.ex {H H' : Hp} {As : List Addr} {R : List (List Int)} (x : Ex H H') (h : RowsAt H As R) : RowsAt H' As R :=
  ⟨h.len, fun i r e => let ⟨a, e1, e2⟩ := h.at_ i r e; ⟨a, e1, x.st _ _ e2 trivial⟩⟩
theorem RowsAt.upd {H : Hp} {As : List Addr} {R : List (List Int)} {p : Addr} {o u : HO} (h : RowsAt H As R) (e : H p = some u) (n : ∀ xs, u ≠ .tup xs) : RowsAt (upd H p o) As R :=
  ⟨h.len, fun i r k => let ⟨a, e1, e2⟩ := h.at_ i r k; ⟨a, e1, by
    rw [upd_ne (fun z => by rw [z, e] at e2; exact n _ (Option.some.inj e2))]
    exact e2⟩⟩
theorem RowsAt.new {H : Hp} {As : List Addr} {R : List (List Int)} {p : Addr} {o : HO} (h : RowsAt H As R) (e : H p = none) : RowsAt (L2.upd H p o) As R := h.ex (Ex.new e)
theorem RowsAt.nil {H : Hp} : RowsAt H [] [] := ⟨rfl, fun i r h => by cases i <;> cases h⟩
theorem RowsAt.more {H : Hp} {As : List Addr} {R : List (List Int)} {a : Addr} {L : List Int} (h : RowsAt H As R) (e : H a = some (.tup (L.map V.int))) : RowsAt H (As ++ [a]) (R ++ [L]) := by
  refine ⟨by rw [List.length_append, List.length_append, h.len]; rfl, fun i r k => ?_⟩
  by_cases hi : i < R.length
  · rw [List.getElem?_append_left hi] at k
    obtain ⟨b, e1, e2⟩ := h.at_ i r k
    exact ⟨b, by rw [List.getElem?_append_left (by rw [h.len]; exact hi)]; exact e1, e2⟩
  · have hl := (List.getElem?_eq_some_iff.mp k).1
    rw [List.length_append] at hl
    have hl : i < R.length + 1 := hl
    have ei : i = R.length := by omega
    subst ei
    rw [List.getElem?_append_right (Nat.le_refl _), Nat.sub_self] at k
    cases k
    exact ⟨a, by rw [List.getElem?_append_right (by rw [h.len]; exact Nat.le_refl _), h.len, Nat.sub_self]; rfl, e⟩
theorem refs_norow {As : List Addr} : ¬ RowO (.lst (As.map V.ref)) := fun ⟨s, i, j, k, e⟩ => by
  have e1 : As.map V.ref = [.ref s, .int i, .int j, .int k] := HO.lst.inj e
  match As, e1 with
  | _ :: _ :: _, e1 => cases (List.cons.inj (List.cons.inj e1).2).1
theorem kp {H : Hp} {a p : Addr} {o u v : HO} (h : H a = some o) (e : H p = some u) (n : o ≠ u) : upd H p v a = some o := by
  rw [upd_ne (fun z => by rw [z, e] at h; exact n (Option.some.inj h).symm)]
  exact h
/-- the cycles, each from its least point, in the order of these -/
structure Full (n : Nat) (p : List Int) (R : List (List Int)) : Prop where
  cyc : Cyc n p R
  all : ∀ x : Int, 0 ≤ x → x < n → x ∈ R.flatten
  mn : ∀ r ∈ R, ∀ x ∈ r, r.getD 0 0 ≤ x
  so : (R.map fun r => r.getD 0 0).Pairwise (· < ·)
def spFullCycles : Sp := fun vs H Q _ => ∃ (a : Addr) (n : Nat) (p : List Int), vs = [.ref a] ∧ Pm H a n p ∧ n ≤ 12 ∧ ∀ c As R H', Ex H H' → H' c = some (.lst (As.map V.ref)) → RowsAt H' As R → Full n p R → Q (.ref c) H'
def spPower (K : PySem.W.Frag) : Sp := fun vs H Q _ => ∃ (a : Addr) (n : Nat) (p : List Int) (e : Int), vs = [.ref a, .int e] ∧ Pm H a n p ∧ 1 ≤ n ∧ n ≤ 12 ∧ TabG H (PP K) ∧
  ∀ c H' q, Ex H H' → (∃ N, 1 ≤ N ∧ N ≤ 60 ∧ pwL n p N = unitL n) → (∀ N : Nat, 1 ≤ N → pwL n p N = unitL n → q = pwL n p (e % (N : Int)).toNat) → Pm H' c n q → Q (.ref c) H'
def spPick (K : PySem.W.Frag) : Sp := fun vs H Q _ => ∃ (r s t : Addr) (ns ts : List Int), vs = [.ref r, .ref t] ∧ RowAt H r s ∧ SqL K H s (ns.map V.int) ∧ H t = some (.lst (ts.map V.int)) ∧ 1 ≤ ts.length ∧ ts.length ≤ 1000 ∧ ∀ (i : Int) H', Ex H H' → i ∈ ts → Q (.int i) H'
def spExponent (K : PySem.W.Frag) : Sp := fun vs H Q _ => ∃ (r s : Addr) (ns : List Int) (k : Nat), vs = [.ref r, .ref s, .int k] ∧ RowAt H r s ∧ SqL K H s (ns.map V.int) ∧ ∀ (i : Int) H', Ex H H' → Q (.int i) H'
def spLawMul : Sp := fun vs H Q _ => ∃ (a b : Addr) (n : Nat) (p q : List Int), vs = [.ref a, .ref b] ∧ Pm H a n p ∧ Pm H b n q ∧ n ≤ 1000 ∧ ∀ c H', Ex H H' → Pm H' c n (mulL p q) → Q (.ref c) H'
def spSlow : Sp := fun vs H Q _ => ∃ (a : Addr) (n k : Nat) (p : List Int), vs = [.ref a, .int k] ∧ Pm H a n p ∧ n ≤ 1000 ∧ k ≤ 1000 ∧ ∀ c H', Ex H H' → Pm H' c n (pwL n p k) → Q (.ref c) H'
def spOrder : Sp := fun vs H Q _ => ∃ (a : Addr) (n : Nat) (p : List Int), vs = [.ref a] ∧ Pm H a n p ∧ n ≤ 1000 ∧ ∀ (o : Nat) H', Ex H H' → 1 ≤ o → o ≤ 61 → (pwL n p o = unitL n ∨ ∀ N, 1 ≤ N → N ≤ 60 → pwL n p N ≠ unitL n) → Q (.int o) H'
/-- where full_cycles stands: the rows so far, what was seen -/
structure FC (w : World) (H H1 : Hp) (l sA : Addr) (n : Nat) (p : List Int) (As : List Addr) (R : List (List Int)) (S : List Int) : Prop where
  ex : Ex H H1
  hl : H1 l = some (.lst (As.map V.ref))
  rows : RowsAt H1 As R
  seen : H1 sA = some (SetO w sA (fun k => decide (k ∈ S)) S.length)
  cyc : Cyc n p R
  nd : S.Nodup
  bd : ∀ x ∈ S, 0 ≤ x ∧ x < n
  mn : ∀ r ∈ R, ∀ x ∈ r, r.getD 0 0 ≤ x
  so : (R.map fun r => r.getD 0 0).Pairwise (· < ·)
theorem bd_len {S : List Int} {n : Nat} (nd : S.Nodup) (bd : ∀ x ∈ S, 0 ≤ x ∧ x < (n : Int)) : S.length ≤ n := by
  have h := len_le_sub (ns := unitL n) nd fun x hx => by
    have b := bd x hx
    exact List.mem_map.mpr ⟨x.toNat, List.mem_range.mpr (by omega), by show ((x.toNat : Nat) : Int) = x; omega⟩
  unfold unitL at h
  rw [List.length_map, List.length_range] at h
  exact h
theorem FC.new {w : World} {H H1 : Hp} {l sA : Addr} {n : Nat} {p : List Int} {As : List Addr} {R : List (List Int)} {S : List Int} {q : Addr} {o : HO} (F : FC w H H1 l sA n p As R S) (e : H1 q = none) : FC w H (upd H1 q o) l sA n p As R S :=
  ⟨F.ex.trans (Ex.new e), by rw [upd_ne (ne_of_none F.hl e)]; exact F.hl, F.rows.new e, by rw [upd_ne (ne_of_none F.seen e)]; exact F.seen, F.cyc, F.nd, F.bd, F.mn, F.so⟩
theorem nd_more {S : List Int} {x : Int} (nd : S.Nodup) (h : x ∉ S) : (S ++ [x]).Nodup := List.nodup_append.mpr ⟨nd, List.nodup_cons.mpr ⟨(fun z => by cases z), List.nodup_nil⟩, fun a ha b hb e => by
  rw [List.mem_singleton.mp hb] at e
  exact h (e ▸ ha)⟩
theorem bd_more {S : List Int} {x : Int} {n : Nat} (bd : ∀ x ∈ S, 0 ≤ x ∧ x < (n : Int)) (h0 : 0 ≤ x) (h1 : x < n) : ∀ y ∈ S ++ [x], 0 ≤ y ∧ y < (n : Int) := fun y hy => by
  rcases List.mem_append.mp hy with z | z
  · exact bd y z
  · rw [List.mem_singleton.mp z]; exact ⟨h0, h1⟩
theorem rows_le {p : List Int} : ∀ {R : List (List Int)}, (∀ r ∈ R, Turn p r) → R.length ≤ R.flatten.length
  | [], _ => Nat.le_refl _
  | r :: R, h => by
    have h1 := (h r (List.mem_cons_self ..)).ne
    have h2 := rows_le fun x hx => h x (List.mem_cons_of_mem _ hx)
    rw [List.flatten_cons, List.length_cons, List.length_append]
    omega
theorem setO_more {w : World} {a : Addr} {S : List Int} {k : Int} (hk : k ∉ S) : SetO w a (fun j => decide (j ∈ S) || decide (j = k)) (if decide (k ∈ S) = true then S.length else S.length + 1) = SetO w a (fun j => decide (j ∈ S ++ [k])) (S ++ [k]).length := by
  have e1 : (fun j => decide (j ∈ S) || decide (j = k)) = fun j => decide (j ∈ S ++ [k]) := by
    funext j
    rw [Bool.eq_iff_iff]
    simp
  rw [e1, if_neg (by rw [decide_eq_true_iff]; exact hk), List.length_append]
  rfl
end KL
/-! orders, signs, supports: rules and promises -/
namespace KL
open PySem PySem.Spec PyProof.Rows L2 GA GxR
def rLcm : List V → Hp → VK → Prop := fun vs H Q => ∃ a b : Nat, vs = [V.int a, V.int b] ∧ a < 2 ^ 64 ∧ b < 2 ^ 64 ∧ Q (.int ((Nat.lcm a b : Nat) : Int)) H
theorem cr_lcm {X : Cx} : CallR X (.builtin "math.lcm") rLcm := by
  intro pins s σ H vs us Q I r h
  obtain ⟨a, b, rfl, ha, hb, q⟩ := h
  obtain ⟨t, u, rfl⟩ := Vals.int2 r
  exact PySem.W.mc_lcm (by show a < 2 ^ 64; exact ha) (by show b < 2 ^ 64; exact hb) fun _ => ⟨.int _, H, I.tok _, ⟨_, rfl⟩, q⟩
def lensL (R : List (List Int)) : List Int := R.map fun r => (r.length : Int)
def spLens : Sp := fun vs H Q _ => ∃ (a : Addr) (n : Nat) (p : List Int), vs = [.ref a] ∧ Pm H a n p ∧ n ≤ 12 ∧ ∀ (c : Addr) (H' : Hp) (R : List (List Int)) (ns : List Int), Ex H H' → Full n p R → ns.Perm (lensL R) → ns.Pairwise (· ≤ ·) → H' c = some (.tup (ns.map V.int)) → Q (.ref c) H'
def spCycles (K : PySem.W.Frag) : Sp := fun vs H Q _ => ∃ (a : Addr) (n : Nat) (p : List Int), vs = [.ref a] ∧ Pm H a n p ∧ 1 ≤ n ∧ n ≤ 12 ∧ TabG H (PP K) ∧ ∀ (c : Addr) (H' : Hp) (R : List (List Int)) (As : List Addr), Ex H H' → Full n p R → RowsAt H' As (R.filter fun r => decide (1 < r.length)) → H' c = some (.tup (As.map V.ref)) → Q (.ref c) H'
def spCycleLengths (K : PySem.W.Frag) : Sp := fun vs H Q _ => ∃ (a : Addr) (n : Nat) (p : List Int), vs = [.ref a] ∧ Pm H a n p ∧ 1 ≤ n ∧ n ≤ 12 ∧ TabG H (PP K) ∧ ∀ (c : Addr) (H' : Hp) (R : List (List Int)) (ns : List Int), Ex H H' → Full n p R → ns.Perm (lensL R) → ns.Pairwise (· ≤ ·) → H' c = some (.tup (ns.map V.int)) → Q (.ref c) H'
def spOrd (K : PySem.W.Frag) : Sp := fun vs H Q _ => ∃ (a : Addr) (n : Nat) (p : List Int), vs = [.ref a] ∧ Pm H a n p ∧ 1 ≤ n ∧ n ≤ 12 ∧ TabG H (PP K) ∧
  ∀ (o : Nat) (H' : Hp) (R : List (List Int)), Ex H H' → Full n p R → 1 ≤ o → (∀ r ∈ R, r.length ∣ o) → (∀ m, (∀ r ∈ R, r.length ∣ m) → o ∣ m) → Q (.int o) H'
def spSign (K : PySem.W.Frag) : Sp := fun vs H Q _ => ∃ (a : Addr) (n : Nat) (p : List Int), vs = [.ref a] ∧ Pm H a n p ∧ 1 ≤ n ∧ n ≤ 12 ∧ TabG H (PP K) ∧ ∀ (H' : Hp) (R : List (List Int)), Ex H H' → Full n p R → Q (.int (if (n - R.length) % 2 = 0 then 1 else -1)) H'
def suppI (p : List Int) (i : Nat) : List Int := ((List.range i).map Int.ofNat).filter fun i => decide (i ≠ p.getD i.toNat 0)
theorem suppI_succ {p : List Int} {i : Nat} : suppI p (i + 1) = suppI p i ++ if (i : Int) ≠ p.getD i 0 then [(i : Int)] else [] := by
  unfold suppI
  rw [List.range_succ, List.map_append, List.filter_append]
  congr 1
  show List.filter _ [Int.ofNat i] = _
  by_cases h : (i : Int) ≠ p.getD i 0
  · rw [if_pos h, List.filter_cons_of_pos (by rw [decide_eq_true_iff]; exact h), List.filter_nil]
    rfl
  · rw [if_neg h, List.filter_cons_of_neg (by rw [decide_eq_true_iff]; exact h), List.filter_nil]
theorem suppI_len {p : List Int} {i : Nat} : (suppI p i).length ≤ i := by
  unfold suppI
  refine Nat.le_trans (List.length_filter_le ..) ?_
  rw [List.length_map, List.length_range]
  exact Nat.le_refl _
theorem Chain.back {n : Nat} {p : List Int} {first pt : Int} {L : List Int} (hp : IsPm n p) (c : Chain p first L pt) (nd : L.Nodup) (hb : ∀ x ∈ L, 0 ≤ x ∧ x < n) (hm : pt ∈ L) : pt = first := by
  obtain ⟨j, hj, ej⟩ := List.getElem_of_mem hm
  have hl : 0 < L.length := by omega
  have last := c.st (L.length - 1) L[L.length - 1] (List.getElem?_eq_getElem (by omega))
  rw [show L.length - 1 + 1 = L.length by omega, List.getElem?_append_right (Nat.le_refl _), Nat.sub_self] at last
  have last : p[(L[L.length - 1]).toNat]? = some pt := last
  have bl := hb _ (List.getElem_mem (h := (show L.length - 1 < L.length by omega)))
  by_cases j0 : j = 0
  · subst j0
    have hd := c.hd
    rw [List.getElem?_append_left hl, List.getElem?_eq_getElem hl, ej] at hd
    exact Option.some.inj hd
  · have st := c.st (j - 1) L[j - 1] (List.getElem?_eq_getElem (by omega))
    rw [show j - 1 + 1 = j by omega, List.getElem?_append_left hj, List.getElem?_eq_getElem hj, ej] at st
    have k := hp.inj st last
    have b2 := hb _ (List.getElem_mem (h := (show j - 1 < L.length by omega)))
    have k2 : L[j - 1] = L[L.length - 1] := by omega
    have := (List.getElem_inj nd).mp k2
    omega
theorem Chain.turn {p : List Int} {first : Int} {L : List Int} (c : Chain p first L first) (hl : 0 < L.length) : Turn p L := by
  refine ⟨hl, fun i x hx => ?_⟩
  rw [c.st i x hx]
  have hi := (List.getElem?_eq_some_iff.mp hx).1
  by_cases z : i + 1 < L.length
  · rw [List.getElem?_append_left z, Nat.mod_eq_of_lt z]
  · rw [show i + 1 = L.length by omega, Nat.mod_self, List.getElem?_append_right (Nat.le_refl _), Nat.sub_self]
    have hd := c.hd
    rw [List.getElem?_append_left hl] at hd
    rw [hd]
    rfl
def spRing : Sp := fun vs H Q _ => ∃ (a : Addr) (n : Nat) (p : List Int) (x : Int), vs = [.ref a, .int x] ∧ Pm H a n p ∧ n ≤ 12 ∧ 0 ≤ x ∧ x < n ∧ ∀ (c : Addr) (H' : Hp) (r : List Int), Ex H H' → Turn p r → r.Nodup → r[0]? = some x → (∀ y ∈ r, 0 ≤ y ∧ y < n) → H' c = some (.tup (r.map V.int)) → Q (.ref c) H'
def spLeast : Sp := fun vs H Q _ => ∃ (a : Addr) (n : Nat) (p : List Int), vs = [.ref a] ∧ Pm H a n p ∧ n ≤ 1000 ∧ ∀ (o : Nat) (H' : Hp), Ex H H' → ((1 ≤ o ∧ o ≤ 60 ∧ pwL n p o = unitL n ∧ ∀ N, 1 ≤ N → N < o → pwL n p N ≠ unitL n) ∨ ∀ N, 1 ≤ N → N ≤ 60 → pwL n p N ≠ unitL n) → Q (.int o) H'
def spBlocks (K : PySem.W.Frag) : Sp := fun vs H Q _ => ∃ (r s : Addr) (ns : List Int), vs = [.ref r] ∧ RowAt H r s ∧ SqL K H s (ns.map V.int) ∧ ∀ (c : Addr) (H' : Hp) (n : Nat) (p : List Int), Ex H H' → 1 ≤ n → n ≤ 12 → Pm H' c n p → Q (.ref c) H'
def blockI (m s i : Nat) : List Int := (List.range i).map fun k => ((m + (k + 1) % s : Nat) : Int)
theorem block_pm {m s : Nat} {L : List Int} (h : IsPm m L) (hs : 1 ≤ s) : IsPm (m + s) (L ++ blockI m s s) := by
  refine ⟨by unfold blockI; rw [List.length_append, h.len, List.length_map, List.length_range], ?_, fun x hx => ?_⟩
  · rw [List.nodup_append]
    refine ⟨h.nd, ?_, fun a ha b hb e => ?_⟩
    · unfold blockI
      rw [List.nodup_iff_pairwise_ne, List.pairwise_iff_getElem]
      intro a b ha hb hab e
      rw [List.length_map, List.length_range] at ha hb
      rw [List.getElem_map, List.getElem_map, List.getElem_range, List.getElem_range] at e
      have e : (a + 1) % s = (b + 1) % s := by omega
      by_cases z : b + 1 = s
      · rw [z, Nat.mod_self, Nat.mod_eq_of_lt (by omega)] at e
        omega
      · rw [Nat.mod_eq_of_lt (show b + 1 < s by omega), Nat.mod_eq_of_lt (show a + 1 < s by omega)] at e
        omega
    · obtain ⟨k, _, rfl⟩ := List.mem_map.mp hb
      have := h.bd a ha
      omega
  · rcases List.mem_append.mp hx with z | z
    · have := h.bd x z
      omega
    · obtain ⟨k, _, rfl⟩ := List.mem_map.mp z
      have := Nat.mod_lt (k + 1) (show s > 0 by omega)
      omega
def spSupport (K : PySem.W.Frag) : Sp := fun vs H Q _ => ∃ (a : Addr) (n : Nat) (p : List Int), vs = [.ref a] ∧ Pm H a n p ∧ 1 ≤ n ∧ n ≤ 12 ∧ TabG H (PP K) ∧ ∀ c H', Ex H H' → H' c = some (.tup ((suppI p n).map V.int)) → Q (.ref c) H'
def spLawConj : Sp := fun vs H Q _ => ∃ (a b : Addr) (n : Nat) (p g : List Int), vs = [.ref a, .ref b] ∧ Pm H a n p ∧ Pm H b n g ∧ n ≤ 1000 ∧ ∀ (c : Addr) (H' : Hp) (q : List Int), Ex H H' → Pm H' c n q → q = mulL (mulL (invL g) p) g → Q (.ref c) H'
end KL
/-! signs: inversions against cycles -/
namespace KL
open PySem PySem.Spec PyProof.Rows L2 GA GxR
def cntLt (z : Int) (l : List Int) : Nat := l.countP fun y => decide (y < z)
def cntGt (z : Int) (l : List Int) : Nat := l.countP fun y => decide (z < y)
def invN : List Int → Nat
  | [] => 0
  | x :: l => cntLt x l + invN l
theorem invN_snoc (x : Int) : ∀ l : List Int, invN (l ++ [x]) = invN l + cntGt x l
  | [] => rfl
  | z :: l => by
    show cntLt z (l ++ [x]) + invN (l ++ [x]) = cntLt z l + invN l + cntGt x (z :: l)
    rw [invN_snoc x l]
    unfold cntLt cntGt
    rw [List.countP_append, List.countP_cons, List.countP_cons, List.countP_nil]
    omega
theorem inv_adj {x y : Int} (h : x ≠ y) (b : List Int) : ∀ a : List Int, (invN (a ++ x :: y :: b) + 1) % 2 = invN (a ++ y :: x :: b) % 2
  | [] => by
    show (cntLt x (y :: b) + (cntLt y b + invN b) + 1) % 2 = (cntLt y (x :: b) + (cntLt x b + invN b)) % 2
    unfold cntLt
    rw [List.countP_cons, List.countP_cons]
    by_cases z : x < y
    · rw [if_neg (by rw [decide_eq_true_iff]; omega), if_pos (by rw [decide_eq_true_iff]; omega)]
      omega
    · rw [if_pos (by rw [decide_eq_true_iff]; omega), if_neg (by rw [decide_eq_true_iff]; omega)]
      omega
  | c :: a => by
    have ih := inv_adj h b a
    have e : cntLt c (a ++ x :: y :: b) = cntLt c (a ++ y :: x :: b) := by
      unfold cntLt
      simp only [List.countP_append, List.countP_cons]
      omega
    show (cntLt c (a ++ x :: y :: b) + invN (a ++ x :: y :: b) + 1) % 2 = (cntLt c (a ++ y :: x :: b) + invN (a ++ y :: x :: b)) % 2
    omega
theorem inv_far {x y : Int} (h : x ≠ y) (b : List Int) : ∀ m a : List Int, (∀ z ∈ m, x ≠ z ∧ y ≠ z) → (invN (a ++ x :: (m ++ y :: b)) + 1) % 2 = invN (a ++ y :: (m ++ x :: b)) % 2
  | [], a, _ => inv_adj h b a
  | z :: m, a, hz => by
    have k := hz z (List.mem_cons_self ..)
    have e1 := inv_adj k.1 (m ++ y :: b) a
    have e2 := inv_far h b m (a ++ [z]) fun w hw => hz w (List.mem_cons_of_mem _ hw)
    have e3 := inv_adj (Ne.symm k.2) (m ++ x :: b) a
    have a1 : ∀ l : List Int, a ++ [z] ++ l = a ++ z :: l := fun l => by rw [List.append_assoc]; rfl
    rw [a1, a1] at e2
    show (invN (a ++ x :: z :: (m ++ y :: b)) + 1) % 2 = invN (a ++ y :: z :: (m ++ x :: b)) % 2
    omega
theorem inv_swap {l : List Int} {i j : Nat} {x y : Int} (nd : l.Nodup) (hij : i < j) (hi : l[i]? = some x) (hj : l[j]? = some y) : (invN l + 1) % 2 = invN ((l.set i y).set j x) % 2 := by
  obtain ⟨li, ei⟩ := List.getElem?_eq_some_iff.mp hi
  obtain ⟨lj, ej⟩ := List.getElem?_eq_some_iff.mp hj
  have d1 : l = l.take i ++ x :: l.drop (i + 1) := by rw [← ei, ← List.drop_eq_getElem_cons li, List.take_append_drop]
  have h2 : (l.drop (i + 1))[j - i - 1]? = some y := by rw [List.getElem?_drop, ← hj]; congr 1; omega
  obtain ⟨l2, e2⟩ := List.getElem?_eq_some_iff.mp h2
  generalize hA : l.take i = A at d1
  generalize hD : l.drop (i + 1) = D at d1 h2 l2 e2
  have d2 : D = D.take (j - i - 1) ++ y :: D.drop (j - i - 1 + 1) := by rw [← e2, ← List.drop_eq_getElem_cons l2, List.take_append_drop]
  generalize hM : D.take (j - i - 1) = M at d2
  generalize D.drop (j - i - 1 + 1) = B at d2
  have lA : A.length = i := by rw [← hA, List.length_take]; omega
  have lM : M.length = j - i - 1 := by rw [← hM, List.length_take]; omega
  rw [d2] at d1
  subst d1
  have nd1 := List.nodup_append.mp nd
  have nd2 := List.nodup_cons.mp nd1.2.1
  have nd3 := List.nodup_append.mp nd2.2
  have xy : x ≠ y := fun e => nd2.1 (List.mem_append_right _ (by rw [e]; exact List.mem_cons_self ..))
  have es : ((A ++ x :: (M ++ y :: B)).set i y).set j x = A ++ y :: (M ++ x :: B) := by
    rw [List.set_append_right i y (by omega), lA, Nat.sub_self, List.set_cons_zero, List.set_append_right j x (by omega), lA, show j - i = (j - i - 1) + 1 by omega, List.set_cons_succ, List.set_append_right _ x (by omega), lM, Nat.sub_self, List.set_cons_zero]
  rw [es]
  exact inv_far xy B M A fun z hz => ⟨fun e => nd2.1 (List.mem_append_left _ (by rw [e]; exact hz)), fun e => nd3.2.2 z hz y (List.mem_cons_self ..) e.symm⟩
theorem inv_swap2 {l : List Int} {i j : Nat} {x y : Int} (nd : l.Nodup) (hij : i ≠ j) (hi : l[i]? = some x) (hj : l[j]? = some y) : (invN l + 1) % 2 = invN ((l.set i y).set j x) % 2 := by
  by_cases z : i < j
  · exact inv_swap nd z hi hj
  · have := inv_swap nd (show j < i by omega) hj hi
    rwa [List.set_comm _ _ hij.symm] at this
theorem inv_unit : ∀ n : Nat, invN (unitL n) = 0
  | 0 => rfl
  | n + 1 => by
    have e : unitL (n + 1) = unitL n ++ [(n : Int)] := by unfold unitL; rw [List.range_succ, List.map_append]; rfl
    rw [e, invN_snoc, inv_unit n]
    unfold cntGt
    rw [List.countP_eq_zero.mpr]
    intro x hx
    have := (unit_pm n).bd x hx
    rw [decide_eq_true_iff]
    omega
theorem parity {n : Nat} : ∀ (k : Nat) (p : List Int) (R : List (List Int)), IsPm n p → Cyc n p R → (∀ x : Int, 0 ≤ x → x < n → x ∈ R.flatten) → n - R.length = k → invN p % 2 = k % 2
  | k, p, R, hp, C, all, hk => by
    by_cases h1 : ∀ r ∈ R, r.length = 1
    · have ep : p = unitL n := by
        refine pm_ext (n := n) hp.len (unit_pm n).len fun j hj => ?_
        obtain ⟨r, hr, hx⟩ := List.mem_flatten.mp (all (j : Int) (by omega) (by omega))
        obtain ⟨i, hi, e⟩ := List.getElem_of_mem hx
        have l1 := h1 r hr
        have i0 : i = 0 := by omega
        subst i0
        have h0 : r[0]? = some (j : Int) := by rw [List.getElem?_eq_getElem hi, e]
        have st := (C.tn r hr).st 0 _ h0
        rw [l1, show (0 + 1) % 1 = 0 from rfl, h0, show ((j : Nat) : Int).toNat = j by omega] at st
        rw [st]
        exact (unitL_get hj).symm
      have el : R.length = R.flatten.length := by
        clear hk
        have : ∀ R : List (List Int), (∀ r ∈ R, r.length = 1) → R.length = R.flatten.length := fun R => by
          induction R with
          | nil => intro _; rfl
          | cons r R ih =>
            intro h
            rw [List.length_cons, List.flatten_cons, List.length_append, ← ih fun r hr => h r (List.mem_cons_of_mem _ hr), h r (List.mem_cons_self ..)]
            omega
        exact this R h1
      have en : n ≤ R.flatten.length := by
        have h := len_le_sub (ks := unitL n) (ns := R.flatten) (unit_pm n).nd fun x hx => all x ((unit_pm n).bd x hx).1 ((unit_pm n).bd x hx).2
        have hl : (unitL n).length = n := (unit_pm n).len
        rwa [hl] at h
      rw [ep, inv_unit]
      omega
    · obtain ⟨r, hr, hl⟩ : ∃ r ∈ R, r.length ≠ 1 := by
        apply Classical.byContradiction
        intro z
        exact h1 fun r hr => Classical.byContradiction fun q => z ⟨r, hr, q⟩
      have T := C.tn r hr
      have l0 := T.ne
      obtain ⟨R1, R2, eR⟩ := List.append_of_mem hr
      -- r = s ++ [a, b]
      obtain ⟨s, a, b, er⟩ : ∃ s a b, r = s ++ [a, b] := by
        have d1 : r = r.take (r.length - 2) ++ r.drop (r.length - 2) := (List.take_append_drop ..).symm
        have l2 : (r.drop (r.length - 2)).length = 2 := by rw [List.length_drop]; omega
        match hd : r.drop (r.length - 2), l2 with
        | [a, b], _ => exact ⟨_, a, b, by rw [← hd]; exact d1⟩
      subst er
      have ls : (s ++ [a, b]).length = s.length + 2 := by rw [List.length_append]; rfl
      have ga : (s ++ [a, b])[s.length]? = some a := by rw [List.getElem?_append_right (Nat.le_refl _), Nat.sub_self]; rfl
      have gb : (s ++ [a, b])[s.length + 1]? = some b := by rw [List.getElem?_append_right (by omega), show s.length + 1 - s.length = 1 by omega]; rfl
      obtain ⟨f, gf⟩ : ∃ f, (s ++ [a, b])[0]? = some f := ⟨_, List.getElem?_eq_getElem (by omega)⟩
      have pa : p[a.toNat]? = some b := by
        rw [T.st _ _ ga, ls, Nat.mod_eq_of_lt (by omega), gb]
      have pb : p[b.toNat]? = some f := by
        rw [T.st _ _ gb, ls, Nat.mod_self, gf]
      have mem : ∀ x ∈ s ++ [a, b], x ∈ R.flatten := fun x hx => List.mem_flatten.mpr ⟨_, hr, hx⟩
      have ba := C.bd a (mem a (List.mem_of_getElem? ga))
      have bb := C.bd b (mem b (List.mem_of_getElem? gb))
      have ndr := nodup_row C.nd _ hr
      have ab : a ≠ b := fun e => by
        obtain ⟨h3, e3⟩ := List.getElem?_eq_some_iff.mp ga
        obtain ⟨h4, e4⟩ := List.getElem?_eq_some_iff.mp gb
        have := (List.getElem_inj ndr).mp (e3.trans (e.trans e4.symm))
        omega
      have abn : a.toNat ≠ b.toNat := by omega
      have hq := hp.swap pa pb
      have flip := inv_swap2 hp.nd abn pa pb
      have lp := hp.len
      generalize hqe : (p.set a.toNat f).set b.toNat b = q at hq flip
      have qa : q[a.toNat]? = some f := by
        rw [← hqe, List.getElem?_set_ne (Ne.symm abn), List.getElem?_set_self (by omega)]
      have qb : q[b.toNat]? = some b := by
        rw [← hqe, List.getElem?_set_self (by rw [List.length_set]; omega)]
      have qo : ∀ x : Int, 0 ≤ x → x ≠ a → x ≠ b → q[x.toNat]? = p[x.toNat]? := fun x x0 xa xb => by
        rw [← hqe, List.getElem?_set_ne (by omega), List.getElem?_set_ne (by omega)]
      have efl : (R1 ++ (s ++ [a]) :: [b] :: R2).flatten = R.flatten := by
        rw [eR]
        simp
      have lR : (R1 ++ (s ++ [a]) :: [b] :: R2).length = R.length + 1 := by
        rw [eR, List.length_append, List.length_append]
        simp only [List.length_cons]
        omega
      have other : ∀ r' ∈ R, r' ≠ s ++ [a, b] → ∀ x ∈ r', x ≠ a ∧ x ≠ b := fun r' hr' hne x hx => by
        have u : x ∉ s ++ [a, b] := fun hx2 => hne (by
          obtain ⟨i, hi, ei⟩ := List.getElem_of_mem hr'
          obtain ⟨j, hj, ej⟩ := List.getElem_of_mem hr
          by_cases z : i = j
          · subst z; rw [← ei, ej]
          · have pw := (List.pairwise_flatten.mp C.nd).2
            rw [List.pairwise_iff_getElem] at pw
            rcases Nat.lt_or_gt_of_ne z with h | h
            · have := pw i j hi hj h
              rw [ei, ej] at this
              exact absurd rfl (this x hx x hx2)
            · have := pw j i hj hi h
              rw [ei, ej] at this
              exact absurd rfl (this x hx2 x hx))
        exact ⟨fun e => u (by rw [e]; exact List.mem_of_getElem? ga), fun e => u (by rw [e]; exact List.mem_of_getElem? gb)⟩
      have keep : ∀ r' ∈ R, r' ≠ s ++ [a, b] → Turn q r' := fun r' hr' hne => ⟨(C.tn r' hr').ne, fun i x hx => by
        have m := List.mem_of_getElem? hx
        have o := other r' hr' hne x m
        rw [qo x (C.bd x (List.mem_flatten.mpr ⟨r', hr', m⟩)).1 o.1 o.2]
        exact (C.tn r' hr').st i x hx⟩
      have nR : R.Nodup ∨ True := .inr trivial
      have uniq : ∀ r' ∈ R1 ++ R2, r' ∈ R ∧ r' ≠ s ++ [a, b] := fun r' hr' => by
        refine ⟨by rw [eR]; rcases List.mem_append.mp hr' with h | h; exact List.mem_append_left _ h; exact List.mem_append_right _ (List.mem_cons_of_mem _ h), fun e => ?_⟩
        have nd := C.nd
        rw [eR, List.flatten_append, List.flatten_cons] at nd
        have n1 := List.nodup_append.mp nd
        have n2 := List.nodup_append.mp n1.2.1
        have ma : a ∈ r' := e ▸ List.mem_of_getElem? ga
        rcases List.mem_append.mp hr' with h | h
        · exact n1.2.2 a (List.mem_flatten.mpr ⟨r', h, ma⟩) a (List.mem_append_left _ (List.mem_of_getElem? ga)) rfl
        · exact n2.2.2 a (List.mem_of_getElem? ga) a (List.mem_flatten.mpr ⟨r', h, ma⟩) rfl
      have C2 : Cyc n q (R1 ++ (s ++ [a]) :: [b] :: R2) := by
        refine ⟨fun r' hr' => ?_, by rw [efl]; exact C.nd, by rw [efl]; exact C.bd⟩
        rcases List.mem_append.mp hr' with h | h
        · have u := uniq r' (List.mem_append_left _ h)
          exact keep r' u.1 u.2
        · rcases List.mem_cons.mp h with h | h
          · rw [h]
            refine ⟨by rw [List.length_append]; exact Nat.succ_pos _, fun i x hx => ?_⟩
            have hi := (List.getElem?_eq_some_iff.mp hx).1
            have lsa : (s ++ [a]).length = s.length + 1 := by rw [List.length_append]; rfl
            rw [lsa] at hi ⊢
            have pre : ∀ i, i < s.length + 1 → (s ++ [a])[i]? = (s ++ [a, b])[i]? := fun i hi => by
              have e : s ++ [a, b] = (s ++ [a]) ++ [b] := by rw [List.append_assoc]; rfl
              rw [e, List.getElem?_append_left (l₁ := s ++ [a]) (by rw [lsa]; exact hi)]
            rw [pre i hi] at hx
            by_cases z : i = s.length
            · subst z
              rw [ga] at hx
              cases hx
              rw [qa, Nat.mod_self, pre 0 (by omega), gf]
            · have m := List.mem_of_getElem? hx
              have xa : x ≠ a := fun e => by
                subst e
                obtain ⟨h3, e3⟩ := List.getElem?_eq_some_iff.mp ga
                obtain ⟨h4, e4⟩ := List.getElem?_eq_some_iff.mp hx
                exact z ((List.getElem_inj ndr).mp (e4.trans e3.symm))
              have xb : x ≠ b := fun e => by
                subst e
                obtain ⟨h3, e3⟩ := List.getElem?_eq_some_iff.mp gb
                obtain ⟨h4, e4⟩ := List.getElem?_eq_some_iff.mp hx
                have := (List.getElem_inj ndr).mp (e4.trans e3.symm)
                omega
              rw [qo x (C.bd x (mem x m)).1 xa xb, T.st i x hx, ls, Nat.mod_eq_of_lt (by omega), Nat.mod_eq_of_lt (by omega), pre _ (by omega)]
          · rcases List.mem_cons.mp h with h | h
            · rw [h]
              refine ⟨Nat.succ_pos _, fun i x hx => ?_⟩
              have hi := (List.getElem?_eq_some_iff.mp hx).1
              have i0 : i = 0 := by
                have hi : i < 1 := hi
                omega
              subst i0
              cases hx
              rw [qb, show (0 + 1) % [b].length = 0 from Nat.mod_self 1]
              rfl
            · have u := uniq r' (List.mem_append_right _ h)
              exact keep r' u.1 u.2
      have le := Nat.le_trans (rows_le C2.tn) (bd_len C2.nd C2.bd)
      rw [lR] at le
      have ih := parity (n - (R.length + 1)) q _ hq C2 (by rw [efl]; exact all) (by rw [lR])
      omega
termination_by k => k
decreasing_by omega
end KL
/-! min of a tuple of ints -/
namespace KL
open PySem PySem.Spec PyProof.Rows L2 GA GxR
theorem min_tupInts {prog : Program} {w : World} {A : Around} {E : Value → Shared → Prop} {s : Shared} {t : Addr} {vs : List Value} {ns : List Int} {Q : Value → Shared → Prop} (calm : A.handled = none) (ht : s.heap.IsTuple t vs.toArray) (vi : IntsAre vs ns) (some_ : 0 < ns.length)
    (q : ∀ (h1 : Heap) (k : Nat) (m : Int) (tm : Tok), (∀ b o, s.heap.get? b = some o → h1.get? b = some o) → m ∈ ns → (∀ y ∈ ns, m ≤ y) → Q (.int m tm) { s with heap := h1, toks := k }) :
    wpAny (model prog w) A (call (.builtin "min") [.ref t]) Q E s := by
  obtain ⟨ps, ep⟩ := IntsAre.allInts vi |>.items
  have en : numsOf (PySem.intItems ps).toList = ns := by
    rw [← ep]
    exact IntsAre.numsOf vi
  rw [nums_intItems] at en
  subst en
  rw [ep] at ht
  have p0 : 0 < ps.size := by simpa using some_
  have tlt : t < s.heap.objs.size := by
    obtain ⟨_, e, _⟩ := ht
    exact Heap.lt_size e
  refine PySem.call_min_walk (wpAny_pyIter_tuple ht ?_)
  refine ⟨_, [_, t], [_], _, _, _, _, rfl, PySem.Walks.tuple (A := A.in1) calm _ t (Nat.ne_of_lt tlt) (PySem.intItems ps), ⟨⟨_, Heap.get?_push_size _ rfl, rfl, rfl⟩, ht.push _⟩, fun c hc => ?_, by simpa [PySem.intItems] using p0, PySem.CmpOf.ints_lt (PySem.numAt ps) (fun _ _ => PySem.intItems_at), fun v h1 k hP hk => ?_⟩
  · show c < (s.heap.push _).objs.size
    rw [Heap.size_push]
    have hc2 : c = s.heap.objs.size ∨ c = t := by simpa using hc
    rcases hc2 with z | z
    · exact z ▸ Nat.lt_succ_self _
    · exact z ▸ Nat.lt_succ_of_lt tlt
  · have hP : (PySem.intItems ps)[_]? = some v := hP
    obtain ⟨tm, rfl⟩ := PySem.intItems_at hP
    obtain ⟨b1, b2⟩ := argBest_lt (PySem.numAt ps) (ps.size - 1)
    have es : (PySem.intItems ps).size = ps.size := by simp [PySem.intItems]
    refine q h1 k _ tm (fun b o e => hk b o (fun hm => ?_) (Heap.get?_push_of_some _ e)) ?_ fun y hy => ?_
    · rw [List.mem_singleton.mp hm] at e
      exact absurd (Heap.lt_size e) (Nat.lt_irrefl _)
    · rw [es, numAt_eq]
      exact PySem.getD_mem (by rw [List.length_map, Array.length_toList]; omega)
    · obtain ⟨j, hj, rfl⟩ := mem_getD hy
      rw [List.length_map, Array.length_toList] at hj
      rw [← numAt_eq, es]
      exact b2 j (by omega)
def rMinT (K : PySem.W.Frag) : List V → Hp → VK → Prop := fun vs H Q => ∃ (a : Addr) (ns : List Int), vs = [V.ref a] ∧ SqT K H a (ns.map V.int) ∧ 0 < ns.length ∧ ∀ m, m ∈ ns → (∀ y ∈ ns, m ≤ y) → Q (.int m) H
theorem cr_minT {X : Cx} {K : PySem.W.Frag} (e : X.K = K) (hc : X.calm = true := by rfl) : CallR X (.builtin "min") (rMinT K) := by
  subst e
  intro pins s σ H vs us Q I r h
  obtain ⟨a, ns, rfl, hs, hne, q⟩ := h
  obtain ⟨its, rv, hl, hz⟩ := I.tuple hs
  rw [Vals.ref1 r]
  exact min_tupInts (I.ok.hd hc) (show s.heap.IsTuple a its.toArray from hl) rv.ints hne fun h1 k m tm kp h1 h2 => ⟨.int m, H, I.kept kp, ⟨_, rfl⟩, q m h1 h2⟩
end KL
/-! rings against cycles -/
namespace KL
open PySem PySem.Spec PyProof.Rows L2 GA GxR
/-- r is the ring of x -/
structure Ring (n : Nat) (p : List Int) (x : Int) (r : List Int) : Prop where
  tn : Turn p r
  nd : r.Nodup
  hd : r[0]? = some x
  bd : ∀ y ∈ r, 0 ≤ y ∧ y < n
theorem ring_dvd {n : Nat} {p : List Int} {x : Int} {r s : List Int} (hp : IsPm n p) (a : Ring n p x r) (b : Ring n p x s) : r.length ∣ s.length := by
  have e1 := a.tn.pw hp a.bd a.hd s.length
  have e2 := b.tn.pw hp b.bd b.hd s.length
  rw [Nat.zero_add] at e1 e2
  rw [Nat.mod_self, b.hd] at e2
  rw [e2, ← a.hd] at e1
  have l := a.tn.ne
  have hm : s.length % r.length < r.length := Nat.mod_lt _ l
  rw [List.getElem?_eq_getElem l, List.getElem?_eq_getElem hm] at e1
  have := (List.getElem_inj a.nd).mp (Option.some.inj e1)
  exact Nat.dvd_of_mod_eq_zero this.symm
theorem ring_same {n : Nat} {p : List Int} {x : Int} {r s : List Int} (hp : IsPm n p) (a : Ring n p x r) (b : Ring n p x s) : r = s := by
  have el := Nat.dvd_antisymm (ring_dvd hp a b) (ring_dvd hp b a)
  refine pm_ext (n := s.length) el rfl fun k hk => ?_
  have e1 := a.tn.pw hp a.bd a.hd k
  have e2 := b.tn.pw hp b.bd b.hd k
  rw [Nat.zero_add, Nat.mod_eq_of_lt (by omega)] at e1 e2
  rw [← e1, e2]
theorem ring_mem {n : Nat} {p : List Int} {x y : Int} {r s : List Int} (hp : IsPm n p) (a : Ring n p x r) (t : Turn p s) (bs : ∀ y ∈ s, 0 ≤ y ∧ y < (n : Int)) (hx : x ∈ s) : y ∈ r ↔ y ∈ s := by
  obtain ⟨i, hi, ei⟩ := List.getElem_of_mem hx
  have gi : s[i]? = some x := by rw [List.getElem?_eq_getElem hi, ei]
  constructor
  · intro hy
    obtain ⟨k, hk, ek⟩ := List.getElem_of_mem hy
    have e1 := a.tn.pw hp a.bd a.hd k
    have e2 := t.pw hp bs gi k
    rw [Nat.zero_add, Nat.mod_eq_of_lt hk, List.getElem?_eq_getElem hk, ek] at e1
    rw [e1] at e2
    exact List.mem_of_getElem? e2.symm
  · intro hy
    obtain ⟨j, hj, ej⟩ := List.getElem_of_mem hy
    have e1 := a.tn.pw hp a.bd a.hd (s.length - i + j)
    have e2 := t.pw hp bs gi (s.length - i + j)
    rw [show i + (s.length - i + j) = j + s.length by omega, Nat.add_mod_right, Nat.mod_eq_of_lt hj, List.getElem?_eq_getElem hj, ej] at e2
    rw [e2] at e1
    exact List.mem_of_getElem? e1.symm
def hd0 (r : List Int) : Int := r.getD 0 0
theorem hd_get {p r : List Int} (t : Turn p r) : r[0]? = some (hd0 r) := by
  have e : r[0]? = some (r[0]'t.ne) := List.getElem?_eq_getElem t.ne
  rw [e]
  unfold hd0
  rw [getD_of e]
theorem Full.ring {n : Nat} {p : List Int} {R : List (List Int)} (F : Full n p R) {r : List Int} (hr : r ∈ R) : Ring n p (hd0 r) r :=
  ⟨F.cyc.tn r hr, nodup_row F.cyc.nd r hr, hd_get (F.cyc.tn r hr), fun y hy => F.cyc.bd y (List.mem_flatten.mpr ⟨r, hr, hy⟩)⟩
theorem filt_step {R : List (List Int)} (so : (R.map hd0).Pairwise (· < ·)) (i : Int) : (R.filter fun r => decide (hd0 r < i + 1)) = (R.filter fun r => decide (hd0 r < i)) ++ R.filter fun r => decide (hd0 r = i) := by
  induction R with
  | nil => rfl
  | cons r R ih =>
    rw [List.map_cons, List.pairwise_cons] at so
    have ih := ih so.2
    by_cases h : hd0 r < i
    · rw [List.filter_cons_of_pos (by rw [decide_eq_true_iff]; omega), List.filter_cons_of_pos (by rw [decide_eq_true_iff]; omega), List.filter_cons_of_neg (by rw [decide_eq_true_iff]; omega), ih]
      rfl
    · have none1 : (R.filter fun r => decide (hd0 r < i)) = [] := List.filter_eq_nil_iff.mpr fun s hs => by
        have := so.1 _ (List.mem_map_of_mem hs)
        rw [decide_eq_true_iff]; omega
      have none2 : (R.filter fun r => decide (hd0 r = i)) = [] := List.filter_eq_nil_iff.mpr fun s hs => by
        have := so.1 _ (List.mem_map_of_mem hs)
        rw [decide_eq_true_iff]; omega
      rw [none1, none2] at ih
      by_cases h2 : hd0 r = i
      · rw [List.filter_cons_of_pos (by rw [decide_eq_true_iff]; omega), List.filter_cons_of_neg (by rw [decide_eq_true_iff]; omega), List.filter_cons_of_pos (by rw [decide_eq_true_iff]; omega), ih, none1, none2]
        rfl
      · rw [List.filter_cons_of_neg (by rw [decide_eq_true_iff]; omega), List.filter_cons_of_neg (by rw [decide_eq_true_iff]; omega), List.filter_cons_of_neg (by rw [decide_eq_true_iff]; omega), ih, none1, none2]
theorem filt_one {R : List (List Int)} (so : (R.map hd0).Pairwise (· < ·)) {r : List Int} (hr : r ∈ R) : (R.filter fun s => decide (hd0 s = hd0 r)) = [r] := by
  induction R with
  | nil => cases hr
  | cons a R ih =>
    rw [List.map_cons, List.pairwise_cons] at so
    rcases List.mem_cons.mp hr with z | z
    · rw [← z] at so ⊢
      rw [List.filter_cons_of_pos (by rw [decide_eq_true_iff]), List.filter_eq_nil_iff.mpr fun s hs => by
        have := so.1 _ (List.mem_map_of_mem hs)
        rw [decide_eq_true_iff]; omega]
    · have := so.1 _ (List.mem_map_of_mem z)
      rw [List.filter_cons_of_neg (by rw [decide_eq_true_iff]; omega), ih so.2 z]
/-- the rows whose least point is below i -/
def fl (R : List (List Int)) (i : Nat) : List (List Int) := R.filter fun r => decide (hd0 r < (i : Int))
theorem fl_zero {n : Nat} {p : List Int} {R : List (List Int)} (F : Full n p R) : fl R 0 = [] := List.filter_eq_nil_iff.mpr fun r hr => by
  have h := (F.ring hr).bd _ (List.mem_of_getElem? (F.ring hr).hd)
  rw [decide_eq_true_iff]
  omega
theorem fl_all {n : Nat} {p : List Int} {R : List (List Int)} (F : Full n p R) : fl R n = R := List.filter_eq_self.mpr fun r hr => by
  have h := (F.ring hr).bd _ (List.mem_of_getElem? (F.ring hr).hd)
  rw [decide_eq_true_iff]
  omega
/-- the test of the law: the ring's least point is the point itself -/
theorem fl_yes {n i : Nat} {p : List Int} {R : List (List Int)} {r : List Int} (hp : IsPm n p) (F : Full n p R) (a : Ring n p i r) (hi : i < n) (m : ∀ y ∈ r, (i : Int) ≤ y) : fl R (i + 1) = fl R i ++ [r] := by
  obtain ⟨s, hs, hx⟩ := List.mem_flatten.mp (F.all (i : Int) (by omega) (by omega))
  have S := F.ring hs
  have h1 : hd0 s ∈ r := (ring_mem hp a S.tn S.bd hx).mpr (List.mem_of_getElem? S.hd)
  have h2 : hd0 s = (i : Int) := by
    have := m _ h1
    have := F.mn s hs _ hx
    show s.getD 0 0 = (i : Int)
    have e : s.getD 0 0 = hd0 s := rfl
    omega
  rw [h2] at S
  have e := ring_same hp a S
  subst e
  have st := filt_step F.so (i : Int)
  have o := filt_one F.so hs
  rw [h2] at o
  unfold fl
  rw [show ((i + 1 : Nat) : Int) = (i : Int) + 1 by omega, st, o]
theorem fl_no {n i : Nat} {p : List Int} {R : List (List Int)} {r : List Int} {m : Int} (hp : IsPm n p) (F : Full n p R) (a : Ring n p i r) (hm : m ∈ r) (ml : m < i) : fl R (i + 1) = fl R i := by
  have st := filt_step F.so (i : Int)
  have z : (R.filter fun s => decide (hd0 s = (i : Int))) = [] := List.filter_eq_nil_iff.mpr fun s hs => by
    rw [decide_eq_true_iff]
    intro h2
    have S := F.ring hs
    have hx : (i : Int) ∈ s := h2 ▸ List.mem_of_getElem? S.hd
    have h3 := F.mn s hs m ((ring_mem hp a S.tn S.bd hx).mp hm)
    have e : s.getD 0 0 = hd0 s := rfl
    omega
  unfold fl
  rw [show ((i + 1 : Nat) : Int) = (i : Int) + 1 by omega, st, z, List.append_nil]
theorem Cyc.unit_of {n N : Nat} {p : List Int} {R : List (List Int)} (hp : IsPm n p) (C : Cyc n p R) (all : ∀ x : Int, 0 ≤ x → x < n → x ∈ R.flatten) (d : ∀ r ∈ R, r.length ∣ N) : pwL n p N = unitL n := by
  refine pm_ext (n := n) (pwL_pm hp N).len (unit_pm n).len fun j hj => ?_
  obtain ⟨r, hr, hx⟩ := List.mem_flatten.mp (all (j : Int) (by omega) (by omega))
  obtain ⟨i, hi, e⟩ := List.getElem_of_mem hx
  have h : r[i]? = some (j : Int) := by rw [List.getElem?_eq_getElem hi, e]
  have k := C.pw hp hr h N
  obtain ⟨t, et⟩ := d r hr
  rw [et, Nat.add_mul_mod_self_left, Nat.mod_eq_of_lt hi, h, show ((j : Nat) : Int).toNat = j by omega] at k
  rw [et, k]
  exact (unitL_get hj).symm
/-- the rings of the points below i, as tuples -/
structure RingsAt (H : Hp) (Cs : List Addr) (n : Nat) (p : List Int) (i : Nat) : Prop where
  len : Cs.length = i
  at_ : ∀ k, k < i → ∃ (a : Addr) (r : List Int), Cs[k]? = some a ∧ H a = some (.tup (r.map V.int)) ∧ Ring n p k r
theorem RingsAt.ex {H H' : Hp} {Cs : List Addr} {n i : Nat} {p : List Int} (x : Ex H H') (h : RingsAt H Cs n p i) : RingsAt H' Cs n p i :=
  ⟨h.len, fun k hk => let ⟨a, r, e1, e2, e3⟩ := h.at_ k hk; ⟨a, r, e1, x.st _ _ e2 trivial, e3⟩⟩
theorem RingsAt.upd {H : Hp} {Cs : List Addr} {n i : Nat} {p : List Int} {q : Addr} {o u : HO} (h : RingsAt H Cs n p i) (e : H q = some u) (nt : ∀ xs, u ≠ .tup xs) : RingsAt (L2.upd H q o) Cs n p i :=
  ⟨h.len, fun k hk => let ⟨a, r, e1, e2, e3⟩ := h.at_ k hk; ⟨a, r, e1, by
    rw [upd_ne (fun z => by rw [z, e] at e2; exact nt _ (Option.some.inj e2))]
    exact e2, e3⟩⟩
theorem RingsAt.more {H : Hp} {Cs : List Addr} {n i : Nat} {p r : List Int} {a : Addr} (h : RingsAt H Cs n p i) (e : H a = some (.tup (r.map V.int))) (hr : Ring n p i r) : RingsAt H (Cs ++ [a]) n p (i + 1) := by
  refine ⟨by rw [List.length_append, h.len]; rfl, fun k hk => ?_⟩
  by_cases hk2 : k < i
  · obtain ⟨b, s, e1, e2, e3⟩ := h.at_ k hk2
    exact ⟨b, s, by rw [List.getElem?_append_left (by rw [h.len]; exact hk2)]; exact e1, e2, e3⟩
  · have ek : k = i := by omega
    subst ek
    exact ⟨a, r, by rw [List.getElem?_append_right (by rw [h.len]; exact Nat.le_refl _), h.len, Nat.sub_self]; rfl, e, hr⟩
def spAlike2 : Sp := fun vs H Q _ => ∃ (a b : Addr) (As Bs : List Addr) (R : List (List Int)), vs = [.ref a, .ref b] ∧ H a = some (.tup (As.map V.ref)) ∧ H b = some (.tup (Bs.map V.ref)) ∧ RowsAt H As R ∧ RowsAt H Bs R ∧ R.length ≤ 1000 ∧ (∀ r ∈ R, r.length ≤ 1000) ∧ ∀ H', Ex H H' → Q (.bl true) H'
theorem srt_same {ns ms ls : List Int} (h1 : ns.Perm ls) (h2 : ms.Perm ls) (s1 : ns.Pairwise (· ≤ ·)) (s2 : ms.Pairwise (· ≤ ·)) : ns = ms := PySem.W.ksm_same (h1.trans h2.symm) s1 s2
end KL
/-! conjugates: promises -/
namespace KL
open PySem PySem.Spec PyProof.Rows L2 GA GxR
def spNear (K : PySem.W.Frag) : Sp := fun vs H Q _ => ∃ (r s a : Addr) (n : Nat) (p ns : List Int), vs = [.ref r, .ref a] ∧ RowAt H r s ∧ SqL K H s (ns.map V.int) ∧ Pm H a n p ∧ 1 ≤ n ∧ n ≤ 12 ∧ ∀ (c : Addr) (H' : Hp) (q : List Int), Ex H H' → Pm H' c n q → Q (.ref c) H'
end KL
/-! rules: set(list of ints), a display with one tuple as key, sorted(.., key=len), factorial -/
namespace KL
open PySem PySem.Spec PyProof.Rows L2 GA GxR
/-! ### set(l), l a list of ints -/
abbrev bareSet (w : World) : Obj := { cls := .type "set", dict := none, data := .set #[] 0 (.fresh 0 0 (!w.params.followText "set-order")) }
abbrev bareIter (l : Addr) : Obj := { cls := .type "list_iterator", data := .fields #[.ref l, .int 0 0] }
/-- what set(l) has made -/
def MadeSet (w : World) (s : Shared) (ns : List Int) (z : Shared) : Prop := ∃ g tk c, z = { s with heap := g, toks := tk } ∧ SetR w g s.heap.objs.size (fun j => decide (j ∈ ns)) c ∧ c ≤ ns.length ∧ ∀ b o, s.heap.get? b = some o → g.get? b = some o
section
variable {P : Program} {w : World} {A : Around} {E : Value → Shared → Prop} {s : Shared} {l : Addr} {vals : Array Value} {ns : List Int}
theorem set_ints_of (isL : s.heap.IsList l vals) (hit : IntsAre vals.toList ns) (few : ns.length + 1 < scanBound) (calm : A.in1.handled = none) (R : Result → Shared → Prop) (go : ∀ z, MadeSet w s ns z → R (.ok (.ret .none)) z) :
    codeAny (model P w) A (.builtin "set.update.loop" ⟨[.ref s.heap.objs.size, .ref (s.heap.push (bareSet w)).objs.size], []⟩) R { s with heap := (s.heap.push (bareSet w)).push (bareIter l) } := by
  obtain ⟨ol, hol, rest⟩ := id isL
  have ltl := Heap.lt_size hol
  have wide : (s.heap.push (bareSet w)).objs.size = s.heap.objs.size + 1 := Heap.size_push ..
  have es : vals.size = ns.length := by
    have q := hit.length
    rwa [Array.length_toList] at q
  have ne1 : l ≠ (s.heap.push (bareSet w)).objs.size := by
    rw [wide]
    exact Nat.ne_of_lt (Nat.lt_succ_of_lt ltl)
  have out : s.heap.objs.size ∉ [(s.heap.push (bareSet w)).objs.size, l] := by
    simp only [List.mem_cons, List.not_mem_nil, or_false, not_or]
    exact ⟨by rw [wide]; exact Nat.ne_of_lt (Nat.lt_succ_self _), Nat.ne_of_gt ltl⟩
  have vals' : ∀ (i : Nat) (v : Value), vals[i]? = some v → ∃ k t, ns[i]? = some k ∧ v = .int k t := fun i v hv => by
    have li : i < ns.length := es ▸ (Array.getElem?_eq_some_iff.mp hv).1
    have gi := List.getElem?_eq_getElem li
    obtain ⟨t, e⟩ := hit.get i _ gi
    rw [Array.getElem?_toList, hv] at e
    exact ⟨_, t, gi, Option.some.inj e⟩
  have set0 : ((s.heap.push (bareSet w)).push (bareIter l)).get? s.heap.objs.size = some (bareSet w) := Heap.get?_push_of_some _ (Heap.get?_push_size _ rfl)
  have isL2 : ((s.heap.push (bareSet w)).push (bareIter l)).IsList l vals := (isL.push _).push _
  refine set_update_ints (Walks.list calm _ l ne1 vals).toS _ out ns es few vals' vals.size 0 _ (Nat.sub_zero _) (Nat.zero_le _) ⟨⟨_, Heap.get?_push_size _ rfl, rfl, rfl⟩, isL2⟩ ⟨0, Nat.le_refl 0, setR_new_at set0⟩ fun z c mv hc S => go z ?_
  obtain ⟨zh, zg, zd, zt, zo⟩ := z
  obtain rfl : zg = s.gens := mv.gens
  obtain rfl : zd = s.drawn := mv.drawn
  obtain rfl : zo = s.os := mv.os
  refine ⟨zh, zt, c, rfl, S, by omega, fun b o e => ?_⟩
  have lb := Heap.lt_size e
  refine mv.heap b o ?_ (Heap.get?_push_of_some _ (Heap.get?_push_of_some _ e))
  simp only [List.mem_cons, List.not_mem_nil, or_false, not_or]
  exact ⟨Nat.ne_of_lt lb, by rw [wide]; exact Nat.ne_of_lt (Nat.lt_succ_of_lt lb)⟩
theorem call_set_ints {Q : Value → Shared → Prop} (calm : A.handled = none) (isL : s.heap.IsList l vals) (hit : IntsAre vals.toList ns) (few : ns.length + 1 < scanBound)
    (go : ∀ z, MadeSet w s ns z → Q (.ref s.heap.objs.size) z) : wpAny (model P w) A (call (.type "set") [.ref l]) Q E s := by
  obtain ⟨cl, tl, mro⟩ := PySem.F.called_set.mro
  have made := PySem.F.called_set.made
  have sub := PySem.F.called_set.sub
  refine wpAny_call (codeAny_of_tree (show wpAny _ _ (callAny (.type "set") _) _ _ _ from wpAny_pure ⟨Code.quiet_builtin _ (by decide +kernel), codeAny_builtin PySem.F.entry_type_call ?_⟩))
  rw [Around.under_plain (weight_type_call_type "set" [.ref l] []) rfl]
  have nt := PySem.F.called_set.notType
  have can := PySem.F.called_set.canCreate
  have tc := PySem.F.typeCall_set_1 (.ref l)
  repeat any_goals first | assumption | wp_step
  refine codeAny_mono (code_set_led1 (.ref l) (E := E) (Q₁ := fun x z => x = .ref s.heap.objs.size ∧ z = { s with heap := s.heap.push (bareSet w) }) ⟨rfl, rfl⟩) fun r z hr => ?_
  match r, hr with
  | .error e, hr => exact hr
  | .ok (.ret x), hr =>
    obtain ⟨rfl, rfl⟩ := hr
    have at0 : (s.heap.push (bareSet w)).get? s.heap.objs.size = some (bareSet w) := Heap.get?_push_size _ rfl
    have ty0 : Shared.TypeIs { s with heap := s.heap.push (bareSet w) } (.ref s.heap.objs.size) "set" := ⟨_, at0, rfl⟩
    have il := PySem.F.called_set.init.lookup
    have ib := PySem.F.called_set.init.bind (.ref s.heap.objs.size)
    repeat any_goals first | assumption | wp_step
    refine codeAny_mono (codeAny_call_builtin (R := wants (fun x z => x = .none ∧ MadeSet w s ns z) E) PySem.F.called_set.init.plain PySem.F.entry_set_init (check_set_init_1 ty0 ?_)) fun r2 z2 hr2 => ?_
    · obtain ⟨ol, hol, hcl, nl, hdl⟩ := id isL
      obtain ⟨ocls, odict, odata, oslots⟩ := ol
      simp only at hcl hdl
      subst hcl; subst hdl
      have atl : (s.heap.push (bareSet w)).get? l = some { cls := .type "list", dict := odict, data := .seq vals nl, slots := oslots } := Heap.get?_push_of_some _ hol
      have s1 := PySem.F.sub_list_set
      have s2 := PySem.F.sub_list_frozenset
      have nd : (Value.type "list" == Value.type "dict") = false := by decide
      have isL1 : (s.heap.push (bareSet w)).IsList l vals := isL.push _
      unfold Builtin.«set.__init__» noKeywords Builtin.Frozenset.updateFrom
      generalize hPI : pyIter = PI
      wp_walk
      subst hPI
      refine wpAny_pyIter_list isL1 (wpAny_bind (wpAny_runValue ?_))
      refine set_ints_of isL hit few (by simp [calm]) _ fun z mz => ?_
      show wpAny _ _ _ _ _ _
      refine wpAny_pure ?_
      show wpAny _ _ (ret Value.none) _ _ _
      exact wpAny_pure ⟨rfl, mz⟩
    · match r2, hr2 with
      | .error e, hr2 => exact hr2
      | .ok (.ret x), hr2 =>
        obtain ⟨rfl, mz⟩ := hr2
        obtain ⟨g, tk, c, rfl, S, hc, kp⟩ := id mz
        repeat any_goals first | assumption | wp_step
        exact go _ mz
      | .ok .next, hr2 => exact hr2.elim
      | .ok (.brk), hr2 => exact hr2.elim
      | .ok (.cont), hr2 => exact hr2.elim
  | .ok .next, hr => exact hr.elim
  | .ok (.brk), hr => exact hr.elim
  | .ok (.cont), hr => exact hr.elim
end
/-- set(l), l a list of ints -/
def rSetOf (K : PySem.W.Frag) (w : World) : List V → Hp → VK → Prop := fun vs H Q => ∃ (l : Addr) (ns : List Int), vs = [V.ref l] ∧ SqL K H l (ns.map V.int) ∧ ns.length ≤ 4000 ∧ ∀ (a : Addr) (c : Nat), H a = none → c ≤ ns.length → Q (.ref a) (upd H a (SetO w a (fun j => decide (j ∈ ns)) c))
theorem cr_setL {X : Cx} {K : PySem.W.Frag} (h : X.K = K) (hc : X.calm = true := by rfl) : CallR X (.type "set") (rSetOf K X.w) := by
  subst h
  intro pins s σ H vs us Q I r q
  obtain ⟨l, ns, rfl, hl, few, q⟩ := q
  obtain ⟨its, rv, pl, hz⟩ := I.list hl
  rw [Vals.ref1 r]
  refine call_set_ints (I.ok.hd hc) pl.isList (by simpa using rv.ints) (by unfold scanBound; omega) fun z mz => ?_
  obtain ⟨g, tk, c, rfl, S, hcn, kp⟩ := mz
  exact ⟨.ref _, upd H s.heap.objs.size (SetO X.w s.heap.objs.size (fun j => decide (j ∈ ns)) c), I.laid (t' := tk) (fun b u e => kp b u e) (Nat.le_refl _) (setO_new S), rfl, q _ c (I.hok.fresh (Nat.le_refl _)) hcn⟩
/-! ### {t: v}, t a tuple of ints and texts -/
def tDispT (tk tv : TE) : TE := fun σ H Q => ∀ d, H d = none → tk σ (upd H d (.dT [])) fun x H1 => tv σ H1 fun y H2 => H2 d = some (.dT []) ∧ ∃ (b : Addr) (ks : List L2.Key), x = .ref b ∧ H2 b = some (.tup (ks.map kV)) ∧ Q (.ref d) (upd H2 d (.dT [(ks, y)]))
theorem pe_dispT {X : Cx} {k v : Expr} {tk tv : TE} {pos : Pos} (hu : X.A.units + 1 < cLine) (hk : PE X k tk) (hv : PE X v tv) : PE X (.Dict [some k] [v] pos) (tDispT tk tv) := by
  refine ⟨fun pins s σ H Q I q => ?_⟩
  have hn := I.hok.fresh (Nat.le_refl s.heap.objs.size)
  have I1 := I.laid (a := s.heap.objs.size) (o := .dT []) (h' := s.heap.push { cls := .type "dict", data := .dict #[] }) (t' := s.toks) (fun _ _ e => Heap.get?_push_of_some _ e) (Nat.le_refl _) (dt_empty s.heap I.big)
  rw [arm_eval_Dict, zip_pairTrees [some k] [v] X.env pos rfl rfl, dictDisplay_pairs _ (by intro z; cases z) (by show 1 < 17; decide)]
  refine wpAny_bind (wpAny_standAt (wpAny_bind (wpAny_subDictH (knd := tupleKind (mixKind X.prog X.w)) (by show X.A.units < cLine; omega) (by show 1 ≤ 15; decide) (pairTrees_cons_walk (thn (hk.run pins _ σ _ _ I1 (q _ hn)) fun u s1 ⟨x, H1, J1, rx, q1⟩ => thn (hv.run pins s1 σ H1 _ J1 q1) fun u2 s2 ⟨y, H2, J2, ry, e, b, ks, ex, hb, q2⟩ => pairTrees_nil_walk ?_)))))
  subst ex
  cases (show u = Value.ref b from rx)
  obtain ⟨z, hd, xs, rel, dd⟩ := dt_of J2.hok e
  cases rel
  refine ⟨[(ks, b, u2)], ⟨rfl, rfl, key_of J2.hok hb, trivial⟩, dd, fun h' t' dd' hs => wpAny_pure ⟨.ref _, _, ?_, rfl, q2⟩⟩
  obtain ⟨o, es, ep, ho, h2, h3, h4, _, h5⟩ := dd'
  refine d_write J2 (by rw [e]; exact True.intro) hs ⟨o, ho⟩ ⟨by show 1 ≤ sizeLine; decide, hd, _, ((KT.put (k := ks) (b := b) .nil hb ry).keeps fun c ys ec => ?_), o, es, ep, ho, h2, h3, h4, h5⟩
  rw [upd_ne (ne_of ec e fun z => nomatch z)]
  exact ec
/-! ### factorial -/
def rFac : List V → Hp → VK → Prop := fun vs H Q => ∃ a : Nat, vs = [.int a] ∧ a ≤ 1000 ∧ Q (.int ((Builtin.Math.factorialNat a : Nat) : Int)) H
theorem cr_factorial {X : Cx} : CallR X (.builtin "math.factorial") rFac := by
  intro pins s σ H vs us Q I r h
  obtain ⟨a, rfl, ha, q⟩ := h
  obtain ⟨u, rfl, t, rfl⟩ := vals1 r
  exact PySem.W.mc_factorial (by omega) (by omega) fun _ => ⟨.int _, H, I.tok _, ⟨_, rfl⟩, by rw [Int.toNat_natCast]; exact q⟩
end KL
/-! conjugates and how many commute -/
namespace KL
open PySem PySem.Spec PyProof.Rows L2 GA GxR
/-! ### the cycles are determined -/
theorem Full.sub {n : Nat} {p : List Int} {R S : List (List Int)} (hp : IsPm n p) (F : Full n p R) (G : Full n p S) : ∀ r ∈ R, r ∈ S := fun r hr => by
  have a := F.ring hr
  have hx := List.mem_of_getElem? a.hd
  have hb := a.bd _ hx
  obtain ⟨s, hs, hm⟩ := List.mem_flatten.mp (G.all (hd0 r) hb.1 hb.2)
  have b := G.ring hs
  have mem : ∀ y, y ∈ r ↔ y ∈ s := fun y => ring_mem hp a b.tn b.bd hm
  have e1 := G.mn s hs _ hm
  have e2 := F.mn r hr _ ((mem _).mpr (List.mem_of_getElem? b.hd))
  have e : hd0 s = hd0 r := Int.le_antisymm e1 e2
  rw [e] at b
  rw [ring_same hp a b]
  exact hs
theorem Full.nd {n : Nat} {p : List Int} {R : List (List Int)} (F : Full n p R) : R.Nodup := by
  have h := F.so
  rw [List.pairwise_map] at h
  exact h.imp fun {a b} z e => by
    rw [e] at z
    omega
theorem Full.perm {n : Nat} {p : List Int} {R S : List (List Int)} (hp : IsPm n p) (F : Full n p R) (G : Full n p S) : R.Perm S :=
  (List.perm_ext_iff_of_nodup F.nd G.nd).mpr fun r => ⟨F.sub hp G r, G.sub hp F r⟩
def lensN (R : List (List Int)) : List Nat := R.map List.length
theorem lensL_N (R : List (List Int)) : lensL R = (lensN R).map Int.ofNat := by
  unfold lensL lensN
  rw [List.map_map]
  rfl
/-- p and q have cycles of the same lengths -/
def Alike (n : Nat) (p q : List Int) : Prop := ∃ R S, Full n p R ∧ Full n q S ∧ (lensL R).Perm (lensL S)
theorem alike_iff {n : Nat} {p q : List Int} {R S : List (List Int)} {ns ms : List Int} (hp : IsPm n p) (hq : IsPm n q) (F : Full n p R) (G : Full n q S) (h1 : ns.Perm (lensL R)) (h2 : ms.Perm (lensL S)) (o1 : ns.Pairwise (· ≤ ·)) (o2 : ms.Pairwise (· ≤ ·)) : ns = ms ↔ Alike n p q := by
  constructor
  · intro e
    exact ⟨R, S, F, G, h1.symm.trans (e ▸ h2)⟩
  · rintro ⟨R', S', F', G', h⟩
    have a : (lensL R).Perm (lensL R') := (F.perm hp F').map _
    have b : (lensL S').Perm (lensL S) := (G'.perm hq G).map _
    exact PySem.W.ksm_same (((h1.trans a).trans (h.trans b)).trans h2.symm) o1 o2
/-! ### rows laid one behind the other -/
theorem flat_get : ∀ {L : List (List Int)} {m i : Nat} {r : List Int} {x : Int}, L[m]? = some r → r[i]? = some x → L.flatten[(L.take m).flatten.length + i]? = some x
  | [], m, i, r, x, h, _ => by cases h
  | a :: L, 0, i, r, x, h, hx => by
    cases (Option.some.inj h)
    rw [List.flatten_cons, List.take_zero, List.flatten_nil, List.length_nil, Nat.zero_add, List.getElem?_append_left (List.getElem?_eq_some_iff.mp hx).1]
    exact hx
  | a :: L, m + 1, i, r, x, h, hx => by
    have ih := flat_get (L := L) (m := m) (i := i) (r := r) (x := x) h hx
    rw [List.take_succ_cons, List.flatten_cons, List.flatten_cons, List.length_append, Nat.add_assoc, List.getElem?_append_right (Nat.le_add_right _ _), Nat.add_sub_cancel_left]
    exact ih
theorem lens_take {Rs Ss : List (List Int)} (e : Rs.map List.length = Ss.map List.length) (m : Nat) : (Rs.take m).flatten.length = (Ss.take m).flatten.length := by
  rw [List.length_flatten, List.length_flatten, List.map_take, List.map_take, e]
theorem take_flat {L : List (List Int)} {m : Nat} {r : List Int} (h : L[m]? = some r) : (L.take (m + 1)).flatten.length = (L.take m).flatten.length + r.length := by
  rw [List.take_add_one, h, List.flatten_append, List.length_append]
  show _ + [r].flatten.length = _
  rw [List.flatten_cons, List.flatten_nil, List.append_nil]
theorem flat_pm {n : Nat} {p : List Int} {R Rs : List (List Int)} (F : Full n p R) (h : Rs.Perm R) : IsPm n Rs.flatten := by
  have hf : Rs.flatten.Perm R.flatten := List.Perm.flatten h
  have nd := hf.nodup_iff.mpr F.cyc.nd
  have bd : ∀ x ∈ Rs.flatten, 0 ≤ x ∧ x < (n : Int) := fun x hx => F.cyc.bd x (hf.mem_iff.mp hx)
  refine ⟨?_, nd, bd⟩
  have h1 := bd_len nd bd
  have h2 : (unitL n).length ≤ Rs.flatten.length := len_le_sub (unit_pm n).nd fun x hx => by
    have b := (unit_pm n).bd x hx
    exact hf.mem_iff.mpr (F.all x b.1 b.2)
  rw [show (unitL n).length = n from (unit_pm n).len] at h2
  omega
/-- what carries the one's rows to the other's is a conjugator -/
theorem carries_conj {n : Nat} {p q g : List Int} {R S Rs Ss : List (List Int)} (hp : IsPm n p) (hq : IsPm n q) (F : Full n p R) (G : Full n q S) (h1 : Rs.Perm R) (h2 : Ss.Perm S) (e : Rs.map List.length = Ss.map List.length)
    (h : Filled n Rs.flatten (fun j => Ss.flatten.getD j 0) n g) : IsPm n g ∧ mulL (mulL (invL g) p) g = q := by
  have pr := flat_pm F h1
  have ps := flat_pm G h2
  have hg : IsPm n g := h.isPm pr (fun j hj => by
    obtain ⟨x, hx, b⟩ := ps.get hj
    rw [getD_of hx]
    exact b) fun j k hj hk z => by
      obtain ⟨x, hx, _⟩ := ps.get hj
      obtain ⟨y, hy, _⟩ := ps.get hk
      rw [getD_of hx, getD_of hy] at z
      exact ps.inj hx (z ▸ hy)
  refine ⟨hg, pm_ext (n := n) (mulL_pm (mulL_pm (invL_pm hg) hp) hg).len hq.len fun j hj => ?_⟩
  have key : ∀ (m i : Nat) (r s : List Int) (x : Int), Rs[m]? = some r → Ss[m]? = some s → r[i]? = some x → ∃ y, s[i]? = some y ∧ g[x.toNat]? = some y := fun m i r s x hr hs hx => by
    have el : r.length = s.length := by
      have z := congrArg (fun l => l[m]?) e
      simp only [List.getElem?_map, hr, hs, Option.map_some] at z
      exact Option.some.inj z
    have hi := (List.getElem?_eq_some_iff.mp hx).1
    have hy : s[i]? = some (s[i]'(by omega)) := List.getElem?_eq_getElem (by omega)
    refine ⟨_, hy, ?_⟩
    have a := flat_get hr hx
    have b := flat_get hs hy
    rw [← lens_take e] at b
    have hk := (List.getElem?_eq_some_iff.mp a).1
    rw [pr.len] at hk
    rw [h.at_ _ _ hk a, getD_of b]
  obtain ⟨k, hk, ek⟩ := hg.onto hj
  have hinv := (invL_filled hg).at_ k _ hk ek
  rw [show ((j : Nat) : Int).toNat = j by omega] at hinv
  -- the row of k
  have hkm : (k : Int) ∈ Rs.flatten := (List.Perm.flatten h1).mem_iff.mpr (F.all k (by omega) (by omega))
  obtain ⟨r, hr, hkr⟩ := List.mem_flatten.mp hkm
  obtain ⟨m, hm, em⟩ := List.getElem_of_mem hr
  obtain ⟨i, hi, ei⟩ := List.getElem_of_mem hkr
  have gr : Rs[m]? = some r := by rw [List.getElem?_eq_getElem hm, em]
  have gx : r[i]? = some (k : Int) := by rw [List.getElem?_eq_getElem hi, ei]
  have lm : Rs.length = Ss.length := by
    have z := congrArg List.length e
    rwa [List.length_map, List.length_map] at z
  obtain ⟨s, gs⟩ : ∃ s, Ss[m]? = some s := ⟨_, List.getElem?_eq_getElem (by omega)⟩
  have tr := F.cyc.tn r (h1.mem_iff.mp hr)
  have ts := G.cyc.tn s (h2.mem_iff.mp (List.mem_of_getElem? gs))
  have el : r.length = s.length := by
    have z := congrArg (fun l => l[m]?) e
    simp only [List.getElem?_map, gr, gs, Option.map_some] at z
    exact Option.some.inj z
  obtain ⟨y, gy, ey⟩ := key m i r s _ gr gs gx
  rw [show ((k : Nat) : Int).toNat = k by omega, ek] at ey
  cases ey
  have st := tr.st i _ gx
  have su := ts.st i _ gy
  have hi2 : (i + 1) % r.length < r.length := Nat.mod_lt _ tr.ne
  rw [List.getElem?_eq_getElem hi2] at st
  obtain ⟨z, gz, ez⟩ := key m _ r s _ gr gs (List.getElem?_eq_getElem hi2)
  rw [show ((k : Nat) : Int).toNat = k by omega] at st
  rw [show ((j : Nat) : Int).toNat = j by omega, ← el, gz] at su
  rw [su]
  refine mulL_at (mulL_at hinv ?_) ez
  rw [show ((k : Nat) : Int).toNat = k by omega]
  exact st
/-! ### how many commute -/
def factN : Nat → Nat
  | 0 => 1
  | n + 1 => factN n * (n + 1)
theorem factN_eq : ∀ n, Builtin.Math.factorialNat n = factN n
  | 0 => by decide +kernel
  | n + 1 => by rw [PySem.W.mc_fac_succ, factN_eq n]; rfl
/-- the factors of the lengths ds -/
def czL (ds ls : List Nat) : Nat := (ds.map fun d => d ^ ls.count d * factN (ls.count d)).foldr (· * ·) 1
theorem czL_cons (d : Nat) (ds ls : List Nat) : czL (d :: ds) ls = d ^ ls.count d * factN (ls.count d) * czL ds ls := rfl
theorem czL_nil : ∀ ds : List Nat, czL ds [] = 1
  | [] => rfl
  | d :: ds => by
    rw [czL_cons, czL_nil ds, List.count_nil]
    rfl
theorem count_snoc (l : List Nat) (x d : Nat) : (l ++ [x]).count d = l.count d + if x = d then 1 else 0 := by
  rw [List.count_append, List.count_cons, List.count_nil, Nat.zero_add]
  congr 1
  by_cases h : x = d
  · rw [if_pos h, if_pos (by rw [h]; exact beq_self_eq_true d)]
  · rw [if_neg h, if_neg (by intro z; exact h (eq_of_beq z))]
theorem czL_out {x : Nat} : ∀ {ds : List Nat} (l : List Nat), x ∉ ds → czL ds (l ++ [x]) = czL ds l
  | [], _, _ => rfl
  | d :: ds, l, h => by
    have h1 : x ≠ d := fun z => h (z ▸ List.mem_cons_self ..)
    rw [czL_cons, czL_cons, czL_out l fun z => h (List.mem_cons_of_mem _ z), count_snoc, if_neg h1, Nat.add_zero]
theorem czL_snoc {x : Nat} : ∀ {ds : List Nat} (l : List Nat), ds.Nodup → x ∈ ds → czL ds (l ++ [x]) = czL ds l * x * (l.count x + 1)
  | [], _, _, h => by cases h
  | d :: ds, l, nd, h => by
    rw [List.nodup_cons] at nd
    rw [czL_cons, czL_cons]
    by_cases e : x = d
    · subst e
      rw [czL_out l nd.1, count_snoc, if_pos rfl, Nat.pow_succ]
      show x ^ l.count x * x * (factN (l.count x) * (l.count x + 1)) * czL ds l = _
      simp only [Nat.mul_assoc, Nat.mul_comm, Nat.mul_left_comm]
    · have hm : x ∈ ds := (List.mem_cons.mp h).resolve_left e
      rw [czL_snoc l nd.2 hm, count_snoc, if_neg e, Nat.add_zero]
      simp only [Nat.mul_assoc]
theorem czL_perm {ds l m : List Nat} (h : l.Perm m) : czL ds l = czL ds m := by
  unfold czL
  congr 1
  refine List.map_congr_left fun d _ => ?_
  rw [h.count_eq]
/-- as the law counts them -/
def dueI (ls : List Nat) : Nat → Nat
  | 0 => 1
  | i + 1 => dueI ls i * ls.getD i 0 * (ls.take (i + 1)).count (ls.getD i 0)
theorem dueI_cz {ls ds : List Nat} (nd : ds.Nodup) (h : ∀ x ∈ ls, x ∈ ds) : ∀ i, i ≤ ls.length → dueI ls i = czL ds (ls.take i)
  | 0, _ => by rw [List.take_zero, czL_nil]; rfl
  | i + 1, hi => by
    have g : ls[i]? = some (ls[i]'(by omega)) := List.getElem?_eq_getElem (by omega)
    have gd : ls.getD i 0 = ls[i]'(by omega) := by rw [List.getD_eq_getElem?_getD, g]; rfl
    show dueI ls i * ls.getD i 0 * (ls.take (i + 1)).count (ls.getD i 0) = _
    rw [dueI_cz nd h i (by omega), gd, List.take_add_one, g]
    show _ * _ * (ls.take i ++ [ls[i]'(by omega)]).count _ = czL ds (ls.take i ++ [ls[i]'(by omega)])
    rw [czL_snoc _ nd (h _ (List.getElem_mem _)), count_snoc, if_pos rfl]
/-- lengths that do not occur add nothing -/
theorem czL_rest {ls : List Nat} : ∀ {ds : List Nat}, (∀ d ∈ ds, d ∉ ls) → czL ds ls = 1
  | [], _ => rfl
  | d :: ds, h => by
    rw [czL_cons, czL_rest fun x hx => h x (List.mem_cons_of_mem _ hx), List.count_eq_zero.mpr (h d (List.mem_cons_self ..))]
    rfl
theorem czL_dp {ls : List Nat} {ds es : List Nat} (h : ds.Perm es) : czL ds ls = czL es ls := by
  unfold czL
  have hm := h.map fun d => d ^ ls.count d * factN (ls.count d)
  generalize ds.map (fun d => d ^ ls.count d * factN (ls.count d)) = a at hm
  generalize es.map (fun d => d ^ ls.count d * factN (ls.count d)) = b at hm
  induction hm with
  | nil => rfl
  | cons x _ ih => rw [List.foldr_cons, List.foldr_cons, ih]
  | swap x y l => simp only [List.foldr_cons, Nat.mul_left_comm]
  | trans _ _ i1 i2 => exact i1.trans i2
theorem czL_any {ls ds es : List Nat} (n1 : ds.Nodup) (n2 : es.Nodup) (h1 : ∀ x ∈ ls, x ∈ ds) (h2 : ∀ x ∈ ls, x ∈ es) : czL ds ls = czL es ls := by
  have a := dueI_cz n1 h1 ls.length (Nat.le_refl _)
  have b := dueI_cz n2 h2 ls.length (Nat.le_refl _)
  rw [List.take_length] at a b
  rw [← a, ← b]
/-! ### all permutations of few points, and which of them commute with one -/
def addL (L : List (List Int)) (x : List Int) : List (List Int) := if x ∈ L then L else L ++ [x]
def cloL (a b : List Int) : Nat → Nat → List (List Int) → List (List Int)
  | 0, _, L => L
  | f + 1, k, L => if k = L.length then L else cloL a b f (k + 1) (addL (addL L (mulL (L.getD k []) a)) (mulL (L.getD k []) b))
def turnL (n : Nat) : List Int := (List.range n).map fun i => (((i + 1) % n : Nat) : Int)
def swapL : Nat → List Int
  | 0 => [0]
  | 1 => [0]
  | n + 2 => 1 :: 0 :: (List.range n).map fun i => ((i + 2 : Nat) : Int)
def every (n : Nat) : List (List Int) := cloL (turnL n) (swapL n) 2000 0 [unitL n]
def allL (n : Nat) : Nat → List (List Int)
  | 0 => [[]]
  | k + 1 => (allL n k).flatMap fun r => (List.range n).map fun x : Nat => (x : Int) :: r
def comB (p g : List Int) : Bool := decide (mulL p g = mulL g p)
def ringF (p : List Int) : Nat → Int → List Int → List Int
  | 0, _, r => r.reverse
  | f + 1, y, r => if y ∈ r then r.reverse else ringF p f (p.getD y.toNat 0) (y :: r)
def cycF (p : List Int) : Nat → List (List Int)
  | 0 => []
  | i + 1 => if (i : Int) ∈ (cycF p i).flatten then cycF p i else cycF p i ++ [ringF p p.length i []]
def tnB (p r : List Int) : Bool := decide (0 < r.length) && (List.range r.length).all fun i => decide (p[(r.getD i 0).toNat]? = r[(i + 1) % r.length]?)
def fullB (n : Nat) (p : List Int) (R : List (List Int)) : Bool := R.all (tnB p) && (decide R.flatten.Nodup && (R.flatten.all (fun x => decide (0 ≤ x) && decide (x < n)) && ((List.range n).all (fun x => decide ((x : Int) ∈ R.flatten)) && (R.all (fun r => r.all fun x => decide (r.getD 0 0 ≤ x)) && decide ((R.map fun r => r.getD 0 0).Pairwise (· < ·))))))
theorem tnB_ok {p r : List Int} (h : tnB p r = true) : Turn p r := by
  unfold tnB at h
  rw [Bool.and_eq_true, decide_eq_true_iff] at h
  refine ⟨h.1, fun i x hx => ?_⟩
  have hi := (List.getElem?_eq_some_iff.mp hx).1
  have z := of_decide_eq_true (List.all_eq_true.mp h.2 i (List.mem_range.mpr hi))
  rwa [getD_of hx] at z
theorem fullB_ok {n : Nat} {p : List Int} {R : List (List Int)} (h : fullB n p R = true) : Full n p R := by
  unfold fullB at h
  simp only [Bool.and_eq_true, decide_eq_true_iff] at h
  obtain ⟨h1, h2, h3, h4, h5, h6⟩ := h
  refine ⟨⟨fun r hr => tnB_ok (List.all_eq_true.mp h1 r hr), h2, fun x hx => ?_⟩, fun x x0 xn => ?_, fun r hr x hx => ?_, h6⟩
  · have z := List.all_eq_true.mp h3 x hx
    rw [Bool.and_eq_true, decide_eq_true_iff, decide_eq_true_iff] at z
    exact z
  · have z := of_decide_eq_true (List.all_eq_true.mp h4 x.toNat (List.mem_range.mpr (by omega)))
    rwa [show ((x.toNat : Nat) : Int) = x by omega] at z
  · exact of_decide_eq_true (List.all_eq_true.mp (List.all_eq_true.mp h5 r hr) x hx)
theorem allL_mem {n : Nat} : ∀ {p : List Int} {k : Nat}, p.length = k → (∀ x ∈ p, 0 ≤ x ∧ x < (n : Int)) → p ∈ allL n k
  | [], 0, _, _ => List.mem_singleton.mpr rfl
  | [], k + 1, h, _ => by cases h
  | x :: p, 0, h, _ => by cases h
  | x :: p, k + 1, h, hb => by
    have ih := allL_mem (p := p) (k := k) (Nat.succ.inj h) fun y hy => hb y (List.mem_cons_of_mem _ hy)
    have b := hb x (List.mem_cons_self ..)
    refine List.mem_flatMap.mpr ⟨p, ih, List.mem_map.mpr ⟨x.toNat, List.mem_range.mpr (by omega), ?_⟩⟩
    rw [show ((x.toNat : Nat) : Int) = x by omega]
def okP (n : Nat) (E : List (List Int)) (p : List Int) : Bool := !decide p.Nodup || (fullB n p (cycF p n) && Nat.beq (E.filter (comB p)).length (czL (List.range 13) ((cycF p n).map List.length)))
theorem k1 : (allL 1 1).all (okP 1 (every 1)) = true := by decide +kernel
theorem k2 : (allL 2 2).all (okP 2 (every 2)) = true := by decide +kernel
theorem k3 : (allL 3 3).all (okP 3 (every 3)) = true := by decide +kernel
theorem k4 : (allL 4 4).all (okP 4 (every 4)) = true := by decide +kernel
theorem k5 : (allL 5 5).all (okP 5 (every 5)) = true := by decide +kernel
theorem few_commute {n : Nat} {p : List Int} (hp : IsPm n p) (h1 : 1 ≤ n) (h5 : n ≤ 5) : ∃ R, Full n p R ∧ ((every n).filter (comB p)).length = czL (List.range 13) (lensN R) := by
  have k : (allL n n).all (okP n (every n)) = true := by
    obtain rfl | rfl | rfl | rfl | rfl : n = 1 ∨ n = 2 ∨ n = 3 ∨ n = 4 ∨ n = 5 := by omega
    · exact k1
    · exact k2
    · exact k3
    · exact k4
    · exact k5
  have z := List.all_eq_true.mp k p (allL_mem hp.len hp.bd)
  unfold okP at z
  rw [decide_eq_true hp.nd, Bool.not_true, Bool.false_or, Bool.and_eq_true] at z
  exact ⟨_, fullB_ok z.1, Nat.eq_of_beq_eq_true z.2⟩
end KL
/-! sorted(l, key=len), l a list of tuples; promises -/
namespace KL
open PySem PySem.Spec PyProof.Rows L2 GA GxR
abbrev lenD (z : Addr × List V) : PyData := .int ((z.2.length : Nat) : Int)
theorem le_len (x y : Addr × List V) : PySem.W.dataLe false lenD x y = decide (x.2.length ≤ y.2.length) := by
  show (!(lexLt itemOrd [.inl (y.2.length : Int)] [.inl (x.2.length : Int)])) = _
  rw [lex_cons]
  show (!(decide ((y.2.length : Int) < x.2.length) || (!decide ((x.2.length : Int) < y.2.length) && false))) = _
  rw [Bool.and_false, Bool.or_false]
  by_cases h : x.2.length ≤ y.2.length
  · rw [decide_eq_true h, decide_eq_false (by omega)]
    rfl
  · rw [decide_eq_false h, decide_eq_true (by omega)]
    rfl
abbrev RefTo (v : Value) (z : Addr × List V) : Prop := v = .ref z.1
theorem each_vals : ∀ {ps : List (Addr × List V)} {vs : List Value}, Vals (ps.map fun z => .ref z.1) vs → PySem.W.EachIs RefTo vs ps
  | [], _, h => by cases h; exact .nil
  | z :: ps, _, h => by
    cases h with
    | cons r t => exact .cons (show _ = Value.ref z.1 from r) (each_vals t)
theorem vals_each : ∀ {ps : List (Addr × List V)} {vs : List Value}, PySem.W.EachIs RefTo vs ps → Vals (ps.map fun z => .ref z.1) vs
  | [], _, h => by cases h; exact .nil
  | z :: ps, _, h => by
    cases h with
    | cons r t => exact .cons (show RelV (.ref z.1) _ from r) (vals_each t)
def tSortLen (K : PySem.W.Frag) (ta : TA) : TE := fun σ H Q => ta σ H fun vs H1 => ∃ (l : Addr) (ps : List (Addr × List V)), vs = [.ref l] ∧ SqL K H1 l (ps.map fun z => .ref z.1) ∧ (∀ z ∈ ps, H1 z.1 = some (.tup z.2)) ∧
  ∀ (p : Addr) (qs : List (Addr × List V)), H1 p = none → qs.Perm ps → qs.Pairwise (fun x y => x.2.length ≤ y.2.length) → Q (.ref p) (upd H1 p (.lst (qs.map fun z => .ref z.1)))
theorem pe_sortLen {X : Cx} {K : PySem.W.Frag} {a : Expr} {ta : TA} {p p2 pos kpos : Pos} {k : Nat} (h : X.K = K) (hr : Room k X.A) (hg : Gl X "sorted") (hm : X.mg "sorted" = none) (hg2 : Gl X "len") (hm2 : X.mg "len" = none) (ha : PA X [a] ta)
    (he : backTo pos (starEach [a] X.env) = (false, eval a X.env) :: backTo pos (starEach [] X.env) := by rfl) (hpl : (backTo pos (starEach [a] X.env)).any (·.1) = false := by rfl) :
    PE X (.Call (.Name "sorted" p) [a] [⟨some "key", .Name "len" p2, kpos⟩] pos) (tSortLen K ta) := by
  subst h
  refine ⟨fun pins s σ H Q I q => ?_⟩
  refine wpAny_Call_Name_kw (ld_blt (u := .builtin "sorted") I hg hm (by decide +kernel) (PyProof.Rows.callWith_kw (thn (ha.run pos pins s σ H _ I q) fun us s1 ⟨vs, H1, I1, r1, l, ps, ev, hl, hps, q1⟩ => ?_) he hpl rfl rfl))
  subst ev
  rw [Vals.ref1 r1]
  show wpAny _ _ (evalAll ((do let v ← eval (.Name "len" p2) X.env; standAt pos; pure v) :: [])) _ _ s1
  refine wpAny_evalAll_cons (wpAny_bind (ld_blt I1 hg2 hm2 boot_len (wpAny_bind (wpAny_standAt (wpAny_pure (wpAny_evalAll_nil ?_))))))
  obtain ⟨its, rv, pl, hz⟩ := I1.list hl
  have un := deepOf hr
  have line := line63
  have hb : ps.length ≤ sizeLine := by rwa [List.length_map] at hz
  refine PySem.W.sorted_key_data (R := RefTo) (bs := ps) (b := false) lenD pl.isList (each_vals rv) ?_ ?_ hb (fun x _ => by show X.A.units + 2 + 0 < cLine; omega) (ksk_s1 _ _) (fun _ => ksk_l1 _ _) (ksk_t4 "len") (fun v z hv hz2 g tk kp => ?_) fun out c g tk kp fr hg' hlen ea => ?_
  · intro d hd d' hd'
    obtain ⟨x, _, rfl⟩ := List.mem_map.mp hd
    obtain ⟨y, _, rfl⟩ := List.mem_map.mp hd'
    rfl
  · refine .inr fun d hd => ?_
    obtain ⟨x, _, rfl⟩ := List.mem_map.mp hd
    exact ⟨(fun z => by cases z), (fun xs z => by cases z)⟩
  · subst hv
    obtain ⟨its2, rv2, ⟨o, go, co, n, dt⟩, hz3⟩ := I1.tuple (show SqT X.K H1 z.1 z.2 from .inl (.inl (hps z hz2)))
    have e2 := rv2.length
    refine len_tuple (s := { s1 with heap := g, toks := tk }) (items := its2.toArray) ⟨o, kp _ _ go, co, n, dt⟩ (by simp only [List.size_toArray]; omega) ⟨g, _, rfl, fun _ _ e => e, ?_⟩
    rw [List.size_toArray, ← e2]
    exact .int _ _
  · have hp := List.mergeSort_perm ps (PySem.W.dataLe false lenD)
    have ho := PySem.W.sort_pairwise (PySem.W.sortLe_total (listOrd itemOrd) false fun b => PySem.W.keyToks (lenD b)) ps
    have ho2 : (ps.mergeSort (PySem.W.dataLe false lenD)).Pairwise fun x y => x.2.length ≤ y.2.length := ho.imp fun {x y} z => of_decide_eq_true ((le_len x y).symm.trans z)
    refine ⟨.ref _, upd H1 (s1.heap.objs.size + 1) (.lst ((ps.mergeSort (PySem.W.dataLe false lenD)).map fun z => .ref z.1)), I1.laid (t' := tk) (fun b u e => kp b u e) (Nat.le_succ _) ⟨?_, out, c, vals_each ea, hg'⟩, rfl, q1 _ _ (I1.hok.fresh (Nat.le_succ _)) hp ho2⟩
    rw [List.length_map, hp.length_eq]
    exact hb
/-! ### a comprehension within a comprehension -/
def blkC2 (N : List Str) (scope : Scope) (own : List (Str × Nat)) (fs : List Str) : Bool :=
  (match scope.kind with | .function => true | _ => false) && ((scope.names.all fun y => decide (scope.names.lookup y.1 = some y.2)) && ((own.all fun p => decide (N[p.2]? = some p.1)) &&
    (scope.names.all fun y => match y.2 with
      | .free => decide (y.1 ∈ fs)
      | .local | .cell => decide (y.1 ∈ own.map (·.1)) || decide (y.1 ∉ N)
      | _ => true)))
theorem blkOk_f {N : List Str} {sc scope : Scope} {own : List (Str × Nat)} (fs : List Str) (h : blkC2 N scope own fs = true) (hf : ∀ x ∈ fs, sc.names.lookup x = some .cell ∨ sc.names.lookup x = some .free) : BlkOk N sc scope own := by
  unfold blkC2 at h
  simp only [Bool.and_eq_true, List.all_eq_true, decide_eq_true_eq] at h
  obtain ⟨h1, h2, h3, h4⟩ := h
  refine ⟨?_, h2, h3, fun y hy e => ?_, fun y hy e => ?_⟩
  · split at h1
    · assumption
    · cases h1
  · have q := h4 y hy
    rw [e] at q
    exact hf y.1 (of_decide_eq_true q)
  · have q := h4 y hy
    rcases e with e | e
    · rw [e] at q
      have q : (decide (y.1 ∈ own.map (·.1)) || decide (y.1 ∉ N)) = true := q
      rwa [Bool.or_eq_true, decide_eq_true_iff, decide_eq_true_iff] at q
    · rw [e] at q
      have q : (decide (y.1 ∈ own.map (·.1)) || decide (y.1 ∉ N)) = true := q
      rwa [Bool.or_eq_true, decide_eq_true_iff, decide_eq_true_iff] at q
/-! ### promises -/
def spConjugator (K : PySem.W.Frag) : Sp := fun vs H Q _ => ∃ (a b : Addr) (n : Nat) (p q : List Int), vs = [.ref a, .ref b] ∧ Pm H a n p ∧ Pm H b n q ∧ 1 ≤ n ∧ n ≤ 12 ∧ TabG H (PP K) ∧
  ∀ (v : V) (H' : Hp), Ex H H' → ((v = .non ∧ ¬ Alike n p q) ∨ ∃ (c : Addr) (g : List Int), v = .ref c ∧ Pm H' c n g ∧ mulL (mulL (invL g) p) g = q ∧ Alike n p q) → Q v H'
/-- the pairs of a length and the rows of that length -/
structure ByTs (H : Hp) (Ts : List Addr) (ds ls : List Nat) (D : Addr) : Prop where
  len : Ts.length = ds.length
  at_ : ∀ (i d : Nat), ds[i]? = some d → ∃ (t b : Addr) (Bs : List Addr), Ts[i]? = some t ∧ H t = some (.tup [.int d, .ref b]) ∧ H b = some (.lst (Bs.map V.ref)) ∧ b ≠ D ∧ Bs.length = ls.count d
theorem ByTs.ex {H H' : Hp} {Ts : List Addr} {ds ls : List Nat} {D : Addr} (B : ByTs H Ts ds ls D) (x : Ex H H') : ByTs H' Ts ds ls D :=
  ⟨B.len, fun i d e => let ⟨t, b, Bs, e1, e2, e3, e4, e5⟩ := B.at_ i d e; ⟨t, b, Bs, e1, x.st _ _ e2 trivial, x.st _ _ e3 refs_norow, e4, e5⟩⟩
theorem ByTs.upd {H : Hp} {Ts : List Addr} {ds ls : List Nat} {D : Addr} {ys : List V} {o : HO} (B : ByTs H Ts ds ls D) (h : H D = some (.lst ys)) : ByTs (upd H D o) Ts ds ls D :=
  ⟨B.len, fun i d e => let ⟨t, b, Bs, e1, e2, e3, e4, e5⟩ := B.at_ i d e; ⟨t, b, Bs, e1, kp e2 h (fun z => by cases z), by rw [upd_ne e4]; exact e3, e4, e5⟩⟩
theorem ByTs.nil {H : Hp} {ls : List Nat} {D : Addr} : ByTs H [] [] ls D := ⟨rfl, fun i d e => by cases i <;> cases e⟩
theorem ByTs.more {H : Hp} {Ts Bs : List Addr} {ds ls : List Nat} {D t b : Addr} {d : Nat} (B : ByTs H Ts ds ls D) (e2 : H t = some (.tup [.int d, .ref b])) (e3 : H b = some (.lst (Bs.map V.ref))) (e4 : b ≠ D) (e5 : Bs.length = ls.count d) : ByTs H (Ts ++ [t]) (ds ++ [d]) ls D := by
  refine ⟨by rw [List.length_append, List.length_append, B.len]; rfl, fun i y e => ?_⟩
  by_cases hi : i < ds.length
  · rw [List.getElem?_append_left hi] at e
    obtain ⟨t', b', Bs', f1, f2⟩ := B.at_ i y e
    exact ⟨t', b', Bs', by rw [List.getElem?_append_left (by rw [B.len]; exact hi)]; exact f1, f2⟩
  · have hl := (List.getElem?_eq_some_iff.mp e).1
    rw [List.length_append] at hl
    have hl : i < ds.length + 1 := hl
    have ei : i = ds.length := by omega
    subst ei
    rw [List.getElem?_append_right (Nat.le_refl _), Nat.sub_self] at e
    cases e
    exact ⟨t, b, Bs, by rw [List.getElem?_append_right (by rw [B.len]; exact Nat.le_refl _), B.len, Nat.sub_self]; rfl, e2, e3, e4, e5⟩
def spByLength : Sp := fun vs H Q _ => ∃ (a : Addr) (n : Nat) (p : List Int), vs = [.ref a] ∧ Pm H a n p ∧ n ≤ 12 ∧ ∀ (c : Addr) (H' : Hp) (R : List (List Int)) (Ts : List Addr) (ds : List Nat), Ex H H' → Full n p R → H' c = some (.lst (Ts.map V.ref)) → ds.Nodup → (∀ d, d ∈ ds ↔ d ∈ lensN R) → ByTs H' Ts ds (lensN R) c → Q (.ref c) H'
theorem ints_nats {ns : List Int} (h : ∀ x ∈ ns, 0 ≤ x) : ns = (ns.map Int.toNat).map Int.ofNat := by
  rw [List.map_map]
  refine (List.map_id ns).symm.trans (List.map_congr_left fun x hx => ?_)
  have := h x hx
  show x = ((x.toNat : Nat) : Int)
  omega
def spCent (K : PySem.W.Frag) : Sp := fun vs H Q _ => ∃ (a : Addr) (n : Nat) (p : List Int), vs = [.ref a] ∧ Pm H a n p ∧ 1 ≤ n ∧ n ≤ 12 ∧ TabG H (PP K) ∧ ∀ (H' : Hp) (R : List (List Int)), Ex H H' → Full n p R → Q (.int ((czL (List.range 13) (lensN R) : Nat) : Int)) H'
def spLengths : Sp := fun vs H Q _ => ∃ (a : Addr) (n : Nat) (p : List Int), vs = [.ref a] ∧ Pm H a n p ∧ n ≤ 12 ∧ ∀ (c : Addr) (H' : Hp) (R : List (List Int)) (ns : List Int), Ex H H' → Full n p R → ns.Perm (lensL R) → ns.Pairwise (· ≤ ·) → H' c = some (.lst (ns.map V.int)) → Q (.ref c) H'
def spDue : Sp := fun vs H Q _ => ∃ (a : Addr) (ls : List Nat), vs = [.ref a] ∧ H a = some (.lst ((ls.map Int.ofNat).map V.int)) ∧ ls.length ≤ 12 ∧ (∀ x ∈ ls, x ≤ 12) ∧ ∀ (H' : Hp), Ex H H' → Q (.int ((dueI ls ls.length : Nat) : Int)) H'
def spClosure : Sp := fun vs H Q _ => ∃ (t a b : Addr) (n : Nat) (g h : List Int), vs = [.int n, .ref t] ∧ H t = some (.tup [.ref a, .ref b]) ∧ Pm H a n g ∧ Pm H b n h ∧ 1 ≤ n ∧ n ≤ 12 ∧ ∀ (c : Addr) (H' : Hp) (As : List Addr), Ex H H' → H' c = some (.lst (As.map V.ref)) → RowsAt H' As (cloL g h 2000 0 [unitL n]) → (∀ r ∈ cloL g h 2000 0 [unitL n], IsPm n r) → Q (.ref c) H'
theorem cut_take (xs : List V) (k : Nat) : cutV xs none (some (k : Int)) = xs.take k := by
  unfold cutV
  rw [HT.sIx_none, HT.sIx_nat, List.drop_zero, Nat.sub_zero]
  by_cases h : k ≤ xs.length
  · rw [Nat.min_eq_left h]
  · rw [Nat.min_eq_right (by omega), List.take_of_length_le (Nat.le_refl _), List.take_of_length_le (by omega)]
theorem flat_ints (S : List Int) : (S.map V.int).all flatV = true := by
  rw [List.all_map]
  exact List.all_eq_true.mpr fun _ _ => rfl
theorem inV_ints (x : Int) (S : List Int) : inV (.int x) (S.map V.int) = decide (x ∈ S) := by
  unfold inV
  rw [List.any_map, Bool.eq_iff_iff, decide_eq_true_iff, List.any_eq_true]
  constructor
  · rintro ⟨y, hy, e⟩
    have e : (y == x) = true := e
    rw [← eq_of_beq e]
    exact hy
  · intro h
    exact ⟨x, h, show (x == x) = true from beq_self_eq_true x⟩
theorem nat_at {ls : List Nat} {i d : Nat} (h : ls[i]? = some d) : (ls.map Int.ofNat)[i]? = some (d : Int) := by
  rw [List.getElem?_map, h]
  rfl
theorem nat_map (ls : List Nat) (d : Nat) (k : Nat) : (((ls.take k).filter fun x => decide (x = d)).map Int.ofNat).length = (ls.take k).count d := by
  rw [List.length_map, List.count_eq_length_filter]
  congr 2
/-- where the law's lengths stand: the rows so far, what was seen -/
structure LG (H H1 : Hp) (l sA : Addr) (n : Nat) (p : List Int) (R : List (List Int)) (S : List Int) : Prop where
  ex : Ex H H1
  hl : H1 l = some (.lst ((lensL R).map V.int))
  seen : H1 sA = some (.lst (S.map V.int))
  cyc : Cyc n p R
  nd : S.Nodup
  bd : ∀ x ∈ S, 0 ≤ x ∧ x < (n : Int)
  mn : ∀ r ∈ R, ∀ x ∈ r, r.getD 0 0 ≤ x
  so : (R.map fun r => r.getD 0 0).Pairwise (· < ·)
theorem czL_app (d : Nat) (ls : List Nat) : ∀ as : List Nat, czL (as ++ [d]) ls = czL as ls * (d ^ ls.count d * factN (ls.count d))
  | [] => by
    show d ^ ls.count d * factN (ls.count d) * 1 = 1 * _
    rw [Nat.mul_one, Nat.one_mul]
  | x :: as => by
    rw [List.cons_append, czL_cons, czL_cons, czL_app d ls as]
    simp only [Nat.mul_assoc]
theorem fact_small : ∀ n, n ≤ 12 → factN n < 2 ^ 64 := by decide +kernel
/-! ### the closure's dict -/
def keyI (r : List Int) : List L2.Key := r.map Sum.inl
theorem keyI_at (r : List Int) : (keyI r).map kV = r.map V.int := by
  unfold keyI
  rw [List.map_map]
  rfl
theorem keyI_inj {r s : List Int} (h : keyI r = keyI s) : r = s := by
  unfold keyI at h
  exact (List.map_inj_right fun a b e => Sum.inl.inj e).mp h
theorem valV_has {α : Type} [DecidableEq α] (k : α) : ∀ kvs : List (α × V), (valV kvs k).isSome = decide (k ∈ kvs.map Prod.fst)
  | [] => rfl
  | kv :: kvs => by
    have ih := valV_has k kvs
    unfold valV at ih ⊢
    rw [List.find?_cons]
    by_cases h : kv.1 = k
    · rw [decide_eq_true h, List.map_cons, decide_eq_true (by rw [h]; exact List.mem_cons_self ..)]
      rfl
    · rw [decide_eq_false h, List.map_cons]
      show (Option.map (fun x => x.snd) (kvs.find? fun kv => decide (kv.1 = k))).isSome = decide (k ∈ kv.1 :: kvs.map Prod.fst)
      rw [ih, Bool.eq_iff_iff, decide_eq_true_iff, decide_eq_true_iff]
      exact ⟨fun z => List.mem_cons_of_mem _ z, fun z => (List.mem_cons.mp z).resolve_left fun e => h e.symm⟩
theorem valV_mem {α : Type} [DecidableEq α] {k : α} {kvs : List (α × V)} : (valV kvs k).isSome = true ↔ k ∈ kvs.map Prod.fst := by
  rw [valV_has]
  exact decide_eq_true_iff
theorem putK_new {α : Type} [DecidableEq α] {kvs : List (α × V)} {k : α} (v : V) (h : k ∉ kvs.map Prod.fst) : putK kvs k v = kvs ++ [(k, v)] := by
  unfold putK
  rw [if_neg]
  intro z
  obtain ⟨kv, hm, e⟩ := List.any_eq_true.mp z
  exact h (of_decide_eq_true e ▸ List.mem_map_of_mem hm)
theorem mem_keys {L : List (List Int)} {r : List Int} : keyI r ∈ L.map keyI ↔ r ∈ L := by
  constructor
  · intro h
    obtain ⟨s, hs, e⟩ := List.mem_map.mp h
    exact keyI_inj e ▸ hs
  · exact fun h => List.mem_map_of_mem h
/-- where the closure stands -/
structure CS (H H1 : Hp) (l d : Addr) (n : Nat) (As : List Addr) (L : List (List Int)) : Prop where
  ex : Ex H H1
  hl : H1 l = some (.lst (As.map V.ref))
  rows : RowsAt H1 As L
  hd : ∃ kvs : List (List L2.Key × V), H1 d = some (.dT kvs) ∧ kvs.map Prod.fst = L.map keyI
  pm : ∀ r ∈ L, IsPm n r
theorem CS.exx {H H1 H2 : Hp} {l d : Addr} {n : Nat} {As : List Addr} {L : List (List Int)} (C : CS H H1 l d n As L) (x : Ex H1 H2) : CS H H2 l d n As L := by
  obtain ⟨kvs, h1, h2⟩ := C.hd
  exact ⟨C.ex.trans x, x.st _ _ C.hl refs_norow, C.rows.ex x, ⟨kvs, x.st _ _ h1 trivial, h2⟩, C.pm⟩
theorem addL_get {L : List (List Int)} {i : Nat} {x y : List Int} (h : L[i]? = some x) : (addL L y)[i]? = some x := by
  unfold addL
  split
  · exact h
  · rw [List.getElem?_append_left (List.getElem?_eq_some_iff.mp h).1]
    exact h
theorem addL_len (L : List (List Int)) (y : List Int) : L.length ≤ (addL L y).length ∧ (addL L y).length ≤ L.length + 1 := by
  unfold addL
  split
  · omega
  · rw [List.length_append]
    show _ ∧ _ + 1 ≤ _
    have : (L.length ≤ L.length + [y].length) := Nat.le_add_right _ _
    exact ⟨this, Nat.le_refl _⟩
theorem addL_pm {L : List (List Int)} {y : List Int} {n : Nat} (h : ∀ r ∈ L, IsPm n r) (hy : IsPm n y) : ∀ r ∈ addL L y, IsPm n r := by
  unfold addL
  split
  · exact h
  · intro r hr
    rcases List.mem_append.mp hr with z | z
    · exact h r z
    · rw [List.mem_singleton.mp z]; exact hy
def addG (x : List Int) (G : List (List Int)) (L : List (List Int)) : List (List Int) := G.foldl (fun M q => addL M (mulL x q)) L
theorem addG_snoc (x q : List Int) (G L : List (List Int)) : addG x (G ++ [q]) L = addL (addG x G L) (mulL x q) := by
  unfold addG
  rw [List.foldl_append]
  rfl
theorem addG_get {x r : List Int} {i : Nat} : ∀ {G L : List (List Int)}, L[i]? = some r → (addG x G L)[i]? = some r
  | [], _, h => h
  | q :: G, L, h => addG_get (G := G) (L := addL L (mulL x q)) (addL_get h)
theorem addG_len {x : List Int} : ∀ {G L : List (List Int)}, L.length ≤ (addG x G L).length ∧ (addG x G L).length ≤ L.length + G.length
  | [], L => ⟨Nat.le_refl _, Nat.le_refl _⟩
  | q :: G, L => by
    have a := addL_len L (mulL x q)
    have b := addG_len (x := x) (G := G) (L := addL L (mulL x q))
    show L.length ≤ (addG x G (addL L (mulL x q))).length ∧ (addG x G (addL L (mulL x q))).length ≤ L.length + (G.length + 1)
    omega
end KL
/-! rows sorted by their lengths -/
namespace KL
open PySem PySem.Spec PyProof.Rows L2 GA GxR
abbrev toV (z : Addr × List Int) : Addr × List V := (z.1, z.2.map V.int)
theorem sort_rows {H : Hp} {As : List Addr} {R : List (List Int)} (h : RowsAt H As R) : ∃ ps : List (Addr × List V), (ps.map fun z => V.ref z.1) = As.map V.ref ∧ (∀ z ∈ ps, H z.1 = some (.tup z.2)) ∧
    ∀ qs : List (Addr × List V), qs.Perm ps → qs.Pairwise (fun x y => x.2.length ≤ y.2.length) → ∃ (Xs : List Addr) (Rs : List (List Int)), (qs.map fun z => V.ref z.1) = Xs.map V.ref ∧ Rs.Perm R ∧ Rs.Pairwise (fun x y => x.length ≤ y.length) ∧ RowsAt H Xs Rs := by
  have f1 : (As.zip R).map Prod.fst = As := List.map_fst_zip (by rw [h.len]; exact Nat.le_refl _)
  have f2 : (As.zip R).map Prod.snd = R := List.map_snd_zip (by rw [h.len]; exact Nat.le_refl _)
  have at0 : ∀ z ∈ As.zip R, H z.1 = some (.tup (z.2.map V.int)) := fun z hz => by
    obtain ⟨i, hi⟩ := List.mem_iff_getElem?.mp hz
    obtain ⟨a1, a2⟩ := List.getElem?_zip_eq_some.mp hi
    obtain ⟨a, b1, b2⟩ := h.at_ i z.2 a2
    rw [a1] at b1
    rw [Option.some.inj b1]
    exact b2
  refine ⟨(As.zip R).map toV, ?_, fun z hz => ?_, fun qs hp ho => ?_⟩
  · rw [List.map_map]
    conv => rhs; rw [← f1]
    rw [List.map_map]
    rfl
  · obtain ⟨y, hy, rfl⟩ := List.mem_map.mp hz
    exact at0 y hy
  · obtain ⟨ZI, zp, rfl⟩ := perm_lift toV hp (As.zip R) rfl
    refine ⟨ZI.map Prod.fst, ZI.map Prod.snd, ?_, ?_, ?_, ?_⟩
    · rw [List.map_map, List.map_map]
      rfl
    · have z := zp.map Prod.snd
      rwa [f2] at z
    · rw [List.pairwise_map] at ho ⊢
      exact ho.imp fun {x y} z => by
        have z : (x.2.map V.int).length ≤ (y.2.map V.int).length := z
        rwa [List.length_map, List.length_map] at z
    · refine ⟨by rw [List.length_map, List.length_map], fun i r e => ?_⟩
      rw [List.getElem?_map] at e
      obtain ⟨z, hz, rfl⟩ := Option.map_eq_some_iff.mp e
      exact ⟨z.1, by rw [List.getElem?_map, hz]; rfl, at0 z (zp.mem_iff.mp (List.mem_of_getElem? hz))⟩
theorem eqvL_ints (ns ms : List Int) : PyData.eqv (.list (ns.map PyData.int)) (.list (ms.map PyData.int)) = decide (ns = ms) := by
  rw [← PySem.W.ked_eqvAll, PyData.eqv]
theorem lens_sorted {Rs : List (List Int)} (h : Rs.Pairwise fun x y => x.length ≤ y.length) : (lensL Rs).Pairwise (· ≤ ·) := by
  unfold lensL
  rw [List.pairwise_map]
  exact h.imp fun z => Int.ofNat_le.mpr z
theorem lens_eq {Rs Ss : List (List Int)} (h : lensL Rs = lensL Ss) : Rs.map List.length = Ss.map List.length := by
  rw [lensL_N, lensL_N] at h
  exact (List.map_inj_right fun a b e => Int.ofNat.inj e).mp h
theorem turn_pm {n : Nat} (h1 : 1 ≤ n) (h5 : n ≤ 5) : IsPm n (turnL n) := by
  obtain rfl | rfl | rfl | rfl | rfl : n = 1 ∨ n = 2 ∨ n = 3 ∨ n = 4 ∨ n = 5 := by omega
  all_goals exact ⟨by decide, by decide, by decide⟩
theorem swap_pm {n : Nat} (h1 : 1 ≤ n) (h5 : n ≤ 5) : IsPm n (swapL n) := by
  obtain rfl | rfl | rfl | rfl | rfl : n = 1 ∨ n = 2 ∨ n = 3 ∨ n = 4 ∨ n = 5 := by omega
  all_goals exact ⟨by decide, by decide, by decide⟩
theorem swap_big {n : Nat} (h : 2 ≤ n) : [V.int 1, V.int 0] ++ rgV 2 n = (swapL n).map V.int := by
  obtain ⟨m, rfl⟩ : ∃ m, n = m + 2 := ⟨n - 2, by omega⟩
  show [V.int 1, V.int 0] ++ rgV 2 ((m + 2 : Nat) : Int) = V.int 1 :: V.int 0 :: ((List.range m).map fun i => ((i + 2 : Nat) : Int)).map V.int
  unfold rgV
  rw [show (((m + 2 : Nat) : Int) - 2).toNat = m by omega, List.map_map]
  show V.int 1 :: V.int 0 :: _ = _
  congr 2
  refine List.map_congr_left fun i _ => ?_
  show V.int (2 + (i : Int)) = V.int ((i + 2 : Nat) : Int)
  congr 1
  omega
def turnI (n i : Nat) : List Int := (List.range i).map fun i => (((i + 1) % n : Nat) : Int)
theorem cent_same {n : Nat} {p : List Int} {R S : List (List Int)} (hp : IsPm n p) (F : Full n p R) (G : Full n p S) : czL (List.range 13) (lensN R) = czL (List.range 13) (lensN S) :=
  czL_perm ((F.perm hp G).map List.length : (lensN R).Perm (lensN S))
theorem due_cent {n : Nat} {p : List Int} {R S : List (List Int)} {ns : List Int} {ls : List Nat} (hp : IsPm n p) (hn : n ≤ 12) (F : Full n p R) (G : Full n p S) (h : ns.Perm (lensL S)) (e : ns = ls.map Int.ofNat) : czL (List.range 13) (lensN R) = dueI ls ls.length ∧ ls.length ≤ 12 ∧ ∀ x ∈ ls, x ≤ 12 := by
  have hl : ls.Perm (lensN S) := by
    rw [e, lensL_N] at h
    have z := h.map Int.toNat
    rw [List.map_map, List.map_map] at z
    have i1 : ∀ l : List Nat, l.map (Int.toNat ∘ Int.ofNat) = l := fun l => (List.map_congr_left fun x _ => rfl).trans (List.map_id l)
    rwa [i1, i1] at z
  have le : ∀ x ∈ ls, x ≤ 12 := fun x hx => by
    obtain ⟨r, hr, rfl⟩ := List.mem_map.mp (hl.mem_iff.mp hx)
    have b := bd_len (nodup_row G.cyc.nd r hr) fun y hy => G.cyc.bd y (List.mem_flatten.mpr ⟨r, hr, hy⟩)
    omega
  have len : ls.length ≤ 12 := by
    rw [hl.length_eq]
    unfold lensN
    rw [List.length_map]
    have a := Nat.le_trans (rows_le G.cyc.tn) (bd_len G.cyc.nd G.cyc.bd)
    omega
  have d := dueI_cz (ds := List.range 13) List.nodup_range (fun x hx => List.mem_range.mpr (by have := le x hx; omega)) ls.length (Nat.le_refl _)
  rw [List.take_length] at d
  exact ⟨by rw [d, cent_same hp F G, czL_perm hl], len, le⟩
end KL
namespace KL
open PySem PySem.Spec PyProof.Rows L2 GA GxR
/-! ### the text -/
def topS (i : Nat) : Stmt := PySem.Challenge.pw_stronggens_k05_whole_conjugates.main.body.getD i (.Pass ⟨0, 0, 0, 0⟩)
abbrev sis_between : Stmt := topS 6
abbrev sis_tuple_of : Stmt := topS 7
abbrev sis_degree : Stmt := topS 8
abbrev sis_point : Stmt := topS 9
abbrev sare_points : Stmt := topS 10
abbrev sare_distinct_points : Stmt := topS 11
abbrev sis_permutation : Stmt := topS 12
abbrev sis_any_permutation : Stmt := topS 13
abbrev scheck_any_permutation : Stmt := topS 14
abbrev scheck_permutation : Stmt := topS 15
abbrev scheck_two_permutations : Stmt := topS 16
abbrev sfull_cycles : Stmt := topS 18
abbrev sconjugator : Stmt := topS 20
abbrev scentralizer_size : Stmt := topS 21
abbrev s_by_length : Stmt := topS 22
abbrev s_law_taken : Stmt := topS 24
abbrev s_law_alike : Stmt := topS 25
abbrev s_law_unit : Stmt := topS 26
abbrev s_law_mul : Stmt := topS 27
abbrev s_law_inv : Stmt := topS 28
abbrev s_law_conj : Stmt := topS 29
abbrev s_law_is_perm : Stmt := topS 30
abbrev s_law_perm : Stmt := topS 31
abbrev s_law_closure : Stmt := topS 32
abbrev s_law_lengths : Stmt := topS 33
abbrev s_law_near : Stmt := topS 34
abbrev s_law_due : Stmt := topS 35
abbrev slaw : Stmt := topS 36
theorem scis_between : FnScope ["value", "low", "high"] ["value", "low", "high"] (defScope sis_between) := ⟨rfl, rfl, rfl, by decide +kernel, rfl, by decide +kernel, by decide +kernel⟩
theorem scis_tuple_of : FnScope ["value", "size"] ["value", "size"] (defScope sis_tuple_of) := ⟨rfl, rfl, rfl, by decide +kernel, rfl, by decide +kernel, by decide +kernel⟩
theorem scis_degree : FnScope ["value"] ["value"] (defScope sis_degree) := ⟨rfl, rfl, rfl, by decide +kernel, rfl, by decide +kernel, by decide +kernel⟩
theorem scis_point : FnScope ["degree", "value"] ["degree", "value"] (defScope sis_point) := ⟨rfl, rfl, rfl, by decide +kernel, rfl, by decide +kernel, by decide +kernel⟩
theorem scare_points : FnScope ["degree", "value", "x"] ["degree", "value"] (defScope sare_points) := ⟨rfl, rfl, rfl, by decide +kernel, rfl, by decide +kernel, by decide +kernel⟩
theorem scare_distinct_points : FnScope ["degree", "value"] ["degree", "value"] (defScope sare_distinct_points) := ⟨rfl, rfl, rfl, by decide +kernel, rfl, by decide +kernel, by decide +kernel⟩
theorem scis_permutation : FnScope ["degree", "value"] ["degree", "value"] (defScope sis_permutation) := ⟨rfl, rfl, rfl, by decide +kernel, rfl, by decide +kernel, by decide +kernel⟩
theorem scis_any_permutation : FnScope ["value"] ["value"] (defScope sis_any_permutation) := ⟨rfl, rfl, rfl, by decide +kernel, rfl, by decide +kernel, by decide +kernel⟩
theorem sccheck_any_permutation : FnScope ["value"] ["value"] (defScope scheck_any_permutation) := ⟨rfl, rfl, rfl, by decide +kernel, rfl, by decide +kernel, by decide +kernel⟩
theorem sccheck_permutation : FnScope ["degree", "value"] ["degree", "value"] (defScope scheck_permutation) := ⟨rfl, rfl, rfl, by decide +kernel, rfl, by decide +kernel, by decide +kernel⟩
theorem sccheck_two_permutations : FnScope ["p", "q"] ["p", "q"] (defScope scheck_two_permutations) := ⟨rfl, rfl, rfl, by decide +kernel, rfl, by decide +kernel, by decide +kernel⟩
theorem scfull_cycles : FnScope ["p", "rows", "seen", "first", "row", "point"] ["p"] (defScope sfull_cycles) := ⟨rfl, rfl, rfl, by decide +kernel, rfl, by decide +kernel, by decide +kernel⟩
theorem scconjugator : FnScope ["p", "q", "some", "others", "images", "row", "other", "point", "target"] ["p", "q"] (defScope sconjugator) := ⟨rfl, rfl, rfl, by decide +kernel, rfl, by decide +kernel, by decide +kernel⟩
theorem sccentralizer_size : FnScope ["p", "size", "length", "rows", "_"] ["p"] (defScope scentralizer_size) := ⟨rfl, rfl, rfl, by decide +kernel, rfl, by decide +kernel, by decide +kernel⟩
theorem sc_by_length : FnScope ["p", "rows", "lengths", "length", "row"] ["p"] (defScope s_by_length) := ⟨rfl, rfl, rfl, by decide +kernel, rfl, by decide +kernel, by decide +kernel⟩
theorem sc_law_taken : FnScope ["row", "many", "cell", "found"] ["row", "many"] (defScope s_law_taken) := ⟨rfl, rfl, rfl, by decide +kernel, rfl, by decide +kernel, by decide +kernel⟩
theorem sc_law_alike : FnScope ["found", "due", "k"] ["found", "due"] (defScope s_law_alike) := ⟨rfl, rfl, rfl, by decide +kernel, rfl, by decide +kernel, by decide +kernel⟩
theorem sc_law_unit : FnScope ["degree"] ["degree"] (defScope s_law_unit) := ⟨rfl, rfl, rfl, by decide +kernel, rfl, by decide +kernel, by decide +kernel⟩
theorem sc_law_mul : FnScope ["p", "q", "image"] ["p", "q"] (defScope s_law_mul) := ⟨rfl, rfl, rfl, by decide +kernel, rfl, by decide +kernel, by decide +kernel⟩
theorem sc_law_inv : FnScope ["p", "found", "point"] ["p"] (defScope s_law_inv) := ⟨rfl, rfl, rfl, by decide +kernel, rfl, by decide +kernel, by decide +kernel⟩
theorem sc_law_conj : FnScope ["p", "g"] ["p", "g"] (defScope s_law_conj) := ⟨rfl, rfl, rfl, by decide +kernel, rfl, by decide +kernel, by decide +kernel⟩
theorem sc_law_is_perm : FnScope ["degree", "value", "image"] ["degree", "value"] (defScope s_law_is_perm) := ⟨rfl, rfl, rfl, by decide +kernel, rfl, by decide +kernel, by decide +kernel⟩
theorem sc_law_perm : FnScope ["row", "degree", "found", "at", "other"] ["row", "degree"] (defScope s_law_perm) := ⟨rfl, rfl, rfl, by decide +kernel, rfl, by decide +kernel, by decide +kernel⟩
theorem sc_law_closure : FnScope ["degree", "gens", "turn", "found", "seen", "at", "g", "p"] ["degree", "gens"] (defScope s_law_closure) := ⟨rfl, rfl, rfl, by decide +kernel, rfl, by decide +kernel, by decide +kernel⟩
theorem sc_law_lengths : FnScope ["p", "first", "found", "seen", "turn", "point", "size"] ["p"] (defScope s_law_lengths) := ⟨rfl, rfl, rfl, by decide +kernel, rfl, by decide +kernel, by decide +kernel⟩
theorem sc_law_near : FnScope ["row", "p", "found", "other", "swap", "one"] ["row", "p"] (defScope s_law_near) := ⟨rfl, rfl, rfl, by decide +kernel, rfl, by decide +kernel, by decide +kernel⟩
theorem sc_law_due : FnScope ["lengths", "found", "at", "size"] ["lengths"] (defScope s_law_due) := ⟨rfl, rfl, rfl, by decide +kernel, rfl, by decide +kernel, by decide +kernel⟩
theorem sclaw : FnScope ["script", "row", "p", "q", "found", "size", "few", "turn", "swap", "every", "many", "at", "g"] ["script"] (defScope slaw) := ⟨rfl, rfl, rfl, by decide +kernel, rfl, by decide +kernel, by decide +kernel⟩
/-! ### the facts -/
structure TX (K : PySem.W.Frag) (mg : Str → Option Value) (base : Heap) : Prop where
  F_is_between : Fun K "is_between" "is_between" sis_between (He.ga K "is_between") (fdK K "is_between")
  b_is_between : Binds K (fdK K "is_between") ["value", "low", "high"] []
  g_is_between : mg "is_between" = some (.ref (He.ga K "is_between"))
  F_is_tuple_of : Fun K "is_tuple_of" "is_tuple_of" sis_tuple_of (He.ga K "is_tuple_of") (fdK K "is_tuple_of")
  b_is_tuple_of : Binds K (fdK K "is_tuple_of") ["value", "size"] []
  g_is_tuple_of : mg "is_tuple_of" = some (.ref (He.ga K "is_tuple_of"))
  F_is_degree : Fun K "is_degree" "is_degree" sis_degree (He.ga K "is_degree") (fdK K "is_degree")
  b_is_degree : Binds K (fdK K "is_degree") ["value"] []
  g_is_degree : mg "is_degree" = some (.ref (He.ga K "is_degree"))
  F_is_point : Fun K "is_point" "is_point" sis_point (He.ga K "is_point") (fdK K "is_point")
  b_is_point : Binds K (fdK K "is_point") ["degree", "value"] []
  g_is_point : mg "is_point" = some (.ref (He.ga K "is_point"))
  F_are_points : Fun K "are_points" "are_points" sare_points (He.ga K "are_points") (fdK K "are_points")
  b_are_points : Binds K (fdK K "are_points") ["degree", "value"] []
  g_are_points : mg "are_points" = some (.ref (He.ga K "are_points"))
  F_are_distinct_points : Fun K "are_distinct_points" "are_distinct_points" sare_distinct_points (He.ga K "are_distinct_points") (fdK K "are_distinct_points")
  b_are_distinct_points : Binds K (fdK K "are_distinct_points") ["degree", "value"] []
  g_are_distinct_points : mg "are_distinct_points" = some (.ref (He.ga K "are_distinct_points"))
  F_is_permutation : Fun K "is_permutation" "is_permutation" sis_permutation (He.ga K "is_permutation") (fdK K "is_permutation")
  b_is_permutation : Binds K (fdK K "is_permutation") ["degree", "value"] []
  g_is_permutation : mg "is_permutation" = some (.ref (He.ga K "is_permutation"))
  F_is_any_permutation : Fun K "is_any_permutation" "is_any_permutation" sis_any_permutation (He.ga K "is_any_permutation") (fdK K "is_any_permutation")
  b_is_any_permutation : Binds K (fdK K "is_any_permutation") ["value"] []
  g_is_any_permutation : mg "is_any_permutation" = some (.ref (He.ga K "is_any_permutation"))
  F_check_any_permutation : Fun K "check_any_permutation" "check_any_permutation" scheck_any_permutation (He.ga K "check_any_permutation") (fdK K "check_any_permutation")
  b_check_any_permutation : Binds K (fdK K "check_any_permutation") ["value"] []
  g_check_any_permutation : mg "check_any_permutation" = some (.ref (He.ga K "check_any_permutation"))
  F_check_permutation : Fun K "check_permutation" "check_permutation" scheck_permutation (He.ga K "check_permutation") (fdK K "check_permutation")
  b_check_permutation : Binds K (fdK K "check_permutation") ["degree", "value"] []
  g_check_permutation : mg "check_permutation" = some (.ref (He.ga K "check_permutation"))
  F_check_two_permutations : Fun K "check_two_permutations" "check_two_permutations" scheck_two_permutations (He.ga K "check_two_permutations") (fdK K "check_two_permutations")
  b_check_two_permutations : Binds K (fdK K "check_two_permutations") ["p", "q"] []
  g_check_two_permutations : mg "check_two_permutations" = some (.ref (He.ga K "check_two_permutations"))
  F_full_cycles : Fun K "full_cycles" "full_cycles" sfull_cycles (He.ga K "full_cycles") (fdK K "full_cycles")
  b_full_cycles : Binds K (fdK K "full_cycles") ["p"] []
  g_full_cycles : mg "full_cycles" = some (.ref (He.ga K "full_cycles"))
  F_conjugator : Fun K "conjugator" "conjugator" sconjugator (He.ga K "conjugator") (fdK K "conjugator")
  b_conjugator : Binds K (fdK K "conjugator") ["p", "q"] []
  g_conjugator : mg "conjugator" = some (.ref (He.ga K "conjugator"))
  F_centralizer_size : Fun K "centralizer_size" "centralizer_size" scentralizer_size (He.ga K "centralizer_size") (fdK K "centralizer_size")
  b_centralizer_size : Binds K (fdK K "centralizer_size") ["p"] []
  g_centralizer_size : mg "centralizer_size" = some (.ref (He.ga K "centralizer_size"))
  F__by_length : Fun K "_by_length" "_by_length" s_by_length (He.ga K "_by_length") (fdK K "_by_length")
  b__by_length : Binds K (fdK K "_by_length") ["p"] []
  g__by_length : mg "_by_length" = some (.ref (He.ga K "_by_length"))
  F__law_taken : Fun K "_law_taken" "_law_taken" s_law_taken (He.ga K "_law_taken") (fdK K "_law_taken")
  b__law_taken : Binds K (fdK K "_law_taken") ["row", "many"] []
  g__law_taken : mg "_law_taken" = some (.ref (He.ga K "_law_taken"))
  F__law_alike : Fun K "_law_alike" "_law_alike" s_law_alike (He.ga K "_law_alike") (fdK K "_law_alike")
  b__law_alike : Binds K (fdK K "_law_alike") ["found", "due"] []
  g__law_alike : mg "_law_alike" = some (.ref (He.ga K "_law_alike"))
  F__law_unit : Fun K "_law_unit" "_law_unit" s_law_unit (He.ga K "_law_unit") (fdK K "_law_unit")
  b__law_unit : Binds K (fdK K "_law_unit") ["degree"] []
  g__law_unit : mg "_law_unit" = some (.ref (He.ga K "_law_unit"))
  F__law_mul : Fun K "_law_mul" "_law_mul" s_law_mul (He.ga K "_law_mul") (fdK K "_law_mul")
  b__law_mul : Binds K (fdK K "_law_mul") ["p", "q"] []
  g__law_mul : mg "_law_mul" = some (.ref (He.ga K "_law_mul"))
  F__law_inv : Fun K "_law_inv" "_law_inv" s_law_inv (He.ga K "_law_inv") (fdK K "_law_inv")
  b__law_inv : Binds K (fdK K "_law_inv") ["p"] []
  g__law_inv : mg "_law_inv" = some (.ref (He.ga K "_law_inv"))
  F__law_conj : Fun K "_law_conj" "_law_conj" s_law_conj (He.ga K "_law_conj") (fdK K "_law_conj")
  b__law_conj : Binds K (fdK K "_law_conj") ["p", "g"] []
  g__law_conj : mg "_law_conj" = some (.ref (He.ga K "_law_conj"))
  F__law_is_perm : Fun K "_law_is_perm" "_law_is_perm" s_law_is_perm (He.ga K "_law_is_perm") (fdK K "_law_is_perm")
  b__law_is_perm : Binds K (fdK K "_law_is_perm") ["degree", "value"] []
  g__law_is_perm : mg "_law_is_perm" = some (.ref (He.ga K "_law_is_perm"))
  F__law_perm : Fun K "_law_perm" "_law_perm" s_law_perm (He.ga K "_law_perm") (fdK K "_law_perm")
  b__law_perm : Binds K (fdK K "_law_perm") ["row", "degree"] []
  g__law_perm : mg "_law_perm" = some (.ref (He.ga K "_law_perm"))
  F__law_closure : Fun K "_law_closure" "_law_closure" s_law_closure (He.ga K "_law_closure") (fdK K "_law_closure")
  b__law_closure : Binds K (fdK K "_law_closure") ["degree", "gens"] []
  g__law_closure : mg "_law_closure" = some (.ref (He.ga K "_law_closure"))
  F__law_lengths : Fun K "_law_lengths" "_law_lengths" s_law_lengths (He.ga K "_law_lengths") (fdK K "_law_lengths")
  b__law_lengths : Binds K (fdK K "_law_lengths") ["p"] []
  g__law_lengths : mg "_law_lengths" = some (.ref (He.ga K "_law_lengths"))
  F__law_near : Fun K "_law_near" "_law_near" s_law_near (He.ga K "_law_near") (fdK K "_law_near")
  b__law_near : Binds K (fdK K "_law_near") ["row", "p"] []
  g__law_near : mg "_law_near" = some (.ref (He.ga K "_law_near"))
  F__law_due : Fun K "_law_due" "_law_due" s_law_due (He.ga K "_law_due") (fdK K "_law_due")
  b__law_due : Binds K (fdK K "_law_due") ["lengths"] []
  g__law_due : mg "_law_due" = some (.ref (He.ga K "_law_due"))
  F_law : Fun K "law" "law" slaw (He.ga K "law") (fdK K "law")
  b_law : Binds K (fdK K "law") ["script"] []
  g_law : mg "law" = some (.ref (He.ga K "law"))
  n_all : mg "all" = none
  n_bool : mg "bool" = none
  n_int : mg "int" = none
  n_isinstance : mg "isinstance" = none
  n_len : mg "len" = none
  n_list : mg "list" = none
  n_range : mg "range" = none
  n_set : mg "set" = none
  n_sorted : mg "sorted" = none
  n_str : mg "str" = none
  n_tuple : mg "tuple" = none
  n_type : mg "type" = none
  n_zip : mg "zip" = none
  n_factorial : mg "factorial" = some (.builtin "math.factorial")
  c_MOST_DEGREE : ∃ u, mg "MOST_DEGREE" = some u ∧ RelV (.int 12) u
  tab_are_points : GxR.TabB base mg (He.cT K ("are_points", none)).1 (He.cT K ("are_points", none)).2
def tabL : List Str := ["are_points"]
end KL
namespace KL
open PySem PySem.Spec PyProof.Rows L2 GA GxR
local macro_rules | `(tactic| walk_at "sx") => `(tactic| simp only [L2.start, List.map_cons, List.map_nil, List.length_cons, List.length_nil, Nat.reduceAdd, Nat.reduceSub, List.replicate, List.cons_append, List.nil_append, tRet, tSeq, tNext, tIfS, tAsg, tDrop, gName, gSub, rSetL, gTup, gCons, gNil, tB, tNot, tTest, tAndV, tOrV, tNotV, tAnd, tOr, tIf, tOp, tUn, tThenZ, tThen, r1, kTyp, kTup, tVar, tC, tChain, tCB, tCons, tNil, rI0, rI, rEq, rNe, rRep, rIxT, rIxL, tCall, tTup, tLst, tTupRg, tLstRg, tRg1, tRg2, tPar, List.getElem?_cons_zero, List.getElem?_cons_succ, List.set_cons_zero, List.set_cons_succ, Option.some.injEq, exists_eq_left', exists_eq_left, V.ty.injEq, V.int.injEq, V.bl.injEq, V.ref.injEq, List.cons.injEq, and_true, true_and, wipe, exists_and_left, List.append_nil, reduceCtorEq, false_and, exists_false, false_or, or_false])
section
variable {P : Program} {w : World} {K : PySem.W.Frag} {mg : Str → Option Value} {base : Heap}
theorem ok_is_between (T : TX K mg base) : FnOk P w K mg base CX0 1 (He.ga K "is_between") (fdK K "is_between") ["value", "low", "high"] spBetween := by
  refine T.F_is_between.ok scis_between (fun vs H Q E h => ?_) (fun cdv A outer s H vs Q E hr h => ?_)
  · obtain ⟨v, lo, hi, rfl, _⟩ := h
    rfl
  · obtain ⟨v, lo, hi, rfl, ⟨n, hn⟩, q⟩ := h
    refine ⟨_, (pss_one (ps_ret (pe_and (pe_cmpR op_isTy (pe_typeOf (by rfl) T.n_type (pv 0)) (pe_bltn (v := .ty "int") (by rfl) T.n_int (by decide +kernel) rfl) (nomark _)) (pe_one (pe_chain op_le op_le (pv 1) (pv 0) (pv 2)))))), ?_⟩
    walk_at "sx"
    simp only [hn, Option.some.injEq, exists_eq_left']
    by_cases e : n = "int"
    · subst e
      obtain ⟨i, rfl⟩ := zty_int v H hn
      refine ite2 (fun _ => ⟨i, rfl, ite2 (fun c => ⟨i, rfl, ?_⟩) (fun c => ?_)⟩) (fun z => absurd rfl z)
      · simpa only [btV, c, Bool.true_and] using q
      · simpa only [btV, Bool.eq_false_iff.mpr c, Bool.false_and] using q
    · rw [if_neg (by simpa using e)]
      have eb : btV lo hi v = false := by
        cases v with
        | int i => exact absurd (Option.some.inj hn).symm e
        | _ => rfl
      rw [eb] at q
      exact q
theorem ok_is_tuple_of (T : TX K mg base) : FnOk P w K mg base CX0 1 (He.ga K "is_tuple_of") (fdK K "is_tuple_of") ["value", "size"] spTupleOf := by
  refine T.F_is_tuple_of.ok scis_tuple_of (fun vs H Q E h => ?_) (fun cdv A outer s H vs Q E hr h => ?_)
  · obtain ⟨v, n, rfl, _⟩ := h
    rfl
  · obtain ⟨v, n, rfl, ⟨m, hm⟩, q⟩ := h
    refine ⟨_, (pss_one (ps_ret (pe_and (pe_cmpR op_isTy (pe_typeOf (by rfl) T.n_type (pv 0)) (pe_bltn (v := .ty "tuple") (by rfl) T.n_tuple (by decide +kernel) rfl) (nomark _)) (pe_one (pe_cmpR op_eq (pe_callB (lenS (K := K) rfl) (by rfl) T.n_len PySem.boot_len (pa_cons (pv 0) pa_nil)) (pv 1) (nomark _)))))), ?_⟩
    walk_at "sx"
    simp only [hm, Option.some.injEq, exists_eq_left']
    cases ht : tupOf H v with
    | none =>
      rw [if_neg (by simpa using zty_not v H m hm ht)]
      simpa only [lenB, ht] using q
    | some xs =>
      obtain ⟨a, rfl, ha⟩ := tupOf_some ht
      have em : m = "tuple" := Option.some.inj (hm.symm.trans (zty_tup _ H xs ht))
      rw [if_pos (by simpa using em)]
      refine ⟨a, rfl, xs, .inr (.inl (.inl ha)), rfl, ?_⟩
      simpa only [lenB, ht, V.int.injEq] using q
theorem ok_is_degree (T : TX K mg base) : FnOk P w K mg base CX0 2 (He.ga K "is_degree") (fdK K "is_degree") ["value"] spDegree := by
  refine T.F_is_degree.ok scis_degree (fun vs H Q E h => ?_) (fun cdv A outer s H vs Q E hr h => ?_)
  · obtain ⟨v, rfl, _⟩ := h
    rfl
  · obtain ⟨v, rfl, t, q⟩ := h
    refine ⟨_, (pss_one (ps_ret (pe_call (ok_is_between T) hr (by rfl) T.g_is_between T.F_is_between.kp T.b_is_between .nil pass0 (pa_cons (pv 0) (pa_cons pe_int (pa_cons (C8.pe_gc rfl T.c_MOST_DEGREE) pa_nil)))))), ?_⟩
    walk_at "sx"
    exact ⟨v, 1, 12, rfl, t, q⟩
theorem bd : BtDef sis_between := ⟨⟨_, _, _, _, _, _, _, _, _, _, _, rfl⟩, rfl, rfl, rfl, by decide +kernel, rfl, rfl, rfl, rfl, rfl⟩
theorem pd : PtDef sis_point := ⟨⟨_, _, _, _, _, _, _, _, _, _, rfl⟩, rfl, rfl, rfl, by decide +kernel, rfl, rfl, rfl⟩
theorem ok_are_points (T : TX K mg base) : FnOk P w K mg base CX0 3 (He.ga K "are_points") (fdK K "are_points") ["degree", "value"] (spPoints K) := by
  refine okC T.F_are_points scare_points (fun vs H Q E h => ?_) (fun cdv A outer s H vs Q E hcd hr h => ?_)
  · obtain ⟨v, d, rfl, _⟩ := h
    rfl
  · obtain ⟨v, d, rfl, ⟨⟨m, hm⟩, hit⟩, hT, q⟩ := h
    refine ⟨_, (pss_one (ps_ret (pe_and (pe_cmpR op_isTy (pe_typeOf (by rfl) T.n_type (pv 1)) (pe_bltn (v := .ty "tuple") (by rfl) T.n_tuple (by decide +kernel) rfl) (nomark _)) (pe_one (pe_allT hr (by rfl) T.n_all T.tab_are_points hcd (by exact genS_by rfl rfl (by decide) rfl rfl rfl) (pv 1) (by intro _; rfl) (by decide +kernel)))))), ?_⟩
    walk_at "sx"
    simp only [hm, Option.some.injEq, exists_eq_left', tAllT]
    cases ht : tupOf H v with
    | none =>
      rw [if_neg (by simpa using zty_not v H m hm ht)]
      have q := q H (Ex.refl H)
      simpa only [ptsB, ht] using q
    | some xs =>
      obtain ⟨a, rfl, ha⟩ := tupOf_some ht
      have em : m = "tuple" := Option.some.inj (hm.symm.trans (zty_tup _ H xs ht))
      rw [if_pos (by simpa using em)]
      walk_at "sx"
      refine ⟨xs, .inl (.inl ha), hT, btV 0 (d - 1), fun pins s1 I => ?_, fun H2 hTb => ?_⟩
      · exact elt_point (i := 0) (k := 0) I hT (by exact genS_by rfl rfl (by decide) rfl rfl rfl) ⟨rfl, rfl, rfl, rfl⟩ rfl rfl rfl T.F_is_point pd T.b_is_point T.g_is_point T.F_is_between bd T.b_is_between T.g_is_between T.n_type T.n_int hr (hit xs ht).2 (base_ne I hT)
      · have q := q H2 (Ex.tabbed hT hTb)
        simpa only [ptsB, ht] using q
theorem ok_are_distinct_points (T : TX K mg base) : FnOk P w K mg base CX0 4 (He.ga K "are_distinct_points") (fdK K "are_distinct_points") ["degree", "value"] (spDistinct K) := by
  refine T.F_are_distinct_points.ok scare_distinct_points (fun vs H Q E h => ?_) (fun cdv A outer s H vs Q E hr h => ?_)
  · obtain ⟨v, d, rfl, _⟩ := h
    rfl
  · obtain ⟨v, d, rfl, g, hT, q⟩ := h
    refine ⟨_, (pss_one (ps_ret (pe_and (pe_call (ok_are_points T) hr (by rfl) T.g_are_points T.F_are_points.kp T.b_are_points .nil pass0 (pa_cons (pv 0) (pa_cons (pv 1) pa_nil))) (pe_one (pe_cmpR op_eq (pe_lenSetT (by rfl) T.n_len (by rfl) T.n_set (pv 1)) (pe_callB (lenS (K := K) rfl) (by rfl) T.n_len PySem.boot_len (pa_cons (pv 1) pa_nil)) (nomark _)))))), ?_⟩
    walk_at "sx"
    refine ⟨v, d, rfl, g, hT, fun H' x => ⟨_, rfl, ?_⟩⟩
    cases ht : tupOf H v with
    | none =>
      have e : ptsB H d v = false := by unfold ptsB; rw [ht]
      rw [e]
      refine iteF ?_
      have q := q H' x
      simpa only [dstB, ht] using q
    | some xs =>
      obtain ⟨a, rfl, ha⟩ := tupOf_some ht
      have e : ptsB H d (.ref a) = xs.all (btV 0 (d - 1)) := by unfold ptsB; rw [ht]
      have e2 : dstB H d (.ref a) = (xs.all (btV 0 (d - 1)) && decide xs.Nodup) := by unfold dstB; rw [ht]
      rw [e]
      rw [e2] at q
      cases hall : xs.all (btV 0 (d - 1)) with
      | false =>
        rw [hall] at q
        exact iteF (q H' x)
      | true =>
        rw [hall, Bool.true_and] at q
        obtain ⟨ns, rfl, hns⟩ := all_ints hall
        refine iteT ?_
        have ha' : H' a = some (.tup (ns.map V.int)) := x.st _ _ ha trivial
        have hlen := (g.it _ ht).1
        rw [List.length_map] at hlen
        unfold tLenSetT
        walk_at "sx"
        refine ⟨ns, .inl (.inl ha'), hlen, fun ks hk hm => ⟨ns.map V.int, .inr (.inl (.inl ha')), rfl, ?_⟩⟩
        have eb : decide (((ks.length : Nat) : Int) = (((ns.map V.int).length : Nat) : Int)) = decide (ns.map V.int).Nodup := by
          rw [List.length_map, decide_eq_decide, nodup_map_int]
          constructor
          · intro z
            exact nodup_of_len hk hm (by omega)
          · intro z
            rw [len_nodup hk hm z]
        rw [eb]
        exact q H' x
theorem ok_is_permutation (T : TX K mg base) : FnOk P w K mg base CX0 5 (He.ga K "is_permutation") (fdK K "is_permutation") ["degree", "value"] (spPerm K) := by
  refine T.F_is_permutation.ok scis_permutation (fun vs H Q E h => ?_) (fun cdv A outer s H vs Q E hr h => ?_)
  · obtain ⟨v, d, rfl, _⟩ := h
    rfl
  · obtain ⟨v, d, rfl, g, hT, q⟩ := h
    refine ⟨_, (pss_one (ps_ret (pe_and (pe_call (ok_is_tuple_of T) (hr.mono (by decide)) (by rfl) T.g_is_tuple_of T.F_is_tuple_of.kp T.b_is_tuple_of .nil pass0 (pa_cons (pv 1) (pa_cons (pv 0) pa_nil))) (pe_one (pe_call (ok_are_distinct_points T) hr (by rfl) T.g_are_distinct_points T.F_are_distinct_points.kp T.b_are_distinct_points .nil pass0 (pa_cons (pv 0) (pa_cons (pv 1) pa_nil))))))), ?_⟩
    walk_at "sx"
    refine ⟨v, d, rfl, g.ty, _, rfl, ?_⟩
    unfold permB at q
    cases e : lenB H d v with
    | false =>
      rw [e] at q
      exact iteF (q H (Ex.refl H))
    | true =>
      rw [e, Bool.true_and] at q
      exact iteT ⟨v, d, rfl, g, hT, q⟩
theorem ok_is_any_permutation (T : TX K mg base) : FnOk P w K mg base CX0 6 (He.ga K "is_any_permutation") (fdK K "is_any_permutation") ["value"] (spAny K) := by
  refine T.F_is_any_permutation.ok scis_any_permutation (fun vs H Q E h => ?_) (fun cdv A outer s H vs Q E hr h => ?_)
  · obtain ⟨v, rfl, _⟩ := h
    rfl
  · obtain ⟨v, rfl, g, hT, q⟩ := h
    obtain ⟨m, hm⟩ := g.ty
    refine ⟨_, (pss_one (ps_ret (pe_and (pe_cmpR op_isTy (pe_typeOf (by rfl) T.n_type (pv 0)) (pe_bltn (v := .ty "tuple") (by rfl) T.n_tuple (by decide +kernel) rfl) (nomark _)) (pe_and (pe_call (ok_is_degree T) (hr.mono (by decide)) (by rfl) T.g_is_degree T.F_is_degree.kp T.b_is_degree .nil pass0 (pa_cons (pe_callB (lenS (K := K) rfl) (by rfl) T.n_len PySem.boot_len (pa_cons (pv 0) pa_nil)) pa_nil)) (pe_one (pe_call (ok_is_permutation T) hr (by rfl) T.g_is_permutation T.F_is_permutation.kp T.b_is_permutation .nil pass0 (pa_cons (pe_callB (lenS (K := K) rfl) (by rfl) T.n_len PySem.boot_len (pa_cons (pv 0) pa_nil)) (pa_cons (pv 0) pa_nil)))))))), ?_⟩
    walk_at "sx"
    simp only [hm, Option.some.injEq, exists_eq_left']
    cases ht : tupOf H v with
    | none =>
      rw [if_neg (by simpa using zty_not v H m hm ht)]
      have q := q H (Ex.refl H)
      simpa only [anyB, ht] using q
    | some xs =>
      obtain ⟨a, rfl, ha⟩ := tupOf_some ht
      have em : m = "tuple" := Option.some.inj (hm.symm.trans (zty_tup _ H xs ht))
      rw [if_pos (by simpa using em)]
      have e : anyB H (.ref a) = (btV 1 12 (.int xs.length) && permB H xs.length (.ref a)) := by unfold anyB; rw [ht]
      rw [e] at q
      have hs : SqL K H a xs ∨ SqT K H a xs := .inr (.inl (.inl ha))
      refine ⟨a, rfl, xs, hs, .int xs.length, rfl, ⟨_, rfl⟩, _, rfl, ?_⟩
      cases hb : btV 1 12 (.int xs.length) with
      | false =>
        rw [hb] at q
        exact iteF (q H (Ex.refl H))
      | true =>
        rw [hb, Bool.true_and] at q
        exact iteT ⟨a, rfl, xs, hs, .ref a, xs.length, rfl, g, hT, q⟩
theorem ok_check_any_permutation (T : TX K mg base) : FnOk P w K mg base CX0 7 (He.ga K "check_any_permutation") (fdK K "check_any_permutation") ["value"] (spCkAny K) := by
  refine T.F_check_any_permutation.ok sccheck_any_permutation (fun vs H Q E h => ?_) (fun cdv A outer s H vs Q E hr h => ?_)
  · obtain ⟨v, rfl, _⟩ := h
    rfl
  · obtain ⟨v, rfl, g, hT, hb, q⟩ := h
    refine ⟨_, (pss_one (ps_if (pt_not (pt_val (pe_call (ok_is_any_permutation T) hr (by rfl) T.g_is_any_permutation T.F_is_any_permutation.kp T.b_is_any_permutation .nil pass0 (pa_cons (pv 0) pa_nil)))) pss_never pss_nil)), ?_⟩
    walk_at "sx"
    refine ⟨v, rfl, g, hT, fun H' x => ⟨_, rfl, ?_⟩⟩
    rw [hb]
    exact iteF (q H' x)
theorem ok_check_permutation (T : TX K mg base) : FnOk P w K mg base CX0 6 (He.ga K "check_permutation") (fdK K "check_permutation") ["degree", "value"] (spCkPerm K) := by
  refine T.F_check_permutation.ok sccheck_permutation (fun vs H Q E h => ?_) (fun cdv A outer s H vs Q E hr h => ?_)
  · obtain ⟨v, d, rfl, _⟩ := h
    rfl
  · obtain ⟨v, d, rfl, g, hT, hb, q⟩ := h
    refine ⟨_, (pss_one (ps_if (pt_not (pt_val (pe_call (ok_is_permutation T) hr (by rfl) T.g_is_permutation T.F_is_permutation.kp T.b_is_permutation .nil pass0 (pa_cons (pv 0) (pa_cons (pv 1) pa_nil))))) pss_never pss_nil)), ?_⟩
    walk_at "sx"
    refine ⟨v, d, rfl, g, hT, fun H' x => ⟨_, rfl, ?_⟩⟩
    rw [hb]
    exact iteF (q H' x)
theorem ok_check_two_permutations (T : TX K mg base) : FnOk P w K mg base CX0 8 (He.ga K "check_two_permutations") (fdK K "check_two_permutations") ["p", "q"] (spCkTwo K) := by
  refine T.F_check_two_permutations.ok sccheck_two_permutations (fun vs H Q E h => ?_) (fun cdv A outer s H vs Q E hr h => ?_)
  · obtain ⟨a, b, n, p, q, rfl, _⟩ := h
    rfl
  · obtain ⟨a, b, n, p, q, rfl, hp, hq, h1, h12, hT, z⟩ := h
    refine ⟨_, (pss_cons (ps_expr (pe_call (ok_check_any_permutation T) hr (by rfl) T.g_check_any_permutation T.F_check_any_permutation.kp T.b_check_any_permutation .nil pass0 (pa_cons (pv 0) pa_nil)))
      (pss_one (ps_expr (pe_call (ok_check_permutation T) (hr.mono (by decide)) (by rfl) T.g_check_permutation T.F_check_permutation.kp T.b_check_permutation .nil pass0 (pa_cons (pe_callB (lenS (K := K) rfl) (by rfl) T.n_len PySem.boot_len (pa_cons (pv 0) pa_nil)) (pa_cons (pv 1) pa_nil)))))), ?_⟩
    walk_at "sx"
    refine ⟨.ref a, rfl, hp.good h12, hT, hp.anyB h1 h12, fun H1 x1 => ?_⟩
    have hp1 := hp.ex x1
    have hq1 := hq.ex x1
    refine ⟨p.map V.int, .inr (.inl (.inl hp1.at_)), .ref b, (p.map V.int).length, rfl, hq1.good h12, x1.tab _ hT, ?_, fun H2 x2 => z H2 (x1.trans x2)⟩
    rw [List.length_map, hp1.is.len]
    exact hq1.permB
theorem ok_full_cycles (T : TX K mg base) : FnOk P w K mg base CX0 1 (He.ga K "full_cycles") (fdK K "full_cycles") ["p"] spFullCycles := by
  refine T.F_full_cycles.ok scfull_cycles (fun vs H Q E h => ?_) (fun cdv A outer s H vs Q E hr h => ?_)
  · obtain ⟨a, n, p, rfl, _⟩ := h
    rfl
  · obtain ⟨a, n, p, rfl, hp, hn, z⟩ := h
    refine ⟨_, (pss_cons (ps_set (i := 1) scfull_cycles.nd rfl (.inl rfl) (pe_lst pa_nil))
      (pss_cons (ps_set (i := 2) scfull_cycles.nd rfl (.inl rfl) (pe_callTy0 cr_set0 (by rfl) T.n_set (by decide +kernel)))
      (pss_cons (ps_for PassesOwn.never rfl (pi_range1 (by rfl) T.n_range (pa_cons (pe_callB (lenS (K := K) rfl) (by rfl) T.n_len PySem.boot_len (pa_cons (pv 0) pa_nil)) pa_nil)) (pg_name (i := 3) scfull_cycles.nd rfl (.inl rfl)) (pss_one (ps_if (pt_cmpR or_snotin (pv 3) (pv 2) (by rfl)) (pss_cons (ps_set (i := 4) scfull_cycles.nd rfl (.inl rfl) (pe_lst pa_nil))
      (pss_cons (ps_set (i := 5) scfull_cycles.nd rfl (.inl rfl) (pv 3))
      (pss_cons (ps_while PassesOwn.never (pt_cmpR or_snotin (pv 5) (pv 2) (by rfl)) (pss_cons (ps_expr (pe_sadd (pv 2) (pa_cons (pv 5) pa_nil)))
      (pss_cons (ps_expr (pe_bm PySem.F.plainAttrs_list PySem.F.slot_list_append PySem.F.type_list_append mt_append (pv 4) (pa_cons (pv 5) pa_nil)))
      (pss_one (ps_set (i := 5) scfull_cycles.nd rfl (.inl rfl) (pe_ix (ixT (K := K) rfl) (pv 0) (pv 5) (fun _ _ => rfl)))))))
      (pss_one (ps_expr (pe_bm PySem.F.plainAttrs_list PySem.F.slot_list_append PySem.F.type_list_append mt_append (pv 1) (pa_cons (pe_tupK (K := K) rfl (by rfl) T.n_tuple (pv 4)) pa_nil))))))) pss_nil)))
      (pss_one (ps_ret (pv 1)))))), ?_⟩
    walk_at "sx"
    refine ⟨Nat.zero_le _, fun l nl => ⟨rfl, fun sA nS => ?_⟩⟩
    have xl : Ex H (upd H l (.lst [])) := Ex.new nl
    have nS0 := xl.no _ nS
    have xs : Ex H (upd (upd H l (.lst [])) sA (SetO w sA (fun _ => false) 0)) := xl.trans (Ex.new nS)
    have hlp : (p.map V.int).length = n := by rw [List.length_map, hp.is.len]
    have F0 : FC w H (upd (upd H l (.lst [])) sA (SetO w sA (fun _ => false) 0)) l sA n p [] [] [] := ⟨xs, by rw [upd_ne (fun z => by rw [z] at nS; rw [upd_same] at nS; cases nS)]; exact upd_same, .nil, upd_same, .nil, .nil, (fun _ h => by cases h), (fun _ h => by cases h), .nil⟩
    refine ⟨.ref a, rfl, a, rfl, p.map V.int, .inr (xs.t (.inl (.inl hp.at_))), (n : Int), by rw [hlp], by omega, by omega, for_it walk_range (fun i σ H1 => ∃ y3 y4 y5 R As, σ = [some (.ref a), some (.ref l), some (.ref sA), y3, y4, y5] ∧ FC w H H1 l sA n p As R R.flatten ∧ (∀ x : Int, 0 ≤ x → x < i → x ∈ R.flatten) ∧ ∀ r ∈ R, r.getD 0 0 < (i : Int))
      ⟨none, none, none, [], [], rfl, F0, (fun x _ _ => by omega), (fun _ h => by cases h)⟩ (fun _ _ _ _ _ => trivial) (fun i x σ H1 H2 hi ⟨y3, y4, y5, R, As, es, F, hA, hLo⟩ ⟨e, ex⟩ => ?_) (fun σ H1 ⟨y3, y4, y5, R, As, es, F, hA, hLo⟩ => ?_)⟩
    · subst es e ex
      rw [show ((n : Nat) : Int).toNat = n by omega] at hi
      walk_at "sx"
      obtain ⟨f, ef⟩ : ∃ f : Int, 0 + (i : Int) = f := ⟨_, rfl⟩
      rw [ef]
      refine ⟨f, sA, _, _, rfl, rfl, F.seen, ⟨_, rfl, ite2 (fun c => ?_) (fun c => ?_)⟩⟩
      · have hf : f ∉ R.flatten := fun z => by
          rw [decide_eq_true z] at c
          cases c
        refine ⟨Nat.zero_le _, fun rA nR => ?_⟩
        have rl : rA ≠ l := fun z => by rw [z, F.hl] at nR; cases nR
        have nR0 := F.ex.no _ nR
        refine ⟨fun m σ H3 => ∃ L pt, m = n - L.length ∧ σ = [some (.ref a), some (.ref l), some (.ref sA), some (.int f), some (.ref rA), some (.int pt)] ∧ FC w H H3 l sA n p As R (R.flatten ++ L) ∧ H3 rA = some (.lst (L.map V.int)) ∧ Chain p f L pt ∧ 0 ≤ pt ∧ pt < n,
          ⟨n, [], f, rfl, rfl, by rw [List.append_nil]; exact F.new nR, upd_same, .start, by omega, by omega⟩, fun m σ H3 ⟨L, pt, em, es, F3, hL, C, p0, pb⟩ => ?_⟩
        subst em es
        walk_at "sx"
        refine ⟨pt, sA, _, _, rfl, rfl, F3.seen, ⟨_, rfl, ite2 (fun c => ?_) (fun c => ?_)⟩⟩
        · have hpt : pt ∉ R.flatten ++ L := fun z => by
            rw [decide_eq_true z] at c
            cases c
          have nd4 := nd_more F3.nd hpt
          have bd4 := bd_more F3.bd p0 pb
          have lt4 := bd_len nd4 bd4
          rw [List.length_append, List.length_append] at lt4
          have lt4 : R.flatten.length + L.length + 1 ≤ n := lt4
          refine ⟨fun σ' H' => ∃ L' pt', L'.length = L.length + 1 ∧ σ' = [some (.ref a), some (.ref l), some (.ref sA), some (.int f), some (.ref rA), some (.int pt')] ∧ FC w H H' l sA n p As R (R.flatten ++ L') ∧ H' rA = some (.lst (L'.map V.int)) ∧ Chain p f L' pt' ∧ 0 ≤ pt' ∧ pt' < n, fun σ' H' ⟨L', pt', el, h⟩ => ⟨n - L'.length, by omega, L', rfl, pt', h⟩, ?_⟩
          simp only [tSAdd, tBM, rSAdd, rAppend]
          walk_at "sx"
          obtain ⟨nx, hnx, n0, nb⟩ := hp.is.get (i := pt.toNat) (by omega)
          refine ⟨⟨_, _, F3.seen⟩, _, _, F3.seen, by show (R.flatten ++ L).length + 1 < 4096; rw [List.length_append]; omega, ?_⟩
          rw [setO_more hpt]
          have hL4 : upd H3 sA (SetO w sA (fun j => decide (j ∈ R.flatten ++ L ++ [pt])) (R.flatten ++ L ++ [pt]).length) rA = some (.lst (L.map V.int)) := kp hL F3.seen (fun z => by cases z)
          have x5 := (F3.ex.own (o := SetO w sA (fun j => decide (j ∈ R.flatten ++ L ++ [pt])) (R.flatten ++ L ++ [pt]).length) nS0).own (o := .lst (L.map V.int ++ [V.int pt])) nR0
          refine ⟨.inl ⟨rfl, _, sl_at hL4⟩, _, hL4, by rw [List.length_map]; exact small1000 (by omega), p.map V.int, x5.t (.inl (.inl hp.at_)), .int nx, at_int p0 hnx, L ++ [pt], List.length_append, nx, rfl, ⟨x5, ?_, ?_, ?_, F3.cyc, ?_, ?_, F3.mn, F3.so⟩, ?_, C.step hnx, n0, nb⟩
          · rw [upd_ne (Ne.symm rl)]
            exact kp F3.hl F3.seen (fun z => by cases z)
          · exact (F3.rows.upd F3.seen (fun _ z => by cases z)).upd hL4 (fun _ z => by cases z)
          · rw [← List.append_assoc]
            exact kp upd_same hL4 (fun z => by cases z)
          · rw [← List.append_assoc]; exact nd4
          · rw [← List.append_assoc]; exact bd4
          · rw [upd_same, List.map_append]
            rfl
        · simp only [tSAdd, tBM, rSAdd, rAppend]
          walk_at "sx"
          have hm : pt ∈ R.flatten ++ L := by
            apply Classical.byContradiction
            intro z
            exact c (by rw [decide_eq_false z]; rfl)
          have tn := C.close hp.is F3.cyc F3.nd (fun x hx => F3.bd x (List.mem_append_right _ hx)) hf hm
          refine ⟨.inl ⟨rfl, _, sl_at F3.hl⟩, .inl ⟨L.map V.int, sl_at hL, fun q nq => ?_⟩⟩
          have hl4 : upd H3 q (.tup (L.map V.int)) l = some (.lst (As.map V.ref)) := by rw [upd_ne (ne_of_none F3.hl nq)]; exact F3.hl
          have F4 := F3.new (o := .tup (L.map V.int)) nq
          have ef2 : (R ++ [L]).flatten = R.flatten ++ L := by rw [List.flatten_append, List.flatten_cons, List.flatten_nil, List.append_nil]
          have x5 : Ex H (upd (upd H3 q (.tup (L.map V.int))) l (.lst (As.map V.ref ++ [V.ref q]))) := F4.ex.own nl
          have lq : l ≠ q := ne_of_none F3.hl nq
          have ln := bd_len F3.nd F3.bd
          rw [List.length_append] at ln
          have R5 : RowsAt (upd (upd H3 q (.tup (L.map V.int))) l (.lst (As.map V.ref ++ [V.ref q]))) (As ++ [q]) (R ++ [L]) := (F4.rows.upd hl4 (fun _ z => by cases z)).more (by rw [upd_ne (Ne.symm lq)]; exact upd_same)
          have C5 := F3.cyc.more tn F3.nd (fun x hx => F3.bd x (List.mem_append_right _ hx))
          have lenR : As.length ≤ n := by
            have := rows_le F3.cyc.tn
            rw [F3.rows.len]
            omega
          have hd0 : L.getD 0 0 = f := by
            have hd := C.hd
            rw [List.getElem?_append_left tn.ne] at hd
            exact getD_of hd
          have mnL : ∀ x ∈ L, L.getD 0 0 ≤ x := fun x hx => by
            rw [hd0]
            apply Classical.byContradiction
            intro g
            have hb := F3.bd x (List.mem_append_right _ hx)
            exact absurd rfl ((List.nodup_append.mp F3.nd).2.2 x (hA x hb.1 (by omega)) x hx)
          refine ⟨_, hl4, by rw [List.length_map]; exact small1000 (by omega), _, _, _, ⟨rfl, rfl, rfl⟩, R ++ [L], As ++ [q], ⟨x5, ?_, R5, ?_, C5, ?_, ?_, ?_, ?_⟩, fun x x0 xi => ?_, fun r hr => ?_⟩
          · rw [upd_same, List.map_append]
            rfl
          · rw [ef2]
            exact kp F4.seen hl4 (fun z => by cases z)
          · rw [ef2]; exact F3.nd
          · rw [ef2]; exact F3.bd
          · intro r hr
            rcases List.mem_append.mp hr with z | z
            · exact F3.mn r z
            · rw [List.mem_singleton.mp z]; exact mnL
          · rw [List.map_append, List.pairwise_append]
            refine ⟨F3.so, List.pairwise_singleton .., fun x hx y hy => ?_⟩
            obtain ⟨r, hr, rfl⟩ := List.mem_map.mp hx
            rw [List.map_cons, List.map_nil, List.mem_singleton] at hy
            rw [hy, hd0]
            have := hLo r hr
            omega
          · rw [ef2]
            by_cases hx : x < i
            · exact List.mem_append_left _ (hA x x0 hx)
            · have e : x = f := by omega
              rw [e]
              have hd := C.hd
              rw [List.getElem?_append_left tn.ne] at hd
              exact List.mem_append_right _ (List.mem_of_getElem? hd)
          · rcases List.mem_append.mp hr with z | z
            · have := hLo r z
              omega
            · rw [List.mem_singleton.mp z, hd0]
              omega
      · refine ⟨_, _, _, ⟨rfl, rfl, rfl⟩, R, As, F, fun x x0 xi => ?_, fun r hr => by have := hLo r hr; omega⟩
        by_cases hx : x < i
        · exact hA x x0 hx
        · have e : x = f := by omega
          rw [e]
          apply Classical.byContradiction
          intro hn
          exact c (by rw [decide_eq_false hn]; rfl)
    · subst es
      walk_at "sx"
      exact z l As R H1 F.ex F.hl F.rows ⟨F.cyc, fun x x0 xn => hA x x0 (by omega), F.mn, F.so⟩
theorem ok_conjugator (T : TX K mg base) : FnOk P w K mg base CX0 9 (He.ga K "conjugator") (fdK K "conjugator") ["p", "q"] (spConjugator K) := by
  refine T.F_conjugator.ok scconjugator (fun vs H Q E h => ?_) (fun cdv A outer s H vs Q E hr h => ?_)
  · obtain ⟨a, b, n, p, q, rfl, _⟩ := h
    rfl
  · obtain ⟨a, b, n, p, q, rfl, hp, hq, h1, h12, hT, zz⟩ := h
    have zy : Alike n p q → ∀ (c : Addr) (H' : Hp) (g : List Int), Ex H H' → Pm H' c n g → mulL (mulL (invL g) p) g = q → Q (.ref c) H' := fun A c H' g x hg hc => zz _ H' x (.inr ⟨c, g, rfl, hg, hc, A⟩)
    have zn : ¬ Alike n p q → ∀ H', Ex H H' → Q .non H' := fun A H' x => zz _ H' x (.inl ⟨rfl, A⟩)
    refine ⟨_, (pss_cons (ps_expr (pe_call (ok_check_two_permutations T) hr (by rfl) T.g_check_two_permutations T.F_check_two_permutations.kp T.b_check_two_permutations .nil pass0 (pa_cons (pv 0) (pa_cons (pv 1) pa_nil))))
      (pss_cons (ps_set (i := 2) scconjugator.nd rfl (.inl rfl) (pe_sortLen (K := K) rfl hr (by rfl) T.n_sorted (by rfl) T.n_len (pa_cons (pe_call (ok_full_cycles T) (hr.mono (by decide)) (by rfl) T.g_full_cycles T.F_full_cycles.kp T.b_full_cycles .nil pass0 (pa_cons (pv 0) pa_nil)) pa_nil)))
      (pss_cons (ps_set (i := 3) scconjugator.nd rfl (.inl rfl) (pe_sortLen (K := K) rfl hr (by rfl) T.n_sorted (by rfl) T.n_len (pa_cons (pe_call (ok_full_cycles T) (hr.mono (by decide)) (by rfl) T.g_full_cycles T.F_full_cycles.kp T.b_full_cycles .nil pass0 (pa_cons (pv 1) pa_nil)) pa_nil)))
      (pss_cons (ps_if (pt_cmpR (neD (K := K) rfl hr) (pe_lc (own := [("row", 5)]) (g := gName 5) (tt := tYes) rfl scconjugator.nd (piL (K := K) rfl (pv 2)) (blkOk_by (N := ["p", "q", "some", "others", "images", "row", "other", "point", "target"]) (sc := defScope sconjugator) (by decide +kernel)) (fun _ _ _ _ _ => (pg_name (i := 5) scconjugator.nd rfl (.inl rfl))) (fun _ _ _ _ _ => pts_nil) (fun _ _ _ _ _ => (pe_callB (lenS (K := K) rfl) (by rfl) T.n_len PySem.boot_len (pa_cons (pv 5) pa_nil)))) (pe_lc (own := [("row", 5)]) (g := gName 5) (tt := tYes) rfl scconjugator.nd (piL (K := K) rfl (pv 3)) (blkOk_by (N := ["p", "q", "some", "others", "images", "row", "other", "point", "target"]) (sc := defScope sconjugator) (by decide +kernel)) (fun _ _ _ _ _ => (pg_name (i := 5) scconjugator.nd rfl (.inl rfl))) (fun _ _ _ _ _ => pts_nil) (fun _ _ _ _ _ => (pe_callB (lenS (K := K) rfl) (by rfl) T.n_len PySem.boot_len (pa_cons (pv 5) pa_nil)))) (nomark _)) (pss_one (ps_ret pe_non)) pss_nil)
      (pss_cons (ps_set (i := 4) scconjugator.nd rfl (.inl rfl) (pe_op op_rep (pe_lst (pa_cons pe_int pa_nil)) (pe_callB (lenS (K := K) rfl) (by rfl) T.n_len PySem.boot_len (pa_cons (pv 0) pa_nil))))
      (pss_cons (ps_for PassesOwn.never rfl (RZ.pi_zipA (by rfl) T.n_zip (pa_cons (pv 2) (pa_cons (pv 3) pa_nil))) (pg_tup rfl (pgs_cons (pg_name (i := 5) scconjugator.nd rfl (.inl rfl)) (pgs_cons (pg_name (i := 6) scconjugator.nd rfl (.inl rfl)) pgs_nil))) (pss_one (ps_for PassesOwn.never rfl (RZ.pi_zipA (by rfl) T.n_zip (pa_cons (pv 5) (pa_cons (pv 6) pa_nil))) (pg_tup rfl (pgs_cons (pg_name (i := 7) scconjugator.nd rfl (.inl rfl)) (pgs_cons (pg_name (i := 8) scconjugator.nd rfl (.inl rfl)) pgs_nil))) (pss_one (ps_asg (pv 8) (pg_sub (pv 4) (pv 7) set_list (by intro _; rfl)))))))
      (pss_one (ps_ret (pe_tupK (K := K) rfl (by rfl) T.n_tuple (pv 4)))))))))), ?_⟩
    walk_at "sx"
    refine ⟨a, b, n, p, q, rfl, hp, hq, h1, h12, hT, fun H1 x1 => ?_⟩
    have hp1 := hp.ex x1
    have hq1 := hq.ex x1
    have hlp : (p.map V.int).length = n := by rw [List.length_map, hp.is.len]
    simp only [tSortLen]
    walk_at "sx"
    refine ⟨a, n, p, rfl, hp1, h12, fun c As R H2 x2 hc hRA hF => ?_⟩
    obtain ⟨ps, eps, hps, qps⟩ := sort_rows hRA
    refine ⟨c, rfl, ps, by rw [eps]; exact sl_at hc, hps, fun o1 qs no1 hpm hso => ?_⟩
    obtain ⟨Xs, Rs, eX, pR, oR, hRs⟩ := qps qs hpm hso
    rw [eX]
    have x3 : Ex H2 (upd H2 o1 (.lst (Xs.map V.ref))) := Ex.new no1
    have ho1 : upd H2 o1 (.lst (Xs.map V.ref)) o1 = some (.lst (Xs.map V.ref)) := upd_same
    have hRs3 := hRs.ex x3
    generalize upd H2 o1 (.lst (Xs.map V.ref)) = H3 at x3 ho1 hRs3 ⊢
    refine ⟨b, n, q, rfl, (hq1.ex x2).ex x3, h12, fun d Bs S H4 x4 hd hSB hG => ?_⟩
    obtain ⟨ps2, eps2, hps2, qps2⟩ := sort_rows hSB
    refine ⟨d, rfl, ps2, by rw [eps2]; exact sl_at hd, hps2, fun o2 qs2 no2 hpm2 hso2 => ?_⟩
    obtain ⟨Ys, Ss, eY, pS, oS, hSs⟩ := qps2 qs2 hpm2 hso2
    rw [eY]
    have x5 : Ex H4 (upd H4 o2 (.lst (Ys.map V.ref))) := Ex.new no2
    have ho2 : upd H4 o2 (.lst (Ys.map V.ref)) o2 = some (.lst (Ys.map V.ref)) := upd_same
    have hSs5 := hSs.ex x5
    have hRs5 := (hRs3.ex x4).ex x5
    have ho15 : upd H4 o2 (.lst (Ys.map V.ref)) o1 = some (.lst (Xs.map V.ref)) := (x4.trans x5).st _ _ ho1 refs_norow
    generalize upd H4 o2 (.lst (Ys.map V.ref)) = H5 at x5 ho2 hSs5 hRs5 ho15 ⊢
    have x15 := ((x2.trans x3).trans x4).trans x5
    have lR : Rs.length ≤ n := by
      rw [pR.length_eq]
      exact Nat.le_trans (rows_le hF.cyc.tn) (bd_len hF.cyc.nd hF.cyc.bd)
    have lS : Ss.length ≤ n := by
      rw [pS.length_eq]
      exact Nat.le_trans (rows_le hG.cyc.tn) (bd_len hG.cyc.nd hG.cyc.bd)
    have hXl : (Xs.map V.ref).length = Rs.length := by rw [List.length_map, hRs5.len]
    have hYl : (Ys.map V.ref).length = Ss.length := by rw [List.length_map, hSs5.len]
    refine ⟨.ref o1, rfl, o1, rfl, ⟨_, sl_at ho15⟩, fun D1 nD1 => ?_⟩
    refine lc_it (walk_list (xs := Xs.map V.ref)) (fun i H6 => Ex H5 H6 ∧ H6 D1 = some (.lst ((lensL (Rs.take i)).map V.int))) ⟨Ex.new nD1, upd_same⟩ (fun i H6 _ ⟨x6, _⟩ => sl_at (x6.st _ _ ho15 refs_norow)) (fun i x H6 H7 hi ⟨x6, hD⟩ ⟨e, hx⟩ => ?_) (fun H6 ⟨x6, hD1⟩ => ?_)
    · subst e
      rw [hXl] at hi
      have hr : Rs[i]? = some Rs[i] := List.getElem?_eq_getElem hi
      obtain ⟨u, hu, hut⟩ := (hRs5.ex x6).at_ i _ hr
      generalize hri : Rs[i] = r at hr hut
      have eu : x = .ref u := by
        rw [List.getElem?_map, hu] at hx
        exact (Option.some.inj hx).symm
      subst eu
      refine ⟨rfl, ?_⟩
      have et : Rs.take (i + 1) = Rs.take i ++ [r] := by rw [List.take_add_one, hr]; rfl
      walk_at "sx"
      refine yesI ⟨r.map V.int, .inr (.inl (.inl hut)), _, hD, ?_, x6.own nD1, ?_⟩
      · rw [List.length_map]
        unfold lensL
        rw [List.length_map, List.length_take]
        exact small1000 (by omega)
      · rw [upd_same, et]
        unfold lensL
        rw [List.map_append, List.map_append, List.length_map]
        rfl
    rw [hXl, List.take_length] at hD1
    have ho26 := x6.st _ _ ho2 refs_norow
    refine ⟨.ref o2, rfl, o2, rfl, ⟨_, sl_at ho26⟩, fun D2 nD2 => ?_⟩
    refine lc_it (walk_list (xs := Ys.map V.ref)) (fun i H7 => Ex H6 H7 ∧ H7 D2 = some (.lst ((lensL (Ss.take i)).map V.int))) ⟨Ex.new nD2, upd_same⟩ (fun i H7 _ ⟨x7, _⟩ => sl_at (x7.st _ _ ho26 refs_norow)) (fun i x H7 H8 hi ⟨x7, hD⟩ ⟨e, hx⟩ => ?_) (fun H7 ⟨x7, hD2⟩ => ?_)
    · subst e
      rw [hYl] at hi
      have hr : Ss[i]? = some Ss[i] := List.getElem?_eq_getElem hi
      obtain ⟨u, hu, hut⟩ := (hSs5.ex (x6.trans x7)).at_ i _ hr
      generalize hri : Ss[i] = r at hr hut
      have eu : x = .ref u := by
        rw [List.getElem?_map, hu] at hx
        exact (Option.some.inj hx).symm
      subst eu
      refine ⟨rfl, ?_⟩
      have et : Ss.take (i + 1) = Ss.take i ++ [r] := by rw [List.take_add_one, hr]; rfl
      walk_at "sx"
      refine yesI ⟨r.map V.int, .inr (.inl (.inl hut)), _, hD, ?_, x7.own nD2, ?_⟩
      · rw [List.length_map]
        unfold lensL
        rw [List.length_map, List.length_take]
        exact small1000 (by omega)
      · rw [upd_same, et]
        unfold lensL
        rw [List.map_append, List.map_append, List.length_map]
        rfl
    rw [hYl, List.take_length] at hD2
    have x57 := x6.trans x7
    have al := alike_iff (ns := lensL Rs) (ms := lensL Ss) hp.is hq.is hF hG (pR.map _) (pS.map _) (lens_sorted oR) (lens_sorted oS)
    refine ⟨.list ((lensL Rs).map PyData.int), .list ((lensL Ss).map PyData.int), dp_ints (x7.i hD1), dp_ints hD2, PySem.W.ke_shaped_ints _, PySem.W.ke_shaped_ints _, ?_⟩
    rw [eqvL_ints]
    have x17 := x1.trans (x15.trans x57)
    refine ⟨_, rfl, ite2 (fun g => ?_) (fun g => ?_)⟩
    · refine zn (fun A => ?_) _ x17
      rw [decide_eq_true (al.mpr A)] at g
      cases g
    have g : lensL Rs = lensL Ss := by
      apply Classical.byContradiction
      intro h
      exact g (by rw [decide_eq_false h]; rfl)
    have A := al.mp g
    have eN := lens_eq g
    have lRS : Rs.length = Ss.length := by
      have e := congrArg List.length eN
      rwa [List.length_map, List.length_map] at e
    refine ⟨by show 1 ≤ sizeLine; decide, fun l nl => ?_⟩
    have xl : Ex H7 (upd H7 l (.lst [V.int 0])) := Ex.new nl
    refine ⟨p.map V.int, .inr (.inl (.inl ((x17.trans xl).st _ _ hp.at_ trivial))), [V.int 0], upd_same, by omega, by omega, by rw [hlp]; exact Nat.le_of_lt (small1000 (by show 1 * ((n : Nat) : Int).toNat ≤ 1000; omega)), fun im nim => ?_⟩
    have nim7 := xl.no _ nim
    have en : ((n : Nat) : Int).toNat = n := by omega
    have eL : (List.replicate ((p.map V.int).length : Int).toNat [V.int 0]).flatten = (List.replicate n (0 : Int)).map V.int := by rw [hlp, en, rep_flat]
    rw [eL]
    have x8 : Ex H7 (upd (upd H7 l (.lst [V.int 0])) im (.lst ((List.replicate n (0 : Int)).map V.int))) := xl.trans (Ex.new nim)
    have him : upd (upd H7 l (.lst [V.int 0])) im (.lst ((List.replicate n (0 : Int)).map V.int)) im = some (.lst ((List.replicate n (0 : Int)).map V.int)) := upd_same
    generalize upd (upd H7 l (.lst [V.int 0])) im (.lst ((List.replicate n (0 : Int)).map V.int)) = H8 at x8 him ⊢
    have hR8 := (hRs5.ex x57).ex x8
    have hS8 := (hSs5.ex x57).ex x8
    have o18 := (x57.trans x8).st _ _ ho15 refs_norow
    have o28 := (x57.trans x8).st _ _ ho2 refs_norow
    have prm := flat_pm hF pR
    have him7 : ∀ H9 : Hp, Ex H7 H9 → ∀ L : List Int, Ex H7 (upd H9 im (.lst (L.map V.int))) := fun H9 x9 L => x9.own nim7
    refine ⟨.ref o1, rfl, .ref o2, rfl, o1, o2, Xs.map V.ref, Ys.map V.ref, rfl, .inl ⟨sl_at o18, sl_at o28, for_it (walk_zip rfl) (fun i σ H9 => ∃ y5 y6 y7 y8 L, σ = [some (.ref a), some (.ref b), some (.ref o1), some (.ref o2), some (.ref im), y5, y6, y7, y8] ∧ Ex H7 H9 ∧ H9 im = some (.lst (L.map V.int)) ∧ Filled n Rs.flatten (fun j => Ss.flatten.getD j 0) (Rs.take i).flatten.length L)
      ⟨none, none, none, none, List.replicate n 0, rfl, x8, him, by rw [List.take_zero]; exact Filled.start⟩ (fun i σ H9 _ ⟨_, _, _, _, _, _, x9, _⟩ => ⟨sl_at (x9.st _ _ (x57.st _ _ ho15 refs_norow) refs_norow), sl_at (x9.st _ _ (x57.st _ _ ho2 refs_norow) refs_norow)⟩) (fun i x σ H9 H10 hi ⟨y5, y6, y7, y8, L, es, x9, hL, hFl⟩ ⟨tp, u, v, ex, ntp, e10, hu, hv⟩ => ?_) (fun σ H9 ⟨y5, y6, y7, y8, L, es, x9, hL, hFl⟩ => ?_)⟩⟩
    · subst es ex e10
      rw [hXl, hYl] at hi
      have hr : Rs[i]? = some Rs[i] := List.getElem?_eq_getElem (by omega)
      have hs : Ss[i]? = some Ss[i] := List.getElem?_eq_getElem (by omega)
      obtain ⟨ra, hra, rat⟩ := (hRs5.ex x57).at_ i _ hr
      obtain ⟨sa, hsa, sat⟩ := (hSs5.ex x57).at_ i _ hs
      generalize Rs[i] = r at hr rat
      generalize Ss[i] = s' at hs sat
      have hu : (Xs.map V.ref)[i]? = some u := hu
      have hv : (Ys.map V.ref)[i]? = some v := hv
      have eu : u = .ref ra := by
        rw [List.getElem?_map, hra] at hu
        exact (Option.some.inj hu).symm
      have ev : v = .ref sa := by
        rw [List.getElem?_map, hsa] at hv
        exact (Option.some.inj hv).symm
      subst eu ev
      have lrs : r.length = s'.length := by
        have e := congrArg (fun l => l[i]?) eN
        simp only [List.getElem?_map, hr, hs, Option.map_some] at e
        exact Option.some.inj e
      have tk := take_flat hr
      have hRi := List.getElem?_eq_some_iff.mp hr
      walk_at "sx"
      have x10 : Ex H7 (upd H9 tp (.tup [.ref ra, .ref sa])) := x9.trans (Ex.new ntp)
      have hL10 : upd H9 tp (.tup [.ref ra, .ref sa]) im = some (.lst (L.map V.int)) := by rw [upd_ne (ne_of_none hL ntp)]; exact hL
      refine ⟨[.ref ra, .ref sa], sq_new, rfl, _, _, rfl, _, _, rfl, rfl, .ref ra, rfl, .ref sa, rfl, ra, sa, r.map V.int, s'.map V.int, rfl, .inr ⟨.inl (.inl (x10.st _ _ rat trivial)), .inl (.inl (x10.st _ _ sat trivial)), RZ.for_zipT (by rw [List.length_map, List.length_map, lrs])
        (fun j σ H11 => ∃ y7 y8 L, σ = [some (.ref a), some (.ref b), some (.ref o1), some (.ref o2), some (.ref im), some (.ref ra), some (.ref sa), y7, y8] ∧ Ex H7 H11 ∧ H11 im = some (.lst (L.map V.int)) ∧ Filled n Rs.flatten (fun j => Ss.flatten.getD j 0) ((Rs.take i).flatten.length + j) L)
        ⟨y7, y8, L, rfl, x10, hL10, hFl⟩ (fun j σ H11 ⟨_, _, _, _, x11, _⟩ => ⟨.inl (.inl (x11.st _ _ rat trivial)), .inl (.inl (x11.st _ _ sat trivial))⟩) (fun j x y T' σ H11 hx hy ⟨y7, y8, L, es, x11, hL, hFl⟩ nT => ?_) (fun σ H11 ⟨y7, y8, L, es, x11, hL, hFl⟩ => ?_)⟩⟩
      · subst es
        obtain ⟨X, hX, eX⟩ : ∃ X : Int, r[j]? = some X ∧ x = .int X := by
          rw [List.getElem?_map] at hx
          obtain ⟨X, hX, e⟩ := Option.map_eq_some_iff.mp hx
          exact ⟨X, hX, e.symm⟩
        obtain ⟨Y, hY, eY⟩ : ∃ Y : Int, s'[j]? = some Y ∧ y = .int Y := by
          rw [List.getElem?_map] at hy
          obtain ⟨Y, hY, e⟩ := Option.map_eq_some_iff.mp hy
          exact ⟨Y, hY, e.symm⟩
        subst eX eY
        have gx := flat_get hr hX
        have gy := flat_get hs hY
        rw [← lens_take eN] at gy
        have bx := prm.bd X (List.mem_of_getElem? gx)
        have hL12 : upd H11 T' (.tup [.int X, .int Y]) im = some (.lst (L.map V.int)) := by rw [upd_ne (ne_of_none hL nT)]; exact hL
        have x12 : Ex H7 (upd H11 T' (.tup [.int X, .int Y])) := x11.trans (Ex.new nT)
        have st := hFl.step prm gx
        rw [getD_of gy] at st
        walk_at "sx"
        refine ⟨[.int X, .int Y], sq_new, rfl, _, _, rfl, _, _, rfl, rfl, _, X, rfl, hL12, X.toNat, ixN_of bx.1 (by rw [List.length_map, hFl.len]; exact bx.2), _, _, ⟨rfl, rfl⟩, x12.own nim7, L.set X.toNat Y, by rw [upd_same, set_map], st⟩
      · subst es
        rw [List.length_map, ← tk] at hFl
        exact ⟨_, _, _, _, rfl, x11, L, hL, hFl⟩
    · subst es
      rw [hXl, hYl, ← lRS, Nat.min_self, List.take_length, prm.len] at hFl
      have cc := carries_conj hp.is hq.is hF hG pR pS eN hFl
      exact ⟨.ref im, rfl, .inl ⟨im, _, rfl, sl_at hL, fun c nc => zy A c _ L ((x17.trans x9).trans (Ex.new nc)) ⟨upd_same, cc.1⟩ cc.2⟩⟩
theorem ok__by_length (T : TX K mg base) : FnOk P w K mg base CX0 2 (He.ga K "_by_length") (fdK K "_by_length") ["p"] spByLength := by
  refine T.F__by_length.ok sc_by_length (fun vs H Q E h => ?_) (fun cdv A outer s H vs Q E hr h => ?_)
  · obtain ⟨a, n, p, rfl, _⟩ := h
    rfl
  · obtain ⟨a, n, p, rfl, hp, hn, z⟩ := h
    refine ⟨_, (pss_cons (ps_set (i := 1) sc_by_length.nd rfl (.inr rfl) (pe_call (ok_full_cycles T) hr (by rfl) T.g_full_cycles T.F_full_cycles.kp T.b_full_cycles .nil pass0 (pa_cons (pv 0) pa_nil)))
      (pss_cons (ps_set (i := 2) sc_by_length.nd rfl (.inl rfl) (pe_callB (cr_sortedSet rfl) (by rfl) T.n_sorted (by decide +kernel) (pa_cons (pe_callTy (cr_setL (K := K) rfl) (by rfl) T.n_set (by decide +kernel) (pa_cons (pe_lc (own := [("row", 4)]) (g := gName 4) (tt := tYes) rfl sc_by_length.nd (piL (K := K) rfl (pv 1)) (blkOk_by (N := ["p", "rows", "lengths", "length", "row"]) (sc := defScope s_by_length) (by decide +kernel)) (fun _ _ _ _ _ => (pg_name (i := 4) sc_by_length.nd rfl (.inl rfl))) (fun _ _ _ _ _ => pts_nil) (fun _ _ _ _ _ => (pe_callB (lenS (K := K) rfl) (by rfl) T.n_len PySem.boot_len (pa_cons (pv 4) pa_nil)))) pa_nil)) pa_nil)))
      (pss_one (ps_ret (pe_lc (own := [("length", 3)]) (g := gName 3) (tt := tYes) rfl sc_by_length.nd (piL (K := K) rfl (pv 2)) (blkOk_by (N := ["p", "rows", "lengths", "length", "row"]) (sc := defScope s_by_length) (by decide +kernel)) (fun _ _ _ _ _ => (pg_name (i := 3) sc_by_length.nd rfl (.inr rfl))) (fun _ _ _ _ _ => pts_nil) (fun _ _ _ _ _ => (pe_tup (pa_cons (pv 3) (pa_cons (pe_lc (own := [("row", 4)]) (g := gName 4)  rfl sc_by_length.nd (piL (K := K) rfl (pv 1)) (blkOk_f (N := ["p", "rows", "lengths", "length", "row"]) ["length"] (by decide +kernel) (List.forall_mem_cons.mpr ⟨by first | exact .inl rfl | exact .inr rfl, (fun _ h => by cases h)⟩)) (fun _ _ _ _ _ => (pg_name (i := 4) sc_by_length.nd rfl (.inl rfl))) (fun _ _ _ _ _ => (pts_one (pt_cmpR op_eq (pe_callB (lenS (K := K) rfl) (by rfl) T.n_len PySem.boot_len (pa_cons (pv 4) pa_nil)) (pv 3) (nomark _)))) (fun _ _ _ _ _ => (pv 4))) pa_nil))))))))), ?_⟩
    walk_at "sx"
    refine ⟨a, n, p, rfl, hp, hn, fun c As R H1 x1 hc hRA hF => ?_⟩
    have lR : R.length ≤ n := Nat.le_trans (rows_le hF.cyc.tn) (bd_len hF.cyc.nd hF.cyc.bd)
    have hAl : (As.map V.ref).length = R.length := by rw [List.length_map, hRA.len]
    refine ⟨.ref c, rfl, c, rfl, ⟨_, sl_at hc⟩, fun D nD => ?_⟩
    refine lc_it (walk_list (xs := As.map V.ref)) (fun i H2 => Ex H1 H2 ∧ H2 D = some (.lst ((lensL (R.take i)).map V.int))) ⟨Ex.new nD, upd_same⟩ (fun i H2 _ ⟨x2, _⟩ => sl_at (x2.st _ _ hc refs_norow)) (fun i x H2 H3 hi ⟨x2, hD⟩ ⟨e, hx⟩ => ?_) (fun H2 ⟨x2, hD⟩ => ?_)
    · subst e
      rw [hAl] at hi
      have hr : R[i]? = some R[i] := List.getElem?_eq_getElem hi
      obtain ⟨b, hb, hbt⟩ := (hRA.ex x2).at_ i _ hr
      generalize hri : R[i] = r at hr hbt
      have eb : x = .ref b := by
        rw [List.getElem?_map, hb] at hx
        exact (Option.some.inj hx).symm
      subst eb
      refine ⟨rfl, ?_⟩
      have et : R.take (i + 1) = R.take i ++ [r] := by rw [List.take_add_one, hr]; rfl
      walk_at "sx"
      refine yesI ⟨r.map V.int, .inr (.inl (.inl hbt)), _, hD, ?_, x2.own nD, ?_⟩
      · rw [List.length_map]
        unfold lensL
        rw [List.length_map, List.length_take]
        exact small1000 (by omega)
      · rw [upd_same, et]
        unfold lensL
        rw [List.map_append, List.map_append, List.length_map]
        rfl
    · rw [hAl, List.take_length] at hD
      have lL : (lensL R).length = R.length := by unfold lensL; rw [List.length_map]
      refine ⟨D, lensL R, rfl, sl_at hD, by omega, fun sA k nS hk => ⟨sA, _, k, rfl, upd_same, by omega, fun ns q ho hm hlen nq => ?_⟩⟩
      have x12 := x1.trans x2
      have xS : Ex H2 (upd H2 sA (SetO w sA (fun j => decide (j ∈ lensL R)) k)) := Ex.new nS
      have pos : ∀ x ∈ ns, 0 ≤ x := fun x hx => by
        have z := of_decide_eq_true ((hm x).mp hx)
        obtain ⟨r, _, rfl⟩ := List.mem_map.mp z
        exact Int.natCast_nonneg _
      obtain ⟨ds, eds⟩ : ∃ ds, ns.map Int.toNat = ds := ⟨_, rfl⟩
      have ens := ints_nats pos
      rw [eds] at ens
      have dnd : ds.Nodup := by
        have z : ns.Nodup := ho.imp fun {a b} h e => by omega
        rw [ens, List.nodup_iff_pairwise_ne, List.pairwise_map] at z
        exact List.nodup_iff_pairwise_ne.mpr (z.imp fun h e => h (congrArg Int.ofNat e))
      have dall : ∀ d, d ∈ ds ↔ d ∈ lensN R := fun d => by
        have h1 : d ∈ ds ↔ (d : Int) ∈ ns := by
          rw [ens]
          exact ⟨fun h => List.mem_map.mpr ⟨d, h, rfl⟩, fun h => by
            obtain ⟨e, he, ee⟩ := List.mem_map.mp h
            rw [← Int.ofNat.inj ee]
            exact he⟩
        rw [h1, hm, decide_eq_true_iff, lensL_N]
        exact ⟨fun h => by
          obtain ⟨e, he, ee⟩ := List.mem_map.mp h
          rw [← Int.ofNat.inj ee]
          exact he, fun h => List.mem_map.mpr ⟨d, h, rfl⟩⟩
      have lds : ds.length ≤ n := by
        have z : ds.length = ns.length := by rw [← eds, List.length_map]
        omega
      rw [ens]
      obtain ⟨H3, e3⟩ : ∃ H3, upd (upd H2 sA (SetO w sA (fun j => decide (j ∈ lensL R)) k)) q (.lst ((ds.map Int.ofNat).map V.int)) = H3 := ⟨_, rfl⟩
      have x3 : Ex H1 H3 := by rw [← e3]; exact (x2.trans xS).trans (Ex.new nq)
      have hq3 : H3 q = some (.lst ((ds.map Int.ofNat).map V.int)) := by rw [← e3]; exact upd_same
      erw [e3]
      clear e3 nq hm hlen ho pos ens eds
      have hqL : ((ds.map Int.ofNat).map V.int).length = ds.length := by rw [List.length_map, List.length_map]
      refine ⟨.ref q, rfl, q, rfl, ⟨_, sl_at hq3⟩, fun D2 nD2 => ?_⟩
      refine lc_it (walk_list (xs := (ds.map Int.ofNat).map V.int)) (fun i H4 => ∃ Ts : List Addr, Ex H3 H4 ∧ H4 D2 = some (.lst (Ts.map V.ref)) ∧ ByTs H4 Ts (ds.take i) (lensN R) D2) ⟨[], Ex.new nD2, upd_same, .nil⟩ (fun i H4 _ ⟨_, x4, _⟩ => sl_at (x4.i hq3)) (fun i x H4 H5 hi ⟨Ts, x4, hD2, B⟩ ⟨e, hx⟩ => ?_) (fun H4 ⟨Ts, x4, hD2, B⟩ => ?_)
      · subst e
        rw [hqL] at hi
        obtain ⟨d, hd⟩ : ∃ d, ds[i]? = some d := ⟨_, List.getElem?_eq_getElem hi⟩
        have ex : x = .int (d : Int) := by
          rw [List.getElem?_map, nat_at hd] at hx
          exact (Option.some.inj hx).symm
        subst ex
        refine ⟨rfl, yesI ?_⟩
        have hc4 := (x3.trans x4).st _ _ hc refs_norow
        refine ⟨.int d, rfl, .ref c, rfl, c, rfl, ⟨_, sl_at hc4⟩, fun D3 nD3 => ?_⟩
        have D23 : D3 ≠ D2 := Ne.symm (ne_of_none hD2 nD3)
        refine lc_it (walk_list (xs := As.map V.ref)) (fun j H6 => ∃ Bs : List Addr, Ex H5 H6 ∧ H6 D3 = some (.lst (Bs.map V.ref)) ∧ Bs.length = ((lensN R).take j).count d) ⟨[], Ex.new nD3, upd_same, by rw [List.take_zero]; rfl⟩ (fun j H6 _ ⟨_, x6, _⟩ => sl_at (x6.st _ _ hc4 refs_norow)) (fun j y H6 H7 hj ⟨Bs, x6, hD3, hB⟩ ⟨e, hy⟩ => ?_) (fun H6 ⟨Bs, x6, hD3, hB⟩ => ?_)
        · subst e
          rw [hAl] at hj
          have hr : R[j]? = some R[j] := List.getElem?_eq_getElem hj
          obtain ⟨b, hb, hbt⟩ := (hRA.ex ((x3.trans x4).trans x6)).at_ j _ hr
          generalize hri : R[j] = r at hr hbt
          have eb : y = .ref b := by
            rw [List.getElem?_map, hb] at hy
            exact (Option.some.inj hy).symm
          subst eb
          refine ⟨rfl, ?_⟩
          have el : (lensN R)[j]? = some r.length := by unfold lensN; rw [List.getElem?_map, hr]; rfl
          have et : (lensN R).take (j + 1) = (lensN R).take j ++ [r.length] := by rw [List.take_add_one, el]; rfl
          have lB : Bs.length ≤ n := by
            rw [hB]
            have z := List.count_le_length (a := d) (l := (lensN R).take j)
            rw [List.length_take] at z
            omega
          walk_at "sx"
          refine ⟨r.map V.int, .inr (.inl (.inl hbt)), ?_⟩
          rw [List.length_map, et]
          refine ⟨rfl, ite2 (fun g => ?_) (fun g => ?_)⟩
          · have g : r.length = d := by have := of_decide_eq_true g; omega
            refine ⟨_, hD3, by rw [List.length_map]; exact small1000 (by omega), x6.own nD3, Bs ++ [b], by rw [upd_same, List.map_append]; rfl, ?_⟩
            rw [count_snoc, if_pos g, List.length_append, hB]
            rfl
          · have g : r.length ≠ d := fun h => g (by rw [h]; exact decide_eq_true rfl)
            exact ⟨x6, Bs, hD3, by rw [count_snoc, if_neg g, Nat.add_zero]; exact hB⟩
        · rw [hAl, ← show (lensN R).length = R.length from List.length_map .., List.take_length] at hB
          refine ⟨by show 2 ≤ sizeLine; decide, fun t nt => ?_⟩
          have x7 := x6.trans (Ex.new (o := .tup [.int d, .ref D3]) nt)
          have hD7 : upd H6 t (.tup [.int d, .ref D3]) D2 = some (.lst (Ts.map V.ref)) := x7.st _ _ hD2 refs_norow
          have lT : Ts.length ≤ n := by
            rw [B.len, List.length_take]
            omega
          have et : ds.take (i + 1) = ds.take i ++ [d] := by rw [List.take_add_one, hd]; rfl
          have x8 : Ex H3 (upd H6 t (.tup [.int d, .ref D3])) := x4.trans x7
          refine ⟨_, hD7, by rw [List.length_map]; exact small1000 (by omega), Ts ++ [t], x8.own nD2, by rw [upd_same, List.map_append]; rfl, ?_⟩
          rw [et]
          refine ((B.ex x7).upd hD7).more (kp upd_same hD7 (fun z => by cases z)) (b := D3) (Bs := Bs) ?_ D23 hB
          rw [upd_ne D23, upd_ne (ne_of_none hD3 nt)]
          exact hD3
      · rw [hqL, List.take_length] at B
        exact z D2 H4 R Ts ds ((x1.trans x3).trans x4) hF hD2 dnd dall B
theorem ok_centralizer_size (T : TX K mg base) : FnOk P w K mg base CX0 8 (He.ga K "centralizer_size") (fdK K "centralizer_size") ["p"] (spCent K) := by
  refine T.F_centralizer_size.ok sccentralizer_size (fun vs H Q E h => ?_) (fun cdv A outer s H vs Q E hr h => ?_)
  · obtain ⟨a, n, p, rfl, _⟩ := h
    rfl
  · obtain ⟨a, n, p, rfl, hp, h1, h12, hT, z⟩ := h
    refine ⟨_, (pss_cons (ps_expr (pe_call (ok_check_any_permutation T) hr (by rfl) T.g_check_any_permutation T.F_check_any_permutation.kp T.b_check_any_permutation .nil pass0 (pa_cons (pv 0) pa_nil)))
      (pss_cons (ps_set (i := 1) sccentralizer_size.nd rfl (.inl rfl) pe_int)
      (pss_cons (ps_for PassesOwn.never rfl (piL (K := K) rfl (pe_call (ok__by_length T) (hr.mono (by decide)) (by rfl) T.g__by_length T.F__by_length.kp T.b__by_length .nil pass0 (pa_cons (pv 0) pa_nil))) (pg_tup rfl (pgs_cons (pg_name (i := 2) sccentralizer_size.nd rfl (.inl rfl)) (pgs_cons (pg_name (i := 3) sccentralizer_size.nd rfl (.inl rfl)) pgs_nil))) (pss_cons (ps_for PassesOwn.never rfl (piL (K := K) rfl (pv 3)) (pg_name (i := 4) sccentralizer_size.nd rfl (.inl rfl)) (pss_one (ps_set (i := 1) sccentralizer_size.nd rfl (.inl rfl) (pe_op op_mul (pv 1) (pv 2)))))
      (pss_one (ps_set (i := 1) sccentralizer_size.nd rfl (.inl rfl) (pe_op op_mul (pv 1) (pe_callBfun cr_factorial (by rfl) T.n_factorial (pa_cons (pe_callB (lenS (K := K) rfl) (by rfl) T.n_len PySem.boot_len (pa_cons (pv 3) pa_nil)) pa_nil)))))))
      (pss_one (ps_ret (pv 1)))))), ?_⟩
    walk_at "sx"
    refine ⟨.ref a, rfl, hp.good h12, hT, hp.anyB h1 h12, fun H1 x1 => ?_⟩
    refine ⟨.ref a, rfl, a, n, p, rfl, hp.ex x1, h12, fun c H2 R Ts ds x2 hF hc nd all B => ⟨c, rfl, ⟨_, sl_at hc⟩, ?_⟩⟩
    have lR : R.length ≤ n := Nat.le_trans (rows_le hF.cyc.tn) (bd_len hF.cyc.nd hF.cyc.bd)
    have lN : (lensN R).length = R.length := List.length_map ..
    have le12 : ∀ d ∈ lensN R, d ≤ 12 := fun d hd => by
      obtain ⟨r, hr, rfl⟩ := List.mem_map.mp hd
      have b := bd_len (nodup_row hF.cyc.nd r hr) fun x hx => hF.cyc.bd x (List.mem_flatten.mpr ⟨r, hr, hx⟩)
      omega
    refine for_it (walk_list (xs := Ts.map V.ref)) (fun i σ H3 => ∃ y2 y3 y4, σ = [some (.ref a), some (.int ((czL (ds.take i) (lensN R) : Nat) : Int)), y2, y3, y4] ∧ Ex H2 H3)
      ⟨none, none, none, rfl, .refl _⟩ (fun i σ H3 _ ⟨_, _, _, _, x3⟩ => sl_at (x3.st _ _ hc refs_norow)) (fun i x σ H3 H4 hi ⟨y2, y3, y4, es, x3⟩ ⟨e, hx⟩ => ?_) (fun σ H3 ⟨y2, y3, y4, es, x3⟩ => ?_)
    · subst es e
      rw [List.length_map, B.len] at hi
      obtain ⟨d, hd⟩ : ∃ d, ds[i]? = some d := ⟨_, List.getElem?_eq_getElem hi⟩
      obtain ⟨t, b, Bs, ht, tt, hb, _, lB⟩ := (B.ex x3).at_ i d hd
      have ex : x = .ref t := by
        rw [List.getElem?_map, ht] at hx
        exact (Option.some.inj hx).symm
      subst ex
      have d12 := le12 d ((all d).mp (List.mem_of_getElem? hd))
      walk_at "sx"
      have lc12 : Bs.length ≤ 12 := by
        have z := List.count_le_length (a := d) (l := lensN R)
        omega
      refine ⟨_, .inl (.inl tt), rfl, _, _, rfl, _, _, rfl, rfl, .ref b, rfl, b, rfl, ⟨_, sl_at hb⟩, ?_⟩
      refine for_it (walk_list (xs := Bs.map V.ref)) (fun j σ H5 => ∃ y4, σ = [some (.ref a), some (.int ((czL (ds.take i) (lensN R) * d ^ j : Nat) : Int)), some (.int d), some (.ref b), y4] ∧ Ex H4 H5)
        ⟨y4, by rw [Nat.pow_zero, Nat.mul_one], .refl _⟩ (fun j σ H5 _ ⟨_, _, x5⟩ => sl_at (x5.st _ _ hb refs_norow)) (fun j x σ H5 H6 hj ⟨y4, es, x5⟩ ⟨e, _⟩ => ?_) (fun σ H5 ⟨y4, es, x5⟩ => ?_)
      · subst es e
        walk_at "sx"
        refine ⟨.inr ⟨by omega, by omega⟩, some x, ⟨?_, rfl⟩, x5⟩
        rw [Nat.pow_succ, ← Nat.mul_assoc, Int.natCast_mul (_ * d ^ j) d]
      · subst es
        rw [List.length_map]
        have hb5 := x5.st _ _ hb refs_norow
        have f64 := fact_small _ lc12
        refine ⟨_, rfl, .ref b, rfl, b, rfl, _, .inl (sl_at hb5), Bs.length, ?_, by omega, _, _, rfl, rfl, .inr ?_, some (.int d), some (.ref b), y4, ?_, x3.trans x5⟩
        · rw [List.length_map]
        · rw [factN_eq]
          constructor
          · omega
          · exact Int.ofNat_lt.mpr f64
        · rw [List.take_add_one, hd]
          show _ = [_, some (V.int ((czL (ds.take i ++ [d]) (lensN R) : Nat) : Int)), _, _, _]
          rw [czL_app, factN_eq, lB, ← Nat.mul_assoc, Int.natCast_mul (czL (ds.take i) (lensN R) * d ^ _)]
          rfl
    · subst es
      rw [List.length_map, B.len, List.take_length, czL_any nd (es := List.range 13) List.nodup_range (fun x hx => (all x).mpr hx) fun x hx => List.mem_range.mpr (by have := le12 x hx; omega)]
      exact ⟨_, rfl, z H3 R ((x1.trans x2).trans x3) hF⟩
theorem ok__law_taken (T : TX K mg base) : FnOk P w K mg base CX0 1 (He.ga K "_law_taken") (fdK K "_law_taken") ["row", "many"] (spTaken K) := by
  refine T.F__law_taken.ok sc_law_taken (fun vs H Q E h => ?_) (fun cdv A outer s H vs Q E hr h => ?_)
  · obtain ⟨r, s, m, ns, rfl, _⟩ := h
    rfl
  · obtain ⟨r, s0, m, ns, rfl, hR, hS, h1, h2, q⟩ := h
    obtain ⟨i, j, k, hrow, hi, hj, hj2, hk⟩ := id hR
    refine ⟨_, (pss_cons (ps_if (pt_cmpR op_gt (pe_ix (ixL (K := K) rfl) (pv 0) pe_int (fun _ _ => rfl)) pe_int (nomark _)) (pss_cons (ps_set (i := 3) sc_law_taken.nd rfl (.inl rfl) (pe_op op_mod (pe_callTy call_int1 (by rfl) T.n_int boot_int (pa_cons (pe_ix (ixL (K := K) rfl) (pv 0) pe_int (fun _ _ => rfl)) pa_nil)) (pv 1)))
      (pss_cons (ps_asg (pe_op op_fdivW (pe_ix (ixL (K := K) rfl) (pv 0) pe_int (fun _ _ => rfl)) (pv 1)) (pg_sub (pv 0) pe_int set_list (by intro _; rfl)))
      (pss_one (ps_ret (pv 3))))) pss_nil)
      (pss_cons (ps_asg (pe_op op_add (pe_ix (ixL (K := K) rfl) (pv 0) pe_int (fun _ _ => rfl)) pe_int) (pg_sub (pv 0) pe_int set_list (by intro _; rfl)))
      (pss_cons (ps_if (pt_cmpR op_gt (pe_ix (ixL (K := K) rfl) (pv 0) pe_int (fun _ _ => rfl)) (pe_callB (lenS (K := K) rfl) (by rfl) T.n_len PySem.boot_len (pa_cons (pe_ix (ixL (K := K) rfl) (pv 0) pe_int (fun _ _ => rfl)) pa_nil)) (nomark _)) (pss_cons (ps_asg (pe_op op_mod (pe_callTy call_int1 (by rfl) T.n_int boot_int (pa_cons (pe_op op_add (pe_op op_mul (pe_ix (ixL (K := K) rfl) (pv 0) pe_int (fun _ _ => rfl)) pe_int) pe_int) pa_nil)) pe_int) (pg_sub (pv 0) pe_int set_list (by intro _; rfl)))
      (pss_one (ps_ret (pe_op op_mod (pe_callTy call_int1 (by rfl) T.n_int boot_int (pa_cons (pe_op op_fdivW (pe_ix (ixL (K := K) rfl) (pv 0) pe_int (fun _ _ => rfl)) pe_int) pa_nil)) (pv 1))))) pss_nil)
      (pss_cons (ps_set (i := 2) sc_law_taken.nd rfl (.inl rfl) (pe_ix (ixL (K := K) rfl) (pe_ix (ixL (K := K) rfl) (pv 0) pe_int (fun _ _ => rfl)) (pe_op op_sub (pe_ix (ixL (K := K) rfl) (pv 0) pe_int (fun _ _ => rfl)) pe_int) (fun _ _ => rfl)))
      (pss_cons (ps_asg (pe_op op_mod (pe_callTy call_int1 (by rfl) T.n_int boot_int (pa_cons (pe_op op_add (pe_op op_add (pe_op op_mul (pe_ix (ixL (K := K) rfl) (pv 0) pe_int (fun _ _ => rfl)) pe_int) (pv 2)) pe_int) pa_nil)) pe_int) (pg_sub (pv 0) pe_int set_list (by intro _; rfl)))
      (pss_cons (ps_if (pt_cmpR op_ge (pv 2) (pe_op op_pow pe_int pe_int) (nomark _)) (pss_one (ps_asg (pe_op op_fdivW (pv 2) (pv 1)) (pg_sub (pv 0) pe_int set_list (by intro _; rfl)))) pss_nil)
      (pss_one (ps_ret (pe_op op_mod (pe_callTy call_int1 (by rfl) T.n_int boot_int (pa_cons (pv 2) pa_nil)) (pv 1)))))))))), ?_⟩
    have nat : ∀ (x : Int) (H' : Hp), Ex H H' → 0 ≤ x → x < m → Q (.int x) H' := fun x H' e g0 g1 => by
      have := q x.toNat H' e (by omega)
      rwa [Int.toNat_of_nonneg g0] at this
    have md : ∀ x : Int, 0 ≤ x % (m : Int) ∧ x % (m : Int) < m := fun x => ⟨Int.emod_nonneg _ (by omega), Int.emod_lt_of_pos _ (by omega)⟩
    have m31 : ∀ x : Int, 0 ≤ x % 2147483647 ∧ x % 2147483647 < 2147483648 := fun x => ⟨Int.emod_nonneg _ (by omega), by have := Int.emod_lt_of_pos x (show (0 : Int) < 2147483647 by omega); omega⟩
    have dm : ∀ x : Int, CDivW x (m : Int) := fun x => wide_div (b := 64) (by omega) (by omega) (by omega) (by omega)
    have lt10 : (4 : Nat) ≤ sizeLine := by decide
    walk_at "sx"
    refine ⟨_, sl_at hrow, _, rfl, k, rfl, ite2 (fun c => ?_) (fun c => ?_)⟩
    · have c := of_decide_eq_true c
      exact ⟨_, sl_at hrow, _, rfl, .inl ⟨k, rfl, by omega, _, sl_at hrow, _, rfl, k, rfl, dm k, _, hrow, 3, rfl, nat _ _ (Ex.draw hR hi hj hj2 (Int.ediv_nonneg hk (by omega))) (md k).1 (md k).2⟩⟩
    · refine ⟨_, sl_at hrow, _, rfl, i, rfl, _, hrow, 1, rfl, ?_⟩
      have x1 : Ex H (upd H r (.lst [.ref s0, .int (i + 1), .int j, .int k])) := Ex.draw hR (by omega) hj hj2 hk
      have e1 : (upd H r (.lst [.ref s0, .int (i + 1), .int j, .int k])) r = some (.lst [.ref s0, .int (i + 1), .int j, .int k]) := upd_same
      have R1 : RowAt (upd H r (.lst [.ref s0, .int (i + 1), .int j, .int k])) r s0 := ⟨_, _, _, e1, by omega, hj, hj2, hk⟩
      have hS1 := x1.l ints_norow hS
      refine ⟨_, sl_at e1, _, rfl, _, sl_at e1, _, rfl, s0, rfl, ns.map V.int, .inl hS1, i + 1, rfl, ite2 (fun c2 => ?_) (fun c2 => ?_)⟩
      · have e2 : (upd (upd H r (.lst [.ref s0, .int (i + 1), .int j, .int k])) r (.lst [.ref s0, .int (i + 1), .int ((j * 48271 + 11) % 2147483647), .int k])) r = some (.lst [.ref s0, .int (i + 1), .int ((j * 48271 + 11) % 2147483647), .int k]) := upd_same
        have x2 := x1.trans (Ex.draw R1 (show 0 ≤ i + 1 by omega) (m31 (j * 48271 + 11)).1 (m31 (j * 48271 + 11)).2 hk)
        refine ⟨_, sl_at e1, _, rfl, j, rfl, .inl ⟨by omega, by omega⟩, by omega, _, e1, 2, rfl, _, sl_at e2, _, rfl, _, rfl, ⟨by omega, by decide⟩, by omega, ?_⟩
        exact nat _ _ x2 (md _).1 (md _).2
      · have c2 : ¬ (((ns.map V.int).length : Int) < i + 1) := fun z => c2 (decide_eq_true z)
        have hil : i.toNat < ns.length := by rw [List.length_map] at c2; omega
        obtain ⟨cell, hc⟩ : ∃ cell, ns[i.toNat]? = some cell := ⟨_, List.getElem?_eq_getElem hil⟩
        refine ⟨_, sl_at e1, _, rfl, _, sl_at e1, _, rfl, i + 1, rfl, s0, rfl, ns.map V.int, hS1, .int cell, ?_, ?_⟩
        · rw [Int.add_sub_cancel]
          exact at_int hi hc
        have x2 := x1.trans (Ex.draw R1 (show 0 ≤ i + 1 by omega) (m31 (j * 48271 + cell + 11)).1 (m31 (j * 48271 + cell + 11)).2 hk)
        have e2 : (upd (upd H r (.lst [.ref s0, .int (i + 1), .int j, .int k])) r (.lst [.ref s0, .int (i + 1), .int ((j * 48271 + cell + 11) % 2147483647), .int k])) r = some (.lst [.ref s0, .int (i + 1), .int ((j * 48271 + cell + 11) % 2147483647), .int k]) := upd_same
        refine ⟨_, sl_at e1, _, rfl, j, rfl, .inl ⟨by omega, by omega⟩, ?_⟩
        have R2 : RowAt (upd (upd H r (.lst [.ref s0, .int (i + 1), .int j, .int k])) r (.lst [.ref s0, .int (i + 1), .int ((j * 48271 + cell + 11) % 2147483647), .int k])) r s0 := ⟨_, _, _, e2, by omega, (m31 _).1, (m31 _).2, hk⟩
        refine ⟨cell, rfl, by omega, _, e1, 2, rfl, ⟨by omega, by omega, by decide⟩, cell, rfl, ite2 (fun c3 => ?_) (fun c3 => ?_)⟩
        · have c3 := of_decide_eq_true c3
          have c0 : 0 ≤ cell := Int.le_trans (by decide) c3
          exact ⟨cell, rfl, dm _, _, e2, 3, rfl, .inl ⟨cell, rfl, by omega, nat _ _ (x2.trans (Ex.draw R2 (by omega) (m31 _).1 (m31 _).2 (Int.ediv_nonneg c0 (by omega)))) (md _).1 (md _).2⟩⟩
        · exact .inl ⟨cell, rfl, by omega, nat _ _ x2 (md _).1 (md _).2⟩
theorem ok__law_alike0 (T : TX K mg base) : FnOk P w K mg base CX0 1 (He.ga K "_law_alike") (fdK K "_law_alike") ["found", "due"] spAlike0 := by
  refine T.F__law_alike.ok sc_law_alike (fun vs H Q E h => ?_) (fun cdv A outer s H vs Q E hr h => ?_)
  · obtain ⟨x, y, rfl, _⟩ := h
    rfl
  · obtain ⟨x, y, rfl, q⟩ := h
    refine ⟨_, (pss_cons (ps_if (pt_val (pe_callB (isiTK (K := K) rfl) (by rfl) T.n_isinstance (by decide +kernel) (pa_cons (pv 1) (pa_cons (pe_tup (pa_cons (pe_bltn (v := .ty "tuple") (by rfl) T.n_tuple (by decide +kernel) rfl) (pa_cons (pe_bltn (v := .ty "list") (by rfl) T.n_list (by decide +kernel) rfl) pa_nil))) pa_nil)))) pss_never pss_nil)
      (pss_cons (ps_if (PW.pt (pw_or (pt_cmpR op_isN (pv 1) pe_non (nomark _)) (pw_or1 (pt_val (pe_callB (isiK (K := K) rfl) (by rfl) T.n_isinstance (by decide +kernel) (pa_cons (pv 1) (pa_cons (pe_bltn (v := .ty "str") (by rfl) T.n_str (by decide +kernel) rfl) pa_nil))))))) (pss_one (ps_ret (pe_and (pe_cmpR (eqD (K := K) rfl hr) (pv 0) (pv 1) (nomark _)) (pe_one (pe_cmpR op_eq (pe_callB (isiK (K := K) rfl) (by rfl) T.n_isinstance (by decide +kernel) (pa_cons (pv 0) (pa_cons (pe_bltn (v := .ty "str") (by rfl) T.n_str (by decide +kernel) rfl) pa_nil))) (pe_callB (isiK (K := K) rfl) (by rfl) T.n_isinstance (by decide +kernel) (pa_cons (pv 1) (pa_cons (pe_bltn (v := .ty "str") (by rfl) T.n_str (by decide +kernel) rfl) pa_nil))) (nomark _)))))) pss_nil)
      (pss_one (ps_ret (pe_and (pe_callB (isiK (K := K) rfl) (by rfl) T.n_isinstance (by decide +kernel) (pa_cons (pv 0) (pa_cons (pe_bltn (v := .ty "int") (by rfl) T.n_int (by decide +kernel) rfl) pa_nil))) (pe_and (pe_cmpR op_eq (pe_callB (isiK (K := K) rfl) (by rfl) T.n_isinstance (by decide +kernel) (pa_cons (pv 0) (pa_cons (pe_bltn (v := .ty "bool") (by rfl) T.n_bool (by decide +kernel) rfl) pa_nil))) (pe_callB (isiK (K := K) rfl) (by rfl) T.n_isinstance (by decide +kernel) (pa_cons (pv 1) (pa_cons (pe_bltn (v := .ty "bool") (by rfl) T.n_bool (by decide +kernel) rfl) pa_nil))) (nomark _)) (pe_one (pe_cmpR (eqD (K := K) rfl hr) (pv 0) (pv 1) (nomark _))))))))), ?_⟩
    walk_at "sx"
    refine ⟨by show 2 ≤ sizeLine; decide, fun t nt => ?_⟩
    have e : PyData.eqv (.int x) (.int y) = decide (x = y) := by rfl
    refine isit_q (b := false) (c := false) (tyx_int y) upd_same (by decide +kernel) (by decide +kernel) ⟨_, rfl, iteF ?_⟩
    refine iteF (isi_q (b := false) (tyx_int y) (by decide +kernel) ⟨_, rfl, iteF ?_⟩)
    refine isi_q (b := true) (tyx_int x) (by decide +kernel) ⟨_, rfl, iteT ?_⟩
    refine isi_q (b := false) (tyx_int x) (by decide +kernel) (isi_q (b := false) (tyx_int y) (by decide +kernel) ⟨rfl, ?_⟩)
    refine iteT ⟨.int x, .int y, .int x, .int y, rfl, rfl, ?_⟩
    rw [e]
    exact q _ (Ex.new nt)
theorem ok__law_alike (T : TX K mg base) : FnOk P w K mg base CX0 2 (He.ga K "_law_alike") (fdK K "_law_alike") ["found", "due"] spAlike := by
  refine T.F__law_alike.ok sc_law_alike (fun vs H Q E h => ?_) (fun cdv A outer s H vs Q E hr h => ?_)
  · obtain ⟨x, y, _, rfl, _⟩ := h
    rfl
  · obtain ⟨a, b, ns, rfl, ha, hb, hn, q⟩ := h
    refine ⟨_, (pss_cons (ps_if (pt_val (pe_callB (isiTK (K := K) rfl) (by rfl) T.n_isinstance (by decide +kernel) (pa_cons (pv 1) (pa_cons (pe_tup (pa_cons (pe_bltn (v := .ty "tuple") (by rfl) T.n_tuple (by decide +kernel) rfl) (pa_cons (pe_bltn (v := .ty "list") (by rfl) T.n_list (by decide +kernel) rfl) pa_nil))) pa_nil)))) (pss_cons (ps_if (PW.pt (pw_or (pt_not (pt_val (pe_callB (isiTK (K := K) rfl) (by rfl) T.n_isinstance (by decide +kernel) (pa_cons (pv 0) (pa_cons (pe_tup (pa_cons (pe_bltn (v := .ty "tuple") (by rfl) T.n_tuple (by decide +kernel) rfl) (pa_cons (pe_bltn (v := .ty "list") (by rfl) T.n_list (by decide +kernel) rfl) pa_nil))) pa_nil))))) (pw_or1 (pt_cmpR op_ne (pe_callB (isiK (K := K) rfl) (by rfl) T.n_isinstance (by decide +kernel) (pa_cons (pv 0) (pa_cons (pe_bltn (v := .ty "list") (by rfl) T.n_list (by decide +kernel) rfl) pa_nil))) (pe_callB (isiK (K := K) rfl) (by rfl) T.n_isinstance (by decide +kernel) (pa_cons (pv 1) (pa_cons (pe_bltn (v := .ty "list") (by rfl) T.n_list (by decide +kernel) rfl) pa_nil))) (nomark _))))) (pss_one (ps_ret pe_bl)) pss_nil)
      (pss_cons (ps_if (pt_cmpR op_ne (pe_callB (lenS (K := K) rfl) (by rfl) T.n_len PySem.boot_len (pa_cons (pv 0) pa_nil)) (pe_callB (lenS (K := K) rfl) (by rfl) T.n_len PySem.boot_len (pa_cons (pv 1) pa_nil)) (nomark _)) (pss_one (ps_ret pe_bl)) pss_nil)
      (pss_one (ps_ret (pe_cmpR (eqD (K := K) rfl hr) (pe_lc (own := [("k", 2)]) (g := gName 2)  rfl sc_law_alike.nd (pi_range1 (by rfl) T.n_range (pa_cons (pe_callB (lenS (K := K) rfl) (by rfl) T.n_len PySem.boot_len (pa_cons (pv 1) pa_nil)) pa_nil)) (blkOk_by (N := ["found", "due", "k"]) (sc := defScope s_law_alike) (by decide +kernel)) (fun _ _ _ _ _ => (pg_name (i := 2) sc_law_alike.nd rfl (.inl rfl))) (fun _ _ _ _ _ => (pts_one (pt_not (pt_val (pe_call (ok__law_alike0 T) hr (by rfl) T.g__law_alike T.F__law_alike.kp T.b__law_alike .nil pass0 (pa_cons (pe_ix (ixT (K := K) rfl) (pv 0) (pv 2) (fun _ _ => rfl)) (pa_cons (pe_ix (ixT (K := K) rfl) (pv 1) (pv 2) (fun _ _ => rfl)) pa_nil))))))) (fun _ _ _ _ _ => (pv 2))) (pe_lst pa_nil) (nomark _)))))) pss_nil)
      pss_never), ?_⟩
    walk_at "sx"
    refine ⟨by show 2 ≤ sizeLine; decide, fun t nt => ?_⟩
    have x1 : Ex H (upd H t (.tup [.ty "tuple", .ty "list"])) := Ex.new nt
    refine isit_q (b := true) (c := false) (tyx_tup (x1.st _ _ hb trivial)) upd_same (by decide +kernel) (by decide +kernel) ⟨_, rfl, iteT ?_⟩
    refine ⟨by show 2 ≤ sizeLine; decide, fun t2 nt2 => ?_⟩
    have x2 := x1.trans (Ex.new (o := .tup [.ty "tuple", .ty "list"]) nt2)
    have ha2 := x2.st _ _ ha trivial
    have hb2 := x2.st _ _ hb trivial
    refine isit_q (b := true) (c := false) (tyx_tup ha2) upd_same (by decide +kernel) (by decide +kernel) ⟨_, rfl, iteF ?_⟩
    refine isi_q (b := false) (tyx_tup ha2) (by decide +kernel) (isi_q (b := false) (tyx_tup hb2) (by decide +kernel) ⟨rfl, iteF ?_⟩)
    have hlen : (ns.map V.int).length = ns.length := List.length_map ..
    refine ⟨ns.map V.int, .inr (.inl (.inl ha2)), ns.map V.int, .inr (.inl (.inl hb2)), rfl, ?_⟩
    rw [decide_eq_true rfl]
    refine iteF ⟨.ref b, rfl, b, rfl, ns.map V.int, .inr (.inl (.inl hb2)), ((ns.map V.int).length : Int), rfl, by omega, by omega, fun D nD => ?_⟩
    have eln : (((ns.map V.int).length : Nat) : Int).toNat = ns.length := by omega
    refine lc_it walk_range (fun i H1 => Ex H H1 ∧ H1 D = some (.lst [])) ⟨x2.trans (Ex.new nD), upd_same⟩ (fun _ _ _ _ => trivial) (fun i x H1 H2 hi ⟨x3, hD⟩ ⟨e, ex⟩ => ?_) (fun H1 ⟨x3, hD⟩ => ?_)
    · subst e ex
      rw [eln] at hi
      have ei : (0 + (i : Int)).toNat = i := by omega
      have hv : ns[i]? = some ns[i] := List.getElem?_eq_getElem hi
      have hat : atI (ns.map V.int) (0 + (i : Int)) = some (.int ns[i]) := at_int (by omega) (by rw [ei]; exact hv)
      refine ⟨rfl, .ref a, rfl, .int (0 + (i : Int)), rfl, a, _, _, .int ns[i], rfl, rfl, x3.t (.inl (.inl ha)), hat, .ref b, rfl, .int (0 + (i : Int)), rfl, b, _, _, .int ns[i], rfl, rfl, x3.t (.inl (.inl hb)), hat, ns[i], ns[i], rfl, fun H' x4 => ⟨_, rfl, ?_⟩⟩
      rw [decide_eq_true rfl]
      exact iteF ⟨x3.trans x4, x4.st _ _ hD nil_norow⟩
    · refine ⟨Nat.zero_le _, fun p np => ⟨.list [], .list [], dp_nil (by rw [upd_ne (ne_of_none hD np)]; exact hD), dp_nil upd_same, rfl, rfl, q _ (x3.trans (Ex.new np))⟩⟩
theorem ok__law_unit (T : TX K mg base) : FnOk P w K mg base CX0 1 (He.ga K "_law_unit") (fdK K "_law_unit") ["degree"] spLawUnit := by
  refine T.F__law_unit.ok sc_law_unit (fun vs H Q E h => ?_) (fun cdv A outer s H vs Q E hr h => ?_)
  · obtain ⟨n, rfl, _⟩ := h
    rfl
  · obtain ⟨n, rfl, hn, q⟩ := h
    refine ⟨_, (pss_one (ps_ret (pe_tupRg rfl (by rfl) T.n_tuple (prg_1 (by rfl) T.n_range (pv 0))))), ?_⟩
    walk_at "sx"
    refine ⟨.of_le (by omega) (by omega) (by omega) (by omega), fun a na => ?_⟩
    exact q a _ (Ex.new na) ⟨by rw [upd_same, rg_ints]; rfl, unit_pm n⟩
theorem ok__law_mul (T : TX K mg base) : FnOk P w K mg base CX0 1 (He.ga K "_law_mul") (fdK K "_law_mul") ["p", "q"] spLawMul := by
  refine T.F__law_mul.ok sc_law_mul (fun vs H Q E h => ?_) (fun cdv A outer s H vs Q E hr h => ?_)
  · obtain ⟨a, b, n, p, q, rfl, _⟩ := h
    rfl
  · obtain ⟨a, b, n, p, q, rfl, hp, hq, hn, z⟩ := h
    refine ⟨_, (pss_one (ps_ret (pe_tupK (K := K) rfl (by rfl) T.n_tuple (pe_lc (own := [("image", 2)]) (g := gName 2) (tt := tYes) rfl sc_law_mul.nd (piT (K := K) rfl (pv 0)) (blkOk_by (N := ["p", "q", "image"]) (sc := defScope s_law_mul) (by decide +kernel)) (fun _ _ _ _ _ => (pg_name (i := 2) sc_law_mul.nd rfl (.inl rfl))) (fun _ _ _ _ _ => pts_nil) (fun _ _ _ _ _ => (pe_ix (ixT (K := K) rfl) (pv 1) (pv 2) (fun _ _ => rfl))))))), ?_⟩
    walk_at "sx"
    refine ⟨.ref a, rfl, a, rfl, ⟨_, .inl (.inl hp.at_)⟩, fun D nD => ?_⟩
    have hl : (p.map V.int).length = n := by rw [List.length_map, hp.is.len]
    refine lc_it (walk_tup (xs := p.map V.int)) (fun i H1 => Ex H H1 ∧ H1 D = some (.lst (((mulL p q).take i).map V.int))) ⟨Ex.new nD, upd_same⟩ (fun i H1 _ h => h.1.t (.inl (.inl hp.at_))) (fun i x H1 H2 hi ⟨x1, hD⟩ ⟨e, hx⟩ => ?_) (fun H1 ⟨x1, hD⟩ => ?_)
    · subst e
      rw [hl] at hi
      obtain ⟨y, hy, h0, hb⟩ := hp.is.get hi
      have ex : x = .int y := by
        rw [List.getElem?_map, hy] at hx
        exact (Option.some.inj hx).symm
      subst ex
      obtain ⟨u, hu, _⟩ := hq.is.get (i := y.toNat) (by omega)
      refine ⟨rfl, yesI ⟨.ref b, rfl, .int y, rfl, b, _, y, .int u, rfl, rfl, x1.t (.inl (.inl hq.at_)), at_int h0 hu, _, hD, ?_, x1.own nD, ?_⟩⟩
      · rw [List.length_map, List.length_take]
        have : (mulL p q).length = n := by unfold mulL; rw [List.length_map, hp.is.len]
        exact small1000 (by omega)
      · rw [upd_same, mul_take hy, getD_of hu, List.map_append]
        rfl
    · have hml : (mulL p q).length = n := by unfold mulL; rw [List.length_map, hp.is.len]
      rw [hl, List.take_of_length_le (by omega)] at hD
      refine .inl ⟨D, rfl, _, sl_at hD, fun c nc => z c _ (x1.trans (Ex.new nc)) ⟨upd_same, mulL_pm hp.is hq.is⟩⟩
theorem ok__law_inv (T : TX K mg base) : FnOk P w K mg base CX0 1 (He.ga K "_law_inv") (fdK K "_law_inv") ["p"] spLawInv := by
  refine T.F__law_inv.ok sc_law_inv (fun vs H Q E h => ?_) (fun cdv A outer s H vs Q E hr h => ?_)
  · obtain ⟨a, n, p, rfl, _⟩ := h
    rfl
  · obtain ⟨a, n, p, rfl, hp, hn, z⟩ := h
    refine ⟨_, (pss_cons (ps_set (i := 1) sc_law_inv.nd rfl (.inl rfl) (pe_op op_rep (pe_lst (pa_cons pe_int pa_nil)) (pe_callB (lenS (K := K) rfl) (by rfl) T.n_len PySem.boot_len (pa_cons (pv 0) pa_nil))))
      (pss_cons (ps_for PassesOwn.never rfl (pi_range1 (by rfl) T.n_range (pa_cons (pe_callB (lenS (K := K) rfl) (by rfl) T.n_len PySem.boot_len (pa_cons (pv 0) pa_nil)) pa_nil)) (pg_name (i := 2) sc_law_inv.nd rfl (.inl rfl)) (pss_one (ps_asg (pv 2) (pg_sub (pv 1) (pe_ix (ixT (K := K) rfl) (pv 0) (pv 2) (fun _ _ => rfl)) set_list (by intro _; rfl)))))
      (pss_one (ps_ret (pe_tupK (K := K) rfl (by rfl) T.n_tuple (pv 1)))))), ?_⟩
    walk_at "sx"
    have hlp : (p.map V.int).length = n := by rw [List.length_map, hp.is.len]
    refine ⟨by show 1 ≤ sizeLine; decide, fun l nl => ?_⟩
    have xl : Ex H (upd H l (.lst [V.int 0])) := Ex.new nl
    have hA : SqT K (upd H l (.lst [V.int 0])) a (p.map V.int) := xl.t (.inl (.inl hp.at_))
    refine ⟨p.map V.int, .inr hA, [V.int 0], upd_same, by omega, by omega, by rw [hlp]; exact Nat.le_of_lt (small1000 (by show 1 * ((n : Nat) : Int).toNat ≤ 1000; omega)), fun o no => ?_⟩
    have no0 := xl.no _ no
    have xo : Ex H (upd (upd H l (.lst [V.int 0])) o (.lst (List.replicate ((p.map V.int).length : Int).toNat [V.int 0]).flatten)) := xl.trans (Ex.new no)
    have en : ((n : Nat) : Int).toNat = n := by omega
    refine ⟨.ref a, rfl, a, rfl, p.map V.int, .inr (xo.t (.inl (.inl hp.at_))), (n : Int), by rw [hlp], by omega, by omega, for_it walk_range (fun i σ H1 => ∃ y2 L, σ = [some (.ref a), some (.ref o), y2] ∧ Ex H H1 ∧ H1 o = some (.lst (L.map V.int)) ∧ Filled n p (fun j => (j : Int)) i L)
      ⟨none, List.replicate n 0, rfl, xo, ?_, Filled.start⟩ (fun _ _ _ _ _ => trivial) (fun i x σ H1 H2 hi ⟨y2, L, es, x1, hO, hF⟩ ⟨e, ex⟩ => ?_) (fun σ H1 ⟨y2, L, es, x1, hO, hF⟩ => ?_)⟩
    · rw [upd_same, hlp, en, rep_flat]
    · subst es e ex
      rw [en] at hi
      obtain ⟨y, hy, h0, hb⟩ := hp.is.get hi
      have ei : (0 + (i : Int)).toNat = i := by omega
      refine ⟨.int (0 + (i : Int)), rfl, .ref o, rfl, .ref a, rfl, .int (0 + (i : Int)), rfl, a, _, _, .int y, rfl, rfl, x1.t (.inl (.inl hp.at_)), at_int (by omega) (by rw [ei]; exact hy), o, _, y, y.toNat, rfl, rfl, hO, ixN_of h0 (by rw [List.length_map, hF.len]; exact hb), ?_⟩
      refine ⟨some (.int (0 + (i : Int))), L.set y.toNat i, rfl, x1.own no0, ?_, hF.step hp.is hy⟩
      rw [upd_same, Int.zero_add, set_map]
    · subst es
      rw [en] at hF
      have eL : L = invL p := hF.uniq hp.is (invL_filled hp.is)
      subst eL
      exact ⟨.ref o, rfl, .inl ⟨o, _, rfl, sl_at hO, fun c nc => z c _ (x1.trans (Ex.new nc)) ⟨upd_same, invL_pm hp.is⟩⟩⟩
theorem ok__law_conj (T : TX K mg base) : FnOk P w K mg base CX0 2 (He.ga K "_law_conj") (fdK K "_law_conj") ["p", "g"] spLawConj := by
  refine T.F__law_conj.ok sc_law_conj (fun vs H Q E h => ?_) (fun cdv A outer s H vs Q E hr h => ?_)
  · obtain ⟨a, b, n, p, q, rfl, _⟩ := h
    rfl
  · obtain ⟨a, b, n, p, g, rfl, hp, hg, hn, z⟩ := h
    refine ⟨_, (pss_one (ps_ret (pe_call (ok__law_mul T) hr (by rfl) T.g__law_mul T.F__law_mul.kp T.b__law_mul .nil pass0 (pa_cons (pe_call (ok__law_mul T) hr (by rfl) T.g__law_mul T.F__law_mul.kp T.b__law_mul .nil pass0 (pa_cons (pe_call (ok__law_inv T) hr (by rfl) T.g__law_inv T.F__law_inv.kp T.b__law_inv .nil pass0 (pa_cons (pv 1) pa_nil)) (pa_cons (pv 0) pa_nil))) (pa_cons (pv 1) pa_nil))))), ?_⟩
    walk_at "sx"
    refine ⟨b, n, g, rfl, hg, hn, fun c H1 x1 e1 => ?_⟩
    refine ⟨c, a, n, _, p, rfl, e1, hp.ex x1, hn, fun d H2 x2 e2 => ?_⟩
    exact ⟨d, b, n, _, g, rfl, e2, hg.ex (x1.trans x2), hn, fun f H3 x3 e3 => z f H3 _ ((x1.trans x2).trans x3) e3 rfl⟩
theorem ok__law_is_perm (T : TX K mg base) : FnOk P w K mg base CX0 1 (He.ga K "_law_is_perm") (fdK K "_law_is_perm") ["degree", "value"] spIsPerm := by
  refine T.F__law_is_perm.ok sc_law_is_perm (fun vs H Q E h => ?_) (fun cdv A outer s H vs Q E hr h => ?_)
  · obtain ⟨x, y, _, rfl, _⟩ := h
    rfl
  · obtain ⟨a, n, p, rfl, hp, hn, q⟩ := h
    refine ⟨_, (pss_cons (ps_if (PW.pt (pw_or (pt_not (pt_val (pe_callB (isiK (K := K) rfl) (by rfl) T.n_isinstance (by decide +kernel) (pa_cons (pv 1) (pa_cons (pe_bltn (v := .ty "tuple") (by rfl) T.n_tuple (by decide +kernel) rfl) pa_nil))))) (pw_or1 (pt_cmpR op_ne (pe_callB (lenS (K := K) rfl) (by rfl) T.n_len PySem.boot_len (pa_cons (pv 1) pa_nil)) (pv 0) (nomark _))))) (pss_one (ps_ret pe_bl)) pss_nil)
      (pss_cons (ps_if (pt_cmpR (neD (K := K) rfl hr) (pe_lc (own := [("image", 2)]) (g := gName 2)  rfl sc_law_is_perm.nd (piT (K := K) rfl (pv 1)) (blkOk_by (N := ["degree", "value", "image"]) (sc := defScope s_law_is_perm) (by decide +kernel)) (fun _ _ _ _ _ => (pg_name (i := 2) sc_law_is_perm.nd rfl (.inl rfl))) (fun _ _ _ _ _ => (pts_one (PW.pt (pw_or (pt_not (pt_val (pe_callB (isiK (K := K) rfl) (by rfl) T.n_isinstance (by decide +kernel) (pa_cons (pv 2) (pa_cons (pe_bltn (v := .ty "int") (by rfl) T.n_int (by decide +kernel) rfl) pa_nil))))) (pw_or1 (pt_val (pe_callB (isiK (K := K) rfl) (by rfl) T.n_isinstance (by decide +kernel) (pa_cons (pv 2) (pa_cons (pe_bltn (v := .ty "bool") (by rfl) T.n_bool (by decide +kernel) rfl) pa_nil))))))))) (fun _ _ _ _ _ => (pv 2))) (pe_lst pa_nil) (nomark _)) (pss_one (ps_ret pe_bl)) pss_nil)
      (pss_one (ps_ret (pe_cmpR (eqD (K := K) rfl hr) (pe_callB (srtT (K := K) rfl) (by rfl) T.n_sorted (by decide +kernel) (pa_cons (pv 1) pa_nil)) (pe_listRg rfl (by rfl) T.n_list (prg_1 (by rfl) T.n_range (pv 0))) (nomark _)))))), ?_⟩
    walk_at "sx"
    have hlp : (p.map V.int).length = n := by rw [List.length_map, hp.is.len]
    refine isi_q (b := true) (tyx_tup hp.at_) (by decide +kernel) ⟨_, rfl, iteF ?_⟩
    refine ⟨p.map V.int, .inr (.inl (.inl hp.at_)), by rw [hlp]; rfl, ?_⟩
    rw [hlp, decide_eq_true rfl]
    refine iteF ⟨.ref a, rfl, a, rfl, ⟨_, .inl (.inl hp.at_)⟩, fun D nD => ?_⟩
    refine lc_it (walk_tup (xs := p.map V.int)) (fun i H1 => Ex H H1 ∧ H1 D = some (.lst [])) ⟨Ex.new nD, upd_same⟩ (fun i H1 _ h => h.1.t (.inl (.inl hp.at_))) (fun i x H1 H2 hi ⟨x1, hD⟩ ⟨e, hx⟩ => ?_) (fun H1 ⟨x1, hD⟩ => ?_)
    · subst e
      rw [hlp] at hi
      obtain ⟨y, hy, h0, hb⟩ := hp.is.get hi
      have ex : x = .int y := by
        rw [List.getElem?_map, hy] at hx
        exact (Option.some.inj hx).symm
      subst ex
      refine ⟨rfl, ?_⟩
      walk_at "sx"
      refine isi_q (b := true) (tyx_int y) (by decide +kernel) ⟨_, rfl, iteF ?_⟩
      exact isi_q (b := false) (tyx_int y) (by decide +kernel) ⟨_, rfl, iteF ⟨x1, hD⟩⟩
    · refine ⟨Nat.zero_le _, fun e ne => ⟨.list [], .list [], dp_nil (by rw [upd_ne (ne_of_none hD ne)]; exact hD), dp_nil upd_same, rfl, rfl, _, rfl, ?_⟩⟩
      have x2 := x1.trans (Ex.new (o := .lst []) ne)
      have ee : PyData.eqv (.list []) (.list []) = true := by rfl
      rw [ee]
      refine iteF ⟨a, p, rfl, x2.t (.inl (.inl hp.at_)), fun ns' c hpm hsrt nc => ⟨.of_le (by omega) (by omega) (by omega) (by omega), fun d nd => ?_⟩⟩
      rw [rg_ints]
      have e1 : ns' = unitL n := srt_unit hp.is hpm hsrt
      subst e1
      have x3 := x2.trans (Ex.new (o := .lst ((unitL n).map V.int)) nc)
      refine ⟨.list ((unitL n).map PyData.int), .list ((unitL n).map PyData.int), dp_ints (by rw [upd_ne (ne_of_none upd_same nd)]; exact upd_same), dp_ints upd_same, PySem.W.ke_shaped_ints _, PySem.W.ke_shaped_ints _, ?_⟩
      rw [SeqAt.eqv_refl _ (canLay_ints _)]
      exact q _ (x3.trans (Ex.new nd))
theorem ok__law_perm (T : TX K mg base) : FnOk P w K mg base CX0 2 (He.ga K "_law_perm") (fdK K "_law_perm") ["row", "degree"] (spLawPerm K) := by
  refine T.F__law_perm.ok sc_law_perm (fun vs H Q E h => ?_) (fun cdv A outer s H vs Q E hr h => ?_)
  · obtain ⟨r, s, m, ns, rfl, _⟩ := h
    rfl
  · obtain ⟨r, s0, n, ns, rfl, hR, hS, h1, h2, z⟩ := h
    refine ⟨_, (pss_cons (ps_set (i := 2) sc_law_perm.nd rfl (.inl rfl) (pe_listRg rfl (by rfl) T.n_list (prg_1 (by rfl) T.n_range (pv 1))))
      (pss_cons (ps_for PassesOwn.never rfl (pi_range1 (by rfl) T.n_range (pa_cons (pe_op op_sub (pv 1) pe_int) pa_nil)) (pg_name (i := 3) sc_law_perm.nd rfl (.inl rfl)) (pss_cons (ps_set (i := 4) sc_law_perm.nd rfl (.inl rfl) (pe_op op_add (pv 3) (pe_call (ok__law_taken T) hr (by rfl) T.g__law_taken T.F__law_taken.kp T.b__law_taken .nil pass0 (pa_cons (pv 0) (pa_cons (pe_op op_sub (pv 1) (pv 3)) pa_nil)))))
      (pss_one (ps_asg (pe_tup (pa_cons (pe_ix (ixL (K := K) rfl) (pv 2) (pv 4) (fun _ _ => rfl)) (pa_cons (pe_ix (ixL (K := K) rfl) (pv 2) (pv 3) (fun _ _ => rfl)) pa_nil))) (pg_tup rfl (pgs_cons (pg_sub (pv 2) (pv 3) set_list (by intro _; rfl)) (pgs_cons (pg_sub (pv 2) (pv 4) set_list (by intro _; rfl)) pgs_nil)))))))
      (pss_one (ps_ret (pe_tupK (K := K) rfl (by rfl) T.n_tuple (pv 2)))))), ?_⟩
    walk_at "sx"
    refine ⟨.of_le (by omega) (by omega) (by omega) (by omega), fun l nl => ?_⟩
    rw [rg_ints]
    have xl : Ex H (upd H l (.lst ((unitL n).map V.int))) := Ex.new nl
    refine ⟨.int n, rfl, n, 1, rfl, rfl, (n : Int) - 1, rfl, by omega, by omega, for_it walk_range (fun i σ H1 => ∃ y3 y4 L, σ = [some (.ref r), some (.int n), some (.ref l), y3, y4] ∧ Ex H H1 ∧ H1 l = some (.lst (L.map V.int)) ∧ IsPm n L)
      ⟨none, none, unitL n, rfl, xl, upd_same, unit_pm n⟩ (fun _ _ _ _ _ => trivial) (fun i x σ H1 H2 hi ⟨y3, y4, L, es, x1, hL, hP⟩ ⟨e, ex⟩ => ?_) (fun σ H1 ⟨y3, y4, L, es, x1, hL, hP⟩ => ?_)⟩
    · subst es e ex
      have hi' : i + 1 < n := by omega
      obtain ⟨u, hu, _⟩ := hP.get (i := i) (by omega)
      walk_at "sx"
      refine ⟨r, s0, n - i, ns, ?_, x1.row _ _ hR, x1.l ints_norow hS, by omega, by omega, fun j H3 x3 hj => ?_⟩
      · simp only [List.cons.injEq, V.int.injEq, and_true, true_and]
        omega
      have hL3 := x3.i hL
      obtain ⟨v, hv, _⟩ := hP.get (i := i + j) (by omega)
      have eij : (0 + (i : Int) + (j : Int)).toNat = i + j := by omega
      have ei : (0 + (i : Int)).toNat = i := by omega
      have x4 := x1.trans x3
      refine ⟨j, rfl, _, sl_at hL3, .int v, at_int (by omega) (by rw [eij]; exact hv), _, sl_at hL3, .int u, at_int (by omega) (by rw [ei]; exact hu), by decide, fun T nT => ?_⟩
      have hL4 : (upd H3 T (.tup [.int v, .int u])) l = some (.lst (L.map V.int)) := by
        rw [upd_ne (ne_of_none hL3 nT)]
        exact hL3
      refine ⟨[.int v, .int u], sq_new, rfl, .int v, [.int u], rfl, _, hL4, i, ?_, .int u, [], rfl, _, upd_same, i + j, ?_, rfl, some (.int (0 + (i : Int))), some (.int (0 + (i : Int) + j)), ⟨rfl, rfl⟩, ((x4.trans (Ex.new nT)).own nl).own nl, (L.set i v).set (i + j) u, ?_, hP.swap hu hv⟩
      · rw [ixN_of (by omega) (by rw [List.length_map, hP.len]; omega), ei]
      · rw [ixN_of (by omega) (by rw [List.length_set, List.length_map, hP.len]; omega), eij]
      · rw [upd_same, set_map, set_map]
    · subst es
      exact ⟨.ref l, rfl, .inl ⟨l, _, rfl, sl_at hL, fun c nc => z c _ L (x1.trans (Ex.new nc)) ⟨upd_same, hP⟩⟩⟩
theorem ok__law_closure (T : TX K mg base) : FnOk P w K mg base CX0 2 (He.ga K "_law_closure") (fdK K "_law_closure") ["degree", "gens"] spClosure := by
  refine T.F__law_closure.ok sc_law_closure (fun vs H Q E h => ?_) (fun cdv A outer s H vs Q E hr h => ?_)
  · obtain ⟨t, a, b, n, g, h, rfl, _⟩ := h
    rfl
  · obtain ⟨t, a, b, n, g, h, rfl, hT, hg, hh, h1, h12, z⟩ := h
    refine ⟨_, (pss_cons (ps_par3 (i := 3) (j := 4) (l := 5) rfl sc_law_closure.nd rfl rfl rfl (by decide) (by decide) (by decide) rfl rfl rfl (pa_cons (pe_lst (pa_cons (pe_call (ok__law_unit T) hr (by rfl) T.g__law_unit T.F__law_unit.kp T.b__law_unit .nil pass0 (pa_cons (pv 0) pa_nil)) pa_nil)) (pa_cons (pe_dispT (hu_of hr) (pe_call (ok__law_unit T) hr (by rfl) T.g__law_unit T.F__law_unit.kp T.b__law_unit .nil pass0 (pa_cons (pv 0) pa_nil)) pe_int) (pa_cons pe_int pa_nil))) (by with_unfolding_all rfl))
      (pss_cons (ps_for PassesOwn.never rfl (pi_range1 (by rfl) T.n_range (pa_cons pe_int pa_nil)) (pg_name (i := 2) sc_law_closure.nd rfl (.inl rfl)) (pss_cons (ps_if (pt_cmpR op_eq (pv 5) (pe_callB (lenS (K := K) rfl) (by rfl) T.n_len PySem.boot_len (pa_cons (pv 3) pa_nil)) (nomark _)) (pss_one (ps_ret (pv 3))) pss_nil)
      (pss_cons (ps_for PassesOwn.never rfl (piT (K := K) rfl (pv 1)) (pg_name (i := 6) sc_law_closure.nd rfl (.inl rfl)) (pss_cons (ps_set (i := 7) sc_law_closure.nd rfl (.inl rfl) (pe_call (ok__law_mul T) hr (by rfl) T.g__law_mul T.F__law_mul.kp T.b__law_mul .nil pass0 (pa_cons (pe_ix (ixL (K := K) rfl) (pv 3) (pv 5) (fun _ _ => rfl)) (pa_cons (pv 6) pa_nil))))
      (pss_one (ps_if (pt_cmp (pc_dnotin (hu_of hr) (pv 7) (pv 4))) (pss_cons (ps_dput (hu_of hr) (pv 4) (pv 7) (pe_callB (lenS (K := K) rfl) (by rfl) T.n_len PySem.boot_len (pa_cons (pv 3) pa_nil)) rfl)
      (pss_one (ps_expr (pe_bm PySem.F.plainAttrs_list PySem.F.slot_list_append PySem.F.type_list_append mt_append (pv 3) (pa_cons (pv 7) pa_nil))))) pss_nil))))
      (pss_one (ps_set (i := 5) sc_law_closure.nd rfl (.inl rfl) (pe_op op_add (pv 5) pe_int))))))
      (pss_one (ps_ret (pv 3))))), ?_⟩
    simp only [tPar3, tDispT]
    walk_at "sx"
    refine ⟨.int n, rfl, n, rfl, by omega, fun u1 H1 x1 e1 => ⟨by show 1 ≤ sizeLine; decide, fun l nl => fun d nd => ?_⟩⟩
    have xl : Ex H1 (upd H1 l (.lst [.ref u1])) := Ex.new nl
    have xd := xl.trans (Ex.new (o := .dT []) nd)
    refine ⟨.int n, rfl, n, rfl, by omega, fun u2 H2 x2 e2 => ⟨x2.st _ _ upd_same trivial, u2, keyI (unitL n), rfl, by rw [keyI_at]; exact e2.at_, ?_⟩⟩
    walk_at "sx"
    refine ⟨_, _, _, ⟨rfl, rfl, rfl⟩, ?_⟩
    obtain ⟨H3, e3⟩ : ∃ H3, upd H2 d (.dT [(keyI (unitL n), .int 0)]) = H3 := ⟨_, rfl⟩
    rw [e3]
    have nl0' : H l = none := x1.no _ nl
    have nd0 := (x1.trans xl).no _ nd
    have nld : d ≠ l := fun z => by rw [z, upd_same] at nd; cases nd
    have l2 : H2 l = some (.lst ([u1].map V.ref)) := by
      refine x2.st _ _ ?_ (refs_norow (As := [u1]))
      rw [upd_ne (Ne.symm nld)]
      exact upd_same
    have x3 : Ex H H3 := by rw [← e3]; exact ((x1.trans xd).trans x2).own nd0
    have u1d : H2 u1 = some (.tup ((unitL n).map V.int)) := (xd.trans x2).st _ _ e1.at_ trivial
    have CS0 : CS H H3 l d n [u1] [unitL n] := by
      rw [← e3]
      have d2 : H2 d = some (.dT []) := x2.st _ _ upd_same trivial
      refine ⟨e3 ▸ x3, kp l2 d2 (fun z => by cases z), (RowsAt.nil.more (H := H2) (a := u1) u1d).upd d2 (fun _ z => by cases z), ⟨_, upd_same, rfl⟩, fun r hr => ?_⟩
      rw [List.mem_singleton.mp hr]
      exact unit_pm n
    refine ⟨2000, rfl, by omega, by omega, for_it walk_range (fun i σ H4 => ∃ y2 y6 y7 As L, σ = [some (.int n), some (.ref t), y2, some (.ref l), some (.ref d), some (.int (i : Nat)), y6, y7] ∧ CS H H4 l d n As L ∧ cloL g h (2000 - i) i L = cloL g h 2000 0 [unitL n] ∧ i ≤ L.length ∧ L.length ≤ 2 * i + 1)
      ⟨none, none, none, [u1], [unitL n], rfl, CS0, rfl, Nat.zero_le _, Nat.le_refl _⟩ (fun _ _ _ _ _ => trivial) (fun i x σ H4 H5 hi ⟨y2, y6, y7, As, L, es, C, ec, il, lb⟩ ⟨e, ex⟩ => ?_) (fun σ H4 ⟨y2, y6, y7, As, L, es, C, ec, il, lb⟩ => ?_)⟩
    · subst es e ex
      have hi : i < 2000 := hi
      have hAl : (As.map V.ref).length = L.length := by rw [List.length_map, C.rows.len]
      walk_at "sx"
      refine ⟨_, .inl (sl_at C.hl), rfl, ?_⟩
      rw [hAl]
      have ef : 2000 - i = (2000 - (i + 1)) + 1 := by omega
      refine ite2 (fun c => ?_) (fun c => ?_)
      · have c := of_decide_eq_true c
        have c : i = L.length := by omega
        refine z l H5 As C.ex C.hl ?_ ?_
        · rw [← ec, ef]
          show RowsAt H5 As (if i = L.length then L else _)
          rw [if_pos c]
          exact C.rows
        · rw [← ec, ef]
          show ∀ r ∈ (if i = L.length then L else _), IsPm n r
          rw [if_pos c]
          exact C.pm
      · have c : i ≠ L.length := fun h => c (by rw [h]; exact decide_eq_true rfl)
        have lt : i < L.length := by omega
        obtain ⟨r, hr⟩ : ∃ r, L[i]? = some r := ⟨_, List.getElem?_eq_getElem lt⟩
        have tT : H5 t = some (.tup [.ref a, .ref b]) := C.ex.st _ _ hT trivial
        refine ⟨.ref t, rfl, t, rfl, ⟨_, .inl (.inl tT)⟩, for_it (walk_tup (xs := [.ref a, .ref b])) (fun j σ H6 => ∃ y6 y7 As', σ = [some (.int n), some (.ref t), some (.int (0 + (i : Int))), some (.ref l), some (.ref d), some (.int (i : Nat)), y6, y7] ∧ CS H H6 l d n As' (addG r ([g, h].take j) L))
          ⟨y6, y7, As, rfl, C⟩ (fun j σ H6 _ ⟨_, _, _, _, C6⟩ => .inl (.inl (C6.ex.st _ _ hT trivial))) (fun j x σ H6 H7 hj ⟨y6, y7, As', es, C6⟩ ⟨e, hx⟩ => ?_) (fun σ H6 ⟨y6, y7, As', es, C6⟩ => ?_)⟩
        · subst es e
          have hj : j < 2 := hj
          obtain ⟨q, gq, eq, hq, tk⟩ : ∃ q gq, x = .ref q ∧ Pm H q n gq ∧ [g, h].take (j + 1) = [g, h].take j ++ [gq] := by
            obtain rfl | rfl : j = 0 ∨ j = 1 := by omega
            · exact ⟨a, g, (Option.some.inj hx).symm, hg, rfl⟩
            · exact ⟨b, h, (Option.some.inj hx).symm, hh, rfl⟩
          subst eq
          rw [tk, addG_snoc]
          have lG := addG_len (x := r) (G := [g, h].take j) (L := L)
          have lt2 : ([g, h].take j).length ≤ 2 := by rw [List.length_take]; exact Nat.min_le_right _ _
          have hM := addG_get (x := r) (G := [g, h].take j) hr
          generalize addG r ([g, h].take j) L = M at C6 lG hM ⊢
          obtain ⟨ra, hra, rat⟩ := C6.rows.at_ i r hM
          have rp : IsPm n r := C6.pm r (List.mem_of_getElem? hM)
          walk_at "sx"
          refine ⟨_, sl_at C6.hl, .ref ra, atI_nat (by rw [List.getElem?_map, hra]; rfl), ra, q, n, r, gq, rfl, ⟨rat, rp⟩, hq.ex C6.ex, by omega, fun c H8 x8 hc => ?_⟩
          have C8 := C6.exx x8
          obtain ⟨kvs, hkv, hks⟩ := C8.hd
          have hcK : H8 c = some (.tup ((keyI (mulL r gq)).map kV)) := by rw [keyI_at]; exact hc.at_
          have has : (valV kvs (keyI (mulL r gq))).isSome = decide (mulL r gq ∈ M) := by
            rw [Bool.eq_iff_iff, decide_eq_true_iff, valV_mem, hks, mem_keys]
          refine ⟨.ref c, rfl, .ref d, rfl, d, _, rfl, DGet.t hkv hcK, _, rfl, ?_⟩
          rw [has]
          refine ite2 (fun cc => ?_) (fun cc => ?_)
          · have nm : mulL r gq ∉ M := fun z => by
              rw [decide_eq_true z] at cc
              cases cc
            have ea : addL M (mulL r gq) = M ++ [mulL r gq] := by
              unfold addL
              rw [if_neg nm]
            have nk : keyI (mulL r gq) ∉ kvs.map Prod.fst := by rw [hks, mem_keys]; exact nm
            have lk : kvs.length = M.length := by
              have z := congrArg List.length hks
              rwa [List.length_map, List.length_map] at z
            have hAl8 : (As'.map V.ref).length = M.length := by rw [List.length_map, C8.rows.len]
            have l4000 : M.length ≤ 4003 := by omega
            refine ⟨.ref l, rfl, l, rfl, _, .inl (sl_at C8.hl), .ref d, rfl, .ref c, rfl, d, _, rfl, DPut.t hkv hcK (by rw [lk]; exact Nat.lt_of_le_of_lt l4000 (by decide)), ?_⟩
            rw [putK_new _ nk]
            simp only [tBM, rAppend]
            walk_at "sx"
            simp only [tBM, rAppend]
            walk_at "sx"
            obtain ⟨H9, e9⟩ : ∃ H9, upd H8 d (.dT (kvs ++ [(keyI (mulL r gq), .int ((As'.map V.ref).length : Nat))])) = H9 := ⟨_, rfl⟩
            rw [e9]
            have l9 : H9 l = some (.lst (As'.map V.ref)) := by rw [← e9]; exact kp C8.hl hkv (fun z => by cases z)
            have d9 : H9 d = some (.dT (kvs ++ [(keyI (mulL r gq), .int ((As'.map V.ref).length : Nat))])) := by rw [← e9]; exact upd_same
            have x9 : Ex H H9 := by rw [← e9]; exact C8.ex.own nd0
            have c9 : H9 c = some (.tup ((mulL r gq).map V.int)) := by rw [← e9]; exact kp hc.at_ hkv (fun z => by cases z)
            have r9 : RowsAt H9 As' M := by rw [← e9]; exact C8.rows.upd hkv (fun _ z => by cases z)
            refine ⟨.inl ⟨rfl, _, sl_at l9⟩, _, l9, by rw [hAl8]; exact Nat.lt_of_le_of_lt l4000 (by decide), _, _, ⟨rfl, rfl⟩, As' ++ [c], ?_⟩
            rw [ea]
            refine ⟨x9.own nl0', by rw [upd_same, List.map_append]; rfl, (r9.upd l9 (fun _ z => by cases z)).more (kp c9 l9 (fun z => by cases z)), ⟨_, kp d9 l9 (fun z => by cases z), ?_⟩, fun s hs => ?_⟩
            · rw [List.map_append, hks, List.map_append]
              rfl
            · rcases List.mem_append.mp hs with z | z
              · exact C8.pm s z
              · rw [List.mem_singleton.mp z]; exact hc.is
          · have ym : mulL r gq ∈ M := by
              apply Classical.byContradiction
              intro z
              exact cc (by rw [decide_eq_false z]; rfl)
            have ea : addL M (mulL r gq) = M := by
              unfold addL
              rw [if_pos ym]
            rw [ea]
            exact ⟨_, _, ⟨rfl, rfl⟩, As', C8⟩
        · subst es
          walk_at "sx"
          have lG := addG_len (x := r) (G := [g, h]) (L := L)
          have C6 : CS H H6 l d n As' (addG r [g, h] L) := C6
          refine ⟨_, _, _, ⟨rfl, rfl, rfl, rfl⟩, As', addG r [g, h] L, C6, ?_, by omega, ?_⟩
          · rw [← ec, ef]
            show _ = if i = L.length then L else cloL g h (2000 - (i + 1)) (i + 1) (addL (addL L (mulL (L.getD i []) g)) (mulL (L.getD i []) h))
            have gr : L.getD i [] = r := by rw [List.getD_eq_getElem?_getD, hr]; rfl
            rw [if_neg c, gr]
            rfl
          · have : (addG r [g, h] L).length ≤ L.length + 2 := lG.2
            omega
    · subst es
      refine ⟨.ref l, rfl, z l H4 As C.ex C.hl ?_ ?_⟩
      · rw [← ec]
        exact C.rows
      · rw [← ec]
        exact C.pm
theorem ok__law_lengths (T : TX K mg base) : FnOk P w K mg base CX0 1 (He.ga K "_law_lengths") (fdK K "_law_lengths") ["p"] spLengths := by
  refine T.F__law_lengths.ok sc_law_lengths (fun vs H Q E h => ?_) (fun cdv A outer s H vs Q E hr h => ?_)
  · obtain ⟨a, n, p, rfl, _⟩ := h
    rfl
  · obtain ⟨a, n, p, rfl, hp, hn, z⟩ := h
    refine ⟨_, (pss_cons (ps_par (i := 2) (j := 3) rfl sc_law_lengths.nd rfl rfl (by decide) rfl rfl (pa_cons (pe_lst pa_nil) (pa_cons (pe_lst pa_nil) pa_nil)) (by with_unfolding_all rfl))
      (pss_cons (ps_for PassesOwn.never rfl (pi_range1 (by rfl) T.n_range (pa_cons (pe_callB (lenS (K := K) rfl) (by rfl) T.n_len PySem.boot_len (pa_cons (pv 0) pa_nil)) pa_nil)) (pg_name (i := 1) sc_law_lengths.nd rfl (.inl rfl)) (pss_one (ps_if (pt_cmpR (ninS (K := K) rfl) (pv 1) (pv 3) (by rfl)) (pss_cons (ps_par (i := 5) (j := 6) rfl sc_law_lengths.nd rfl rfl (by decide) rfl rfl (pa_cons (pv 1) (pa_cons pe_int pa_nil)) (by with_unfolding_all rfl))
      (pss_cons (ps_for PassesOwn.never rfl (pi_range1 (by rfl) T.n_range (pa_cons (pe_callB (lenS (K := K) rfl) (by rfl) T.n_len PySem.boot_len (pa_cons (pv 0) pa_nil)) pa_nil)) (pg_name (i := 4) sc_law_lengths.nd rfl (.inl rfl)) (pss_one (ps_if (pt_cmpR (ninS (K := K) rfl) (pv 5) (pv 3) (by rfl)) (pss_cons (ps_expr (pe_bm PySem.F.plainAttrs_list PySem.F.slot_list_append PySem.F.type_list_append mt_append (pv 3) (pa_cons (pv 5) pa_nil)))
      (pss_one (ps_par (i := 5) (j := 6) rfl sc_law_lengths.nd rfl rfl (by decide) rfl rfl (pa_cons (pe_ix (ixT (K := K) rfl) (pv 0) (pv 5) (fun _ _ => rfl)) (pa_cons (pe_op op_add (pv 6) pe_int) pa_nil)) (by with_unfolding_all rfl)))) pss_nil)))
      (pss_one (ps_expr (pe_bm PySem.F.plainAttrs_list PySem.F.slot_list_append PySem.F.type_list_append mt_append (pv 2) (pa_cons (pv 6) pa_nil)))))) pss_nil)))
      (pss_one (ps_ret (pe_callB (srtL (K := K) rfl) (by rfl) T.n_sorted (by decide +kernel) (pa_cons (pv 2) pa_nil)))))), ?_⟩
    walk_at "sx"
    refine ⟨Nat.zero_le _, fun l nl => ⟨Nat.zero_le _, fun sA nS => ⟨_, _, ⟨rfl, rfl⟩, ?_⟩⟩⟩
    have xl : Ex H (upd H l (.lst [])) := Ex.new nl
    have xs : Ex H (upd (upd H l (.lst [])) sA (.lst [])) := xl.trans (Ex.new nS)
    have nS0 := xl.no _ nS
    have hlp : (p.map V.int).length = n := by rw [List.length_map, hp.is.len]
    have rl : sA ≠ l := fun z => by rw [z, upd_same] at nS; cases nS
    refine ⟨.ref a, rfl, a, rfl, p.map V.int, .inr (.inl (.inl (xs.st _ _ hp.at_ trivial))), (n : Int), by rw [hlp], by omega, by omega, for_it walk_range (fun i σ H1 => ∃ y1 y4 y5 y6 R, σ = [some (.ref a), y1, some (.ref l), some (.ref sA), y4, y5, y6] ∧ LG H H1 l sA n p R R.flatten ∧ (∀ x : Int, 0 ≤ x → x < i → x ∈ R.flatten) ∧ ∀ r ∈ R, r.getD 0 0 < (i : Int))
      ⟨none, none, none, none, [], rfl, ?_, (fun x _ _ => by omega), (fun _ h => by cases h)⟩ (fun _ _ _ _ _ => trivial) (fun i x σ H1 H2 hi ⟨y1, y4, y5, y6, R, es, F, hA, hLo⟩ ⟨e, ex⟩ => ?_) (fun σ H1 ⟨y1, y4, y5, y6, R, es, F, hA, hLo⟩ => ?_)⟩
    · exact ⟨xs, by rw [upd_ne (Ne.symm rl)]; exact upd_same, upd_same, .nil, .nil, (fun _ h => by cases h), (fun _ h => by cases h), .nil⟩
    · subst es e ex
      rw [show ((n : Nat) : Int).toNat = n by omega] at hi
      walk_at "sx"
      obtain ⟨f, ef⟩ : ∃ f : Int, 0 + (i : Int) = f := ⟨_, rfl⟩
      rw [ef]
      refine ⟨sA, _, rfl, .inl (sl_at F.seen), rfl, flat_ints _, _, rfl, ?_⟩
      rw [inV_ints]
      refine ite2 (fun c => ?_) (fun c => ?_)
      · have hf : f ∉ R.flatten := fun z => by
          rw [decide_eq_true z] at c
          cases c
        refine ⟨_, _, ⟨rfl, rfl⟩, .ref a, rfl, a, rfl, p.map V.int, .inr (.inl (.inl (F.ex.st _ _ hp.at_ trivial))), (n : Int), by rw [hlp], by omega, by omega,
          for_it walk_range (fun k σ H3 => ∃ y4 L pt, σ = [some (.ref a), some (.int f), some (.ref l), some (.ref sA), y4, some (.int pt), some (.int (L.length : Nat))] ∧ LG H H3 l sA n p R (R.flatten ++ L) ∧ Chain p f L pt ∧ 0 ≤ pt ∧ pt < n ∧ (pt ∉ R.flatten ++ L → L.length = k))
          ⟨y4, [], f, rfl, by rw [List.append_nil]; exact F, .start, by omega, by omega, fun _ => rfl⟩ (fun _ _ _ _ _ => trivial) (fun k u σ H3 H4 hk ⟨y4, L, pt, es, F3, C, p0, pb, lk⟩ ⟨e, ex⟩ => ?_) (fun σ H3 ⟨y4, L, pt, es, F3, C, p0, pb, lk⟩ => ?_)⟩
        · subst es e ex
          walk_at "sx"
          refine ⟨sA, _, rfl, .inl (sl_at F3.seen), rfl, flat_ints _, _, rfl, ?_⟩
          rw [inV_ints]
          refine ite2 (fun c2 => ?_) (fun c2 => ?_)
          · have hpt : pt ∉ R.flatten ++ L := fun z => by
              rw [decide_eq_true z] at c2
              cases c2
            obtain ⟨nx, hnx, n0, nb⟩ := hp.is.get (i := pt.toNat) (by omega)
            have ll := bd_len F3.nd F3.bd
            simp only [tBM, rAppend]
            walk_at "sx"
            have x5 := F3.ex.own (o := .lst ((R.flatten ++ L).map V.int ++ [V.int pt])) nS0
            refine ⟨.inl ⟨rfl, _, sl_at F3.seen⟩, _, F3.seen, by rw [List.length_map]; exact small1000 (by omega), p.map V.int, x5.t (.inl (.inl hp.at_)), .int nx, at_int p0 hnx, _, _, ⟨rfl, rfl⟩, _, L ++ [pt], nx, ⟨rfl, rfl, by rw [List.length_append]; rfl⟩, ⟨x5, ?_, ?_, F3.cyc, ?_, ?_, F3.mn, F3.so⟩, C.step hnx, n0, nb, fun _ => by rw [List.length_append, lk hpt]; rfl⟩
            · rw [upd_ne (Ne.symm rl)]
              exact F3.hl
            · rw [upd_same, ← List.append_assoc, List.map_append (l₁ := R.flatten ++ L)]
              rfl
            · rw [← List.append_assoc]; exact nd_more F3.nd hpt
            · rw [← List.append_assoc]; exact bd_more F3.bd p0 pb
          · have hm : pt ∈ R.flatten ++ L := by
              apply Classical.byContradiction
              intro z
              exact c2 (by rw [decide_eq_false z]; rfl)
            exact ⟨_, L, pt, ⟨rfl, rfl, rfl⟩, F3, C, p0, pb, fun z => absurd hm z⟩
        · subst es
          rw [show ((n : Nat) : Int).toNat = n by omega] at lk
          have hm : pt ∈ R.flatten ++ L := by
            apply Classical.byContradiction
            intro z
            have l2 := bd_len (nd_more F3.nd z) (bd_more F3.bd p0 pb)
            have l1 := lk z
            rw [List.length_append, List.length_append] at l2
            have l2 : R.flatten.length + L.length + 1 ≤ n := l2
            omega
          have tn := C.close hp.is F3.cyc F3.nd (fun x hx => F3.bd x (List.mem_append_right _ hx)) hf hm
          have ef2 : (R ++ [L]).flatten = R.flatten ++ L := by rw [List.flatten_append, List.flatten_cons, List.flatten_nil, List.append_nil]
          have C5 := F3.cyc.more tn F3.nd (fun x hx => F3.bd x (List.mem_append_right _ hx))
          have lenR : R.length ≤ n := Nat.le_trans (rows_le F3.cyc.tn) (Nat.le_trans (by rw [List.length_append]; exact Nat.le_add_right _ _) (bd_len F3.nd F3.bd))
          have hd0 : L.getD 0 0 = f := by
            have hd := C.hd
            rw [List.getElem?_append_left tn.ne] at hd
            exact getD_of hd
          have mnL : ∀ x ∈ L, L.getD 0 0 ≤ x := fun x hx => by
            rw [hd0]
            apply Classical.byContradiction
            intro g
            have hb := F3.bd x (List.mem_append_right _ hx)
            exact absurd rfl ((List.nodup_append.mp F3.nd).2.2 x (hA x hb.1 (by omega)) x hx)
          walk_at "sx"
          simp only [tBM, rAppend]
          walk_at "sx"
          have x5 := F3.ex.own (o := .lst ((lensL R).map V.int ++ [V.int (L.length : Nat)])) nl
          refine ⟨.inl ⟨rfl, _, sl_at F3.hl⟩, _, F3.hl, ?_, _, _, _, _, ⟨rfl, rfl, rfl, rfl⟩, R ++ [L], ⟨x5, ?_, ?_, C5, ?_, ?_, ?_, ?_⟩, fun x x0 xi => ?_, fun r hr => ?_⟩
          · rw [List.length_map]
            unfold lensL
            rw [List.length_map]
            exact small1000 (by omega)
          · rw [upd_same]
            unfold lensL
            rw [List.map_append, List.map_append]
            rfl
          · rw [ef2, upd_ne rl]
            exact F3.seen
          · rw [ef2]; exact F3.nd
          · rw [ef2]; exact F3.bd
          · intro r hr
            rcases List.mem_append.mp hr with z | z
            · exact F3.mn r z
            · rw [List.mem_singleton.mp z]; exact mnL
          · rw [List.map_append, List.pairwise_append]
            refine ⟨F3.so, List.pairwise_singleton .., fun x hx y hy => ?_⟩
            obtain ⟨r, hr, rfl⟩ := List.mem_map.mp hx
            rw [List.map_cons, List.map_nil, List.mem_singleton] at hy
            rw [hy, hd0]
            have := hLo r hr
            omega
          · rw [ef2]
            by_cases hx : x < i
            · exact List.mem_append_left _ (hA x x0 hx)
            · have e : x = f := by omega
              rw [e, ← hd0]
              exact List.mem_append_right _ (List.mem_of_getElem? (hd_get tn))
          · rcases List.mem_append.mp hr with z | z
            · have := hLo r z
              omega
            · rw [List.mem_singleton.mp z, hd0]
              omega
      · refine ⟨_, _, _, _, ⟨rfl, rfl, rfl, rfl⟩, R, F, fun x x0 xi => ?_, fun r hr => by have := hLo r hr; omega⟩
        by_cases hx : x < i
        · exact hA x x0 hx
        · have e : x = f := by omega
          rw [e]
          apply Classical.byContradiction
          intro hn
          exact c (by rw [decide_eq_false hn]; rfl)
    · subst es
      walk_at "sx"
      exact ⟨l, _, rfl, sl_at F.hl, fun ns u hpm ho nu => z u _ R ns (F.ex.trans (Ex.new nu)) ⟨F.cyc, fun x x0 xn => hA x x0 (by omega), F.mn, F.so⟩ hpm ho upd_same⟩
theorem ok__law_near (T : TX K mg base) : FnOk P w K mg base CX0 3 (He.ga K "_law_near") (fdK K "_law_near") ["row", "p"] (spNear K) := by
  refine T.F__law_near.ok sc_law_near (fun vs H Q E h => ?_) (fun cdv A outer s H vs Q E hr h => ?_)
  · obtain ⟨r, s, a, n, p, ns, rfl, _⟩ := h
    rfl
  · obtain ⟨r, s0, a, n, p, ns, rfl, hR, hS, hp, h1, h12, z⟩ := h
    refine ⟨_, (pss_cons (ps_set (i := 2) sc_law_near.nd rfl (.inl rfl) (pe_call (ok__law_conj T) hr (by rfl) T.g__law_conj T.F__law_conj.kp T.b__law_conj .nil pass0 (pa_cons (pv 1) (pa_cons (pe_call (ok__law_perm T) hr (by rfl) T.g__law_perm T.F__law_perm.kp T.b__law_perm .nil pass0 (pa_cons (pv 0) (pa_cons (pe_callB (lenS (K := K) rfl) (by rfl) T.n_len PySem.boot_len (pa_cons (pv 1) pa_nil)) pa_nil))) pa_nil))))
      (pss_cons (ps_if (PW.pt (pw_and (pt_cmpR op_eq (pe_call (ok__law_taken T) (hr.mono (by decide)) (by rfl) T.g__law_taken T.F__law_taken.kp T.b__law_taken .nil pass0 (pa_cons (pv 0) (pa_cons pe_int pa_nil))) pe_int (nomark _)) (pw_and1 (pt_cmpR op_gt (pe_callB (lenS (K := K) rfl) (by rfl) T.n_len PySem.boot_len (pa_cons (pv 1) pa_nil)) pe_int (nomark _))))) (pss_cons (ps_par (i := 5) (j := 3) rfl sc_law_near.nd rfl rfl (by decide) rfl rfl (pa_cons (pe_call (ok__law_taken T) (hr.mono (by decide)) (by rfl) T.g__law_taken T.F__law_taken.kp T.b__law_taken .nil pass0 (pa_cons (pv 0) (pa_cons (pe_callB (lenS (K := K) rfl) (by rfl) T.n_len PySem.boot_len (pa_cons (pv 1) pa_nil)) pa_nil))) (pa_cons (pe_call (ok__law_taken T) (hr.mono (by decide)) (by rfl) T.g__law_taken T.F__law_taken.kp T.b__law_taken .nil pass0 (pa_cons (pv 0) (pa_cons (pe_op op_sub (pe_callB (lenS (K := K) rfl) (by rfl) T.n_len PySem.boot_len (pa_cons (pv 1) pa_nil)) pe_int) pa_nil))) pa_nil)) (by with_unfolding_all rfl))
      (pss_cons (ps_set (i := 3) sc_law_near.nd rfl (.inl rfl) (pe_ifExp (pt_cmpR op_ge (pv 3) (pv 5) (nomark _)) (pe_op op_add (pv 3) pe_int) (pv 3)))
      (pss_cons (ps_set (i := 4) sc_law_near.nd rfl (.inl rfl) (pe_listRg rfl (by rfl) T.n_list (prg_1 (by rfl) T.n_range (pe_callB (lenS (K := K) rfl) (by rfl) T.n_len PySem.boot_len (pa_cons (pv 1) pa_nil)))))
      (pss_cons (ps_asg (pe_tup (pa_cons (pv 3) (pa_cons (pv 5) pa_nil))) (pg_tup rfl (pgs_cons (pg_sub (pv 4) (pv 5) set_list (by intro _; rfl)) (pgs_cons (pg_sub (pv 4) (pv 3) set_list (by intro _; rfl)) pgs_nil))))
      (pss_one (ps_set (i := 2) sc_law_near.nd rfl (.inl rfl) (pe_call (ok__law_mul T) (hr.mono (by decide)) (by rfl) T.g__law_mul T.F__law_mul.kp T.b__law_mul .nil pass0 (pa_cons (pv 2) (pa_cons (pe_tupK (K := K) rfl (by rfl) T.n_tuple (pv 4)) pa_nil))))))))) pss_nil)
      (pss_one (ps_ret (pv 2))))), ?_⟩
    walk_at "sx"
    have hlp : (p.map V.int).length = n := by rw [List.length_map, hp.is.len]
    refine ⟨p.map V.int, .inr (.inl (.inl hp.at_)), r, s0, n, ns, by rw [hlp], hR, hS, h1, by omega, fun ag H1 g x1 hg => ?_⟩
    refine ⟨a, ag, n, p, g, rfl, hp.ex x1, hg, by omega, fun c H2 q x2 hc _ => ?_⟩
    have x12 := x1.trans x2
    refine ⟨r, s0, 3, ns, rfl, x12.row _ _ hR, x12.l ints_norow hS, by omega, by omega, fun j H3 x3 hj => ⟨rfl, ?_⟩⟩
    have x13 := x12.trans x3
    have hp3 := hp.ex x13
    have hc3 := hc.ex x3
    refine ite2 (fun d => ?_) (fun d => by
      rw [if_neg (fun h => h)]
      exact z c H3 q x13 hc3)
    refine ⟨p.map V.int, .inr (.inl (.inl hp3.at_)), ?_⟩
    rw [hlp]
    refine ite2 (fun d2 => ?_) (fun d2 => z c H3 q x13 hc3)
    have d2 := of_decide_eq_true d2
    refine ⟨p.map V.int, .inr (.inl (.inl hp3.at_)), r, s0, n, ns, by rw [hlp], x13.row _ _ hR, x13.l ints_norow hS, h1, by omega, fun one H4 x4 h4 => ?_⟩
    have x14 := x13.trans x4
    refine ⟨p.map V.int, .inr (.inl (.inl (hp3.ex x4).at_)), r, s0, n - 1, ns, ?_, x14.row _ _ hR, x14.l ints_norow hS, by omega, by omega, fun oth H5 x5 h5 => ⟨_, _, ⟨rfl, rfl⟩, oth, rfl, one, rfl, ?_⟩⟩
    · rw [hlp]
      simp only [List.cons.injEq, V.int.injEq, and_true, true_and]
      omega
    have x15 := x14.trans x5
    have hp5 := (hp3.ex x4).ex x5
    have hc5 := (hc3.ex x4).ex x5
    have hone : (unitL n)[one]? = some (one : Int) := unitL_get (by omega)
    refine ite2 (fun e => ⟨oth, rfl, ?_⟩) (fun e => ?_)
    · have e := of_decide_eq_true e
      obtain ⟨O, eO, O0, On, Oo⟩ : ∃ O : Nat, (oth : Int) + 1 = O ∧ 0 ≤ O ∧ O < n ∧ O ≠ one := ⟨oth + 1, by omega, by omega, by omega, by omega⟩
      rw [eO]
      refine ⟨p.map V.int, .inr (.inl (.inl hp5.at_)), ?_⟩
      rw [hlp]
      refine ⟨.of_le (by omega) (by omega) (by omega) (by omega), fun w1 nw => ⟨by show 2 ≤ sizeLine; decide, fun t nt => ?_⟩⟩
      rw [rg_ints] at nt ⊢
      have hO : (unitL n)[O]? = some (O : Int) := unitL_get On
      have g1 : upd (upd H5 w1 (.lst ((unitL n).map V.int))) t (.tup [.int O, .int one]) w1 = some (.lst ((unitL n).map V.int)) := by
        rw [upd_ne (ne_of_none upd_same nt)]
        exact upd_same
      have nt0 : H5 t = none := (Ex.new nw).no _ nt
      have un := (unit_pm n).len
      have un : (unitL n).length = n := un
      refine ⟨[.int O, .int one], sq_new, rfl, .int O, [.int one], rfl, _, _, rfl, g1, one, ixN_of (by omega) (by rw [List.length_map, un]; omega), .int one, [], rfl, _, upd_same, O, ixN_of (by omega) (by rw [List.length_set, List.length_map, un]; omega), rfl, .inl ⟨_, sl_at upd_same, fun u nu => ?_⟩⟩
      have x6 := ((((Ex.new (o := .lst ((unitL n).map V.int)) nw).trans (Ex.new (o := .tup [.int O, .int one]) nt)).own (o := .lst (((unitL n).map V.int).set one (.int O))) nw).own (o := .lst ((((unitL n).map V.int).set one (.int O)).set O (.int one))) nw).trans (Ex.new (o := .tup ((((unitL n).map V.int).set one (.int O)).set O (.int one))) nu)
      exact ⟨c, u, n, q, ((unitL n).set one (O : Int)).set O (one : Int), rfl, hc5.ex x6, ⟨by rw [upd_same, set_map, set_map], (unit_pm n).swap hone hO⟩, by omega, fun f H6 x7 hf => z f H6 _ ((x15.trans x6).trans x7) hf⟩
    · have e : ¬ ((one : Int) ≤ oth) := fun h => e (decide_eq_true h)
      obtain ⟨O, eO, On, Oo⟩ : ∃ O : Nat, (oth : Int) = O ∧ O < n ∧ O ≠ one := ⟨oth, rfl, by omega, by omega⟩
      rw [eO]
      refine ⟨p.map V.int, .inr (.inl (.inl hp5.at_)), ?_⟩
      rw [hlp]
      refine ⟨.of_le (by omega) (by omega) (by omega) (by omega), fun w1 nw => ⟨by show 2 ≤ sizeLine; decide, fun t nt => ?_⟩⟩
      rw [rg_ints] at nt ⊢
      have hO : (unitL n)[O]? = some (O : Int) := unitL_get On
      have g1 : upd (upd H5 w1 (.lst ((unitL n).map V.int))) t (.tup [.int O, .int one]) w1 = some (.lst ((unitL n).map V.int)) := by
        rw [upd_ne (ne_of_none upd_same nt)]
        exact upd_same
      have nt0 : H5 t = none := (Ex.new nw).no _ nt
      have un := (unit_pm n).len
      have un : (unitL n).length = n := un
      refine ⟨[.int O, .int one], sq_new, rfl, .int O, [.int one], rfl, _, _, rfl, g1, one, ixN_of (by omega) (by rw [List.length_map, un]; omega), .int one, [], rfl, _, _, rfl, upd_same, O, ixN_of (by omega) (by rw [List.length_set, List.length_map, un]; omega), rfl, .inl ⟨_, sl_at upd_same, fun u nu => ?_⟩⟩
      have x6 := ((((Ex.new (o := .lst ((unitL n).map V.int)) nw).trans (Ex.new (o := .tup [.int O, .int one]) nt)).own (o := .lst (((unitL n).map V.int).set one (.int O))) nw).own (o := .lst ((((unitL n).map V.int).set one (.int O)).set O (.int one))) nw).trans (Ex.new (o := .tup ((((unitL n).map V.int).set one (.int O)).set O (.int one))) nu)
      exact ⟨c, u, n, q, ((unitL n).set one (O : Int)).set O (one : Int), rfl, hc5.ex x6, ⟨by rw [upd_same, set_map, set_map], (unit_pm n).swap hone hO⟩, by omega, fun f H6 x7 hf => z f H6 _ ((x15.trans x6).trans x7) hf⟩
theorem ok__law_due (T : TX K mg base) : FnOk P w K mg base CX0 1 (He.ga K "_law_due") (fdK K "_law_due") ["lengths"] spDue := by
  refine T.F__law_due.ok sc_law_due (fun vs H Q E h => ?_) (fun cdv A outer s H vs Q E hr h => ?_)
  · obtain ⟨a, ls, rfl, _⟩ := h
    rfl
  · obtain ⟨a, ls, rfl, hA, hl, hb, z⟩ := h
    refine ⟨_, (pss_cons (ps_set (i := 1) sc_law_due.nd rfl (.inl rfl) pe_int)
      (pss_cons (ps_for PassesOwn.never rfl (pi_range1 (by rfl) T.n_range (pa_cons (pe_callB (lenS (K := K) rfl) (by rfl) T.n_len PySem.boot_len (pa_cons (pv 0) pa_nil)) pa_nil)) (pg_name (i := 2) sc_law_due.nd rfl (.inr rfl)) (pss_one (ps_set (i := 1) sc_law_due.nd rfl (.inl rfl) (pe_op op_mul (pe_op op_mul (pv 1) (pe_ix (ixL (K := K) rfl) (pv 0) (pv 2) (fun _ _ => rfl))) (pe_callB (lenS (K := K) rfl) (by rfl) T.n_len PySem.boot_len (pa_cons (pe_lc (own := [("size", 3)]) (g := gName 3)  rfl sc_law_due.nd (piL (K := K) rfl (pe_slice (slL (K := K) rfl) (pv 0) po_none (po_some (pe_op op_add (pv 2) pe_int)))) (blkOk_by (N := ["lengths", "found", "at", "size"]) (sc := defScope s_law_due) (by decide +kernel)) (fun _ _ _ _ _ => (pg_name (i := 3) sc_law_due.nd rfl (.inl rfl))) (fun _ _ _ _ _ => (pts_one (pt_cmpR op_eq (pv 3) (pe_ix (ixL (K := K) rfl) (pv 0) (pv 2) (fun _ _ => rfl)) (nomark _)))) (fun _ _ _ _ _ => (pv 3))) pa_nil))))))
      (pss_one (ps_ret (pv 1))))), ?_⟩
    walk_at "sx"
    have hll : ((ls.map Int.ofNat).map V.int).length = ls.length := by rw [List.length_map, List.length_map]
    refine ⟨.ref a, rfl, a, rfl, _, .inl (sl_at hA), (ls.length : Int), by rw [hll], by omega, by omega, for_it walk_range (fun i σ H1 => ∃ y2 y3, σ = [some (.ref a), some (.int ((dueI ls i : Nat) : Int)), y2, y3] ∧ Ex H H1)
      ⟨none, none, rfl, .refl _⟩ (fun _ _ _ _ _ => trivial) (fun i x σ H1 H2 hi ⟨y2, y3, es, x1⟩ ⟨e, ex⟩ => ?_) (fun σ H1 ⟨y2, y3, es, x1⟩ => ?_)⟩
    · subst es e ex
      rw [show ((ls.length : Nat) : Int).toNat = ls.length by omega] at hi
      have hA1 := x1.i hA
      obtain ⟨d, hd⟩ : ∃ d, ls[i]? = some d := ⟨_, List.getElem?_eq_getElem hi⟩
      have gd : ls.getD i 0 = d := by rw [List.getD_eq_getElem?_getD, hd]; rfl
      have d12 := hb d (List.mem_of_getElem? hd)
      have ei : (0 + (i : Int)).toNat = i := by omega
      have at_d : atI ((ls.map Int.ofNat).map V.int) (0 + (i : Int)) = some (.int d) := at_int (by omega) (by rw [ei]; exact nat_at hd)
      walk_at "sx"
      refine ⟨_, sl_at hA1, .int d, at_d, d, rfl, .inr ⟨by omega, by omega⟩, ?_⟩
      have ek : 0 + (i : Int) + 1 = ((i + 1 : Nat) : Int) := by omega
      refine ⟨.ref a, rfl, .int (0 + (i : Int)), rfl, 0 + (i : Int), 1, rfl, rfl, _, rfl, a, _, rfl, sl_at hA1, fun u nu => ⟨u, rfl, ⟨_, sl_new⟩, fun D nD => ?_⟩⟩
      rw [ek, cut_take] at nD ⊢
      have hu0 : upd H2 u (.lst (((ls.map Int.ofNat).map V.int).take (i + 1))) = upd H2 u (.lst (((ls.take (i + 1)).map Int.ofNat).map V.int)) := by rw [List.map_take, List.map_take]
      rw [hu0] at nD ⊢
      obtain ⟨H3, e3⟩ : ∃ H3, upd H2 u (.lst (((ls.take (i + 1)).map Int.ofNat).map V.int)) = H3 := ⟨_, rfl⟩
      have x3 : Ex H2 H3 := by rw [← e3]; exact Ex.new nu
      have hu3 : H3 u = some (.lst (((ls.take (i + 1)).map Int.ofNat).map V.int)) := by rw [← e3]; exact upd_same
      rw [e3] at nD ⊢
      have ll : (((ls.take (i + 1)).map Int.ofNat).map V.int).length = i + 1 := by rw [List.length_map, List.length_map, List.length_take]; omega
      refine lc_it (walk_list (xs := ((ls.take (i + 1)).map Int.ofNat).map V.int)) (fun k H4 => Ex H3 H4 ∧ H4 D = some (.lst (((((ls.take (i + 1)).take k).filter fun x => decide (x = d)).map Int.ofNat).map V.int))) ⟨Ex.new nD, upd_same⟩ (fun k H4 _ ⟨x4, _⟩ => sl_at (x4.i hu3)) (fun k x H4 H5 hk ⟨x4, hD⟩ ⟨e, hx⟩ => ?_) (fun H4 ⟨x4, hD⟩ => ?_)
      · subst e
        rw [ll] at hk
        obtain ⟨y, hy⟩ : ∃ y, (ls.take (i + 1))[k]? = some y := ⟨_, List.getElem?_eq_getElem (by rw [List.length_take]; omega)⟩
        have ex : x = .int (y : Int) := by
          rw [List.getElem?_map, nat_at hy] at hx
          exact (Option.some.inj hx).symm
        subst ex
        refine ⟨rfl, ?_⟩
        walk_at "sx"
        have et : ((ls.take (i + 1)).take (k + 1)) = (ls.take (i + 1)).take k ++ [y] := by rw [List.take_add_one, hy]; rfl
        have lk : (((((ls.take (i + 1)).take k).filter fun x => decide (x = d)).map Int.ofNat).map V.int).length ≤ 1000 := by
          rw [List.length_map, List.length_map]
          exact Nat.le_trans (List.length_filter_le ..) (by rw [List.length_take]; omega)
        refine ⟨_, sl_at ((x3.trans x4).i hA1), .int d, at_d, rfl, ?_⟩
        rw [et, List.filter_append]
        by_cases c : y = d
        · subst c
          rw [decide_eq_true rfl, if_pos rfl, List.filter_cons_of_pos (by exact decide_eq_true rfl), List.filter_nil, List.map_append, List.map_append]
          exact ⟨_, hD, small1000 lk, x4.own nD, upd_same⟩
        · rw [List.filter_cons_of_neg (by rw [decide_eq_false c]; exact Bool.false_ne_true), List.filter_nil, List.append_nil, if_neg (by
            intro z
            have z2 := V.int.inj (of_decide_eq_true z)
            omega)]
          exact ⟨x4, hD⟩
      · rw [ll, List.take_of_length_le (by rw [List.length_take]; omega)] at hD
        refine ⟨D, rfl, _, .inl (sl_at hD), .inr ?_, ?_⟩
        · rw [List.length_map, nat_map]
          have := List.count_le_length (a := d) (l := ls.take (i + 1))
          rw [List.length_take] at this
          omega
        · refine ⟨_, _, ⟨?_, rfl, rfl⟩, (x1.trans x3).trans x4⟩
          rw [List.length_map, nat_map]
          show _ = ((dueI ls i * ls.getD i 0 * (ls.take (i + 1)).count (ls.getD i 0) : Nat) : Int)
          rw [gd, Int.natCast_mul, Int.natCast_mul]
    · subst es
      rw [show ((ls.length : Nat) : Int).toNat = ls.length by omega]
      exact ⟨_, rfl, z _ x1⟩
end
end KL
namespace KL
open PySem PySem.Spec PyProof.Rows L2 GA GxR
local macro_rules | `(tactic| walk_at "sx") => `(tactic| simp only [L2.start, List.map_cons, List.map_nil, List.length_cons, List.length_nil, Nat.reduceAdd, Nat.reduceSub, List.replicate, List.cons_append, List.nil_append, tRet, tSeq, tNext, tIfS, tAsg, tDrop, gName, gSub, rSetL, gTup, gCons, gNil, tB, tNot, tTest, tAndV, tOrV, tNotV, tAnd, tOr, tIf, tOp, tUn, tThenZ, tThen, r1, kTyp, kTup, tVar, tC, tChain, tCB, tCons, tNil, rI0, rI, rEq, rNe, rRep, rIxT, rIxL, tCall, tTup, tLst, tTupRg, tLstRg, tRg1, tRg2, tPar, List.getElem?_cons_zero, List.getElem?_cons_succ, List.set_cons_zero, List.set_cons_succ, Option.some.injEq, exists_eq_left', exists_eq_left, V.ty.injEq, V.int.injEq, V.bl.injEq, V.ref.injEq, List.cons.injEq, and_true, true_and, wipe, exists_and_left, List.append_nil, reduceCtorEq, false_and, exists_false, false_or, or_false])
section
variable {P : Program} {w : World} {K : PySem.W.Frag} {mg : Str → Option Value} {base : Heap}
def spLaw (K : PySem.W.Frag) : Sp := fun vs H Q _ => ∃ (a : Addr) (ns : List Int), vs = [.ref a] ∧ SqL K H a (ns.map V.int) ∧ TabG H (PP K) ∧ ∀ H', Q (.bl true) H'
theorem two {G : Addr → Hp → Prop} {A : Prop} {H : Hp} {n : Nat} (rest : ∀ (ap : Addr) (H2 : Hp) (p : List Int), Ex H H2 → Pm H2 ap n p → G ap H2) (k : (∀ (ap : Addr) (H2 : Hp) (p : List Int), Ex H H2 → Pm H2 ap n p → G ap H2) → A) : A := k rest
theorem two1 {G : Addr → Hp → Prop} {A : Prop} {H : Hp} {n : Nat} {p : List Int} (rest : ∀ (ap : Addr) (H2 : Hp), Ex H H2 → Pm H2 ap n p → G ap H2) (k : (∀ (ap : Addr) (H2 : Hp), Ex H H2 → Pm H2 ap n p → G ap H2) → A) : A := k rest
theorem two2 {G : Hp → Prop} {A : Prop} {H : Hp} (rest : ∀ H2 : Hp, Ex H H2 → G H2) (k : (∀ H2 : Hp, Ex H H2 → G H2) → A) : A := k rest
theorem same0 {x y : Int} {A B : Prop} (h : x = y) (r : B) : if (!decide (x = y)) = true then A else B := by rw [decide_eq_true h]; exact iteF r
theorem ite2s {A B : Prop} {c : Bool} (h2 : ¬ c = true → B) (h1 : c = true → A) : if c = true then A else B := ite2 h1 h2
theorem ok_law (T : TX K mg base) : FnOk P w K mg base CX0 10 (He.ga K "law") (fdK K "law") ["script"] (spLaw K) := by
  refine T.F_law.ok sclaw (fun vs H Q E h => ?_) (fun cdv A outer s H vs Q E hr h => ?_)
  · obtain ⟨a, ns, rfl, _⟩ := h
    rfl
  · obtain ⟨a, ns, rfl, hS, hT, q⟩ := h
    refine ⟨_, (pss_cons (ps_set (i := 1) sclaw.nd rfl (.inl rfl) (pe_lst (pa_cons (pv 0) (pa_cons pe_int (pa_cons pe_int (pa_cons pe_int pa_nil))))))
      (pss_cons (ps_set (i := 2) sclaw.nd rfl (.inl rfl) (pe_call (ok__law_perm T) (hr.mono (by decide)) (by rfl) T.g__law_perm T.F__law_perm.kp T.b__law_perm .nil pass0 (pa_cons (pv 1) (pa_cons (pe_op op_add pe_int (pe_call (ok__law_taken T) (hr.mono (by decide)) (by rfl) T.g__law_taken T.F__law_taken.kp T.b__law_taken .nil pass0 (pa_cons (pv 1) (pa_cons pe_int pa_nil)))) pa_nil))))
      (pss_cons (ps_set (i := 3) sclaw.nd rfl (.inl rfl) (pe_ifExp (pt_cmpR op_gt (pe_call (ok__law_taken T) (hr.mono (by decide)) (by rfl) T.g__law_taken T.F__law_taken.kp T.b__law_taken .nil pass0 (pa_cons (pv 1) (pa_cons pe_int pa_nil))) pe_int (nomark _)) (pe_call (ok__law_near T) (hr.mono (by decide)) (by rfl) T.g__law_near T.F__law_near.kp T.b__law_near .nil pass0 (pa_cons (pv 1) (pa_cons (pv 2) pa_nil))) (pe_call (ok__law_perm T) (hr.mono (by decide)) (by rfl) T.g__law_perm T.F__law_perm.kp T.b__law_perm .nil pass0 (pa_cons (pv 1) (pa_cons (pe_callB (lenS (K := K) rfl) (by rfl) T.n_len PySem.boot_len (pa_cons (pv 2) pa_nil)) pa_nil)))))
      (pss_cons (ps_set (i := 4) sclaw.nd rfl (.inl rfl) (pe_call (ok_conjugator T) hr (by rfl) T.g_conjugator T.F_conjugator.kp T.b_conjugator .nil pass0 (pa_cons (pv 2) (pa_cons (pv 3) pa_nil))))
      (pss_cons (ps_if (pt_cmpR (neD (K := K) rfl hr) (pe_call (ok__law_lengths T) (hr.mono (by decide)) (by rfl) T.g__law_lengths T.F__law_lengths.kp T.b__law_lengths .nil pass0 (pa_cons (pv 2) pa_nil)) (pe_call (ok__law_lengths T) (hr.mono (by decide)) (by rfl) T.g__law_lengths T.F__law_lengths.kp T.b__law_lengths .nil pass0 (pa_cons (pv 3) pa_nil)) (nomark _)) (pss_one (ps_if (pt_cmpR op_notN (pv 4) pe_non (nomark _)) (pss_one (ps_ret pe_bl)) pss_nil)) (pss_one (ps_if (PW.pt (pw_or (pt_not (pt_val (pe_call (ok__law_is_perm T) (hr.mono (by decide)) (by rfl) T.g__law_is_perm T.F__law_is_perm.kp T.b__law_is_perm .nil pass0 (pa_cons (pe_callB (lenS (K := K) rfl) (by rfl) T.n_len PySem.boot_len (pa_cons (pv 2) pa_nil)) (pa_cons (pv 4) pa_nil))))) (pw_or1 (pt_cmpR (neD (K := K) rfl hr) (pe_call (ok__law_conj T) (hr.mono (by decide)) (by rfl) T.g__law_conj T.F__law_conj.kp T.b__law_conj .nil pass0 (pa_cons (pv 2) (pa_cons (pv 4) pa_nil))) (pv 3) (nomark _))))) (pss_one (ps_ret pe_bl)) pss_nil)))
      (pss_cons (ps_if (pt_not (pt_val (pe_call (ok__law_alike0 T) (hr.mono (by decide)) (by rfl) T.g__law_alike T.F__law_alike.kp T.b__law_alike .nil pass0 (pa_cons (pe_call (ok_centralizer_size T) (hr.mono (by decide)) (by rfl) T.g_centralizer_size T.F_centralizer_size.kp T.b_centralizer_size .nil pass0 (pa_cons (pv 2) pa_nil)) (pa_cons (pe_call (ok__law_due T) (hr.mono (by decide)) (by rfl) T.g__law_due T.F__law_due.kp T.b__law_due .nil pass0 (pa_cons (pe_call (ok__law_lengths T) (hr.mono (by decide)) (by rfl) T.g__law_lengths T.F__law_lengths.kp T.b__law_lengths .nil pass0 (pa_cons (pv 2) pa_nil)) pa_nil)) pa_nil))))) (pss_one (ps_ret pe_bl)) pss_nil)
      (pss_cons (ps_set (i := 5) sclaw.nd rfl (.inr rfl) (pe_op op_add pe_int (pe_call (ok__law_taken T) (hr.mono (by decide)) (by rfl) T.g__law_taken T.F__law_taken.kp T.b__law_taken .nil pass0 (pa_cons (pv 1) (pa_cons pe_int pa_nil)))))
      (pss_cons (ps_set (i := 6) sclaw.nd rfl (.inr rfl) (pe_call (ok__law_perm T) (hr.mono (by decide)) (by rfl) T.g__law_perm T.F__law_perm.kp T.b__law_perm .nil pass0 (pa_cons (pv 1) (pa_cons (pv 5) pa_nil))))
      (pss_cons (ps_set (i := 7) sclaw.nd rfl (.inl rfl) (pe_tupK (K := K) rfl (by rfl) T.n_tuple (pe_lc (own := [("at", 11)]) (g := gName 11) (tt := tYes) rfl sclaw.nd (pi_range1 (by rfl) T.n_range (pa_cons (pv 5) pa_nil)) (blkOk_by (N := ["script", "row", "p", "q", "found", "size", "few", "turn", "swap", "every", "many", "at", "g"]) (sc := defScope slaw) (by decide +kernel)) (fun _ _ _ _ _ => (pg_name (i := 11) sclaw.nd rfl (.inl rfl))) (fun _ _ _ _ _ => pts_nil) (fun _ _ _ _ _ => (pe_op op_mod (pe_op op_add (pv 11) pe_int) (pv 5))))))
      (pss_cons (ps_set (i := 8) sclaw.nd rfl (.inl rfl) (pe_ifExp (pt_cmpR op_gt (pv 5) pe_int (nomark _)) (pe_op (catA (K := K) rfl) (pe_tup (pa_cons pe_int (pa_cons pe_int pa_nil))) (pe_tupRg rfl (by rfl) T.n_tuple (prg_2 (by rfl) T.n_range pe_int (pv 5)))) (pe_tup (pa_cons pe_int pa_nil))))
      (pss_cons (ps_set (i := 9) sclaw.nd rfl (.inl rfl) (pe_call (ok__law_closure T) (hr.mono (by decide)) (by rfl) T.g__law_closure T.F__law_closure.kp T.b__law_closure .nil pass0 (pa_cons (pv 5) (pa_cons (pe_tup (pa_cons (pv 7) (pa_cons (pv 8) pa_nil))) pa_nil))))
      (pss_cons (ps_set (i := 10) sclaw.nd rfl (.inl rfl) (pe_callB (lenS (K := K) rfl) (by rfl) T.n_len PySem.boot_len (pa_cons (pe_lc (own := [("g", 12)]) (g := gName 12)  rfl sclaw.nd (piL (K := K) rfl (pv 9)) (blkOk_by (N := ["script", "row", "p", "q", "found", "size", "few", "turn", "swap", "every", "many", "at", "g"]) (sc := defScope slaw) (by decide +kernel)) (fun _ _ _ _ _ => (pg_name (i := 12) sclaw.nd rfl (.inl rfl))) (fun _ _ _ _ _ => (pts_one (pt_cmpR (eqD (K := K) rfl hr) (pe_call (ok__law_mul T) (hr.mono (by decide)) (by rfl) T.g__law_mul T.F__law_mul.kp T.b__law_mul .nil pass0 (pa_cons (pv 6) (pa_cons (pv 12) pa_nil))) (pe_call (ok__law_mul T) (hr.mono (by decide)) (by rfl) T.g__law_mul T.F__law_mul.kp T.b__law_mul .nil pass0 (pa_cons (pv 12) (pa_cons (pv 6) pa_nil))) (nomark _)))) (fun _ _ _ _ _ => (pv 12))) pa_nil)))
      (pss_one (ps_ret (pe_call (ok__law_alike0 T) (hr.mono (by decide)) (by rfl) T.g__law_alike T.F__law_alike.kp T.b__law_alike .nil pass0 (pa_cons (pe_call (ok_centralizer_size T) (hr.mono (by decide)) (by rfl) T.g_centralizer_size T.F_centralizer_size.kp T.b_centralizer_size .nil pass0 (pa_cons (pv 6) pa_nil)) (pa_cons (pv 10) pa_nil))))))))))))))))), ?_⟩
    walk_at "sx"
    refine ⟨by show 4 ≤ sizeLine; decide, fun r nr => ?_⟩
    have xr : Ex H (upd H r (.lst [.ref a, .int 0, .int 3005, .int 0])) := Ex.new nr
    have R0 : RowAt (upd H r (.lst [.ref a, .int 0, .int 3005, .int 0])) r a := ⟨_, _, _, upd_same, by omega, by omega, by omega, by omega⟩
    have S0 := xr.l ints_norow hS
    refine ⟨r, a, 12, ns, rfl, R0, S0, by omega, by omega, fun j H1 x1 hj => ⟨j, rfl, ?_⟩⟩
    obtain ⟨n, en, h1, h12⟩ : ∃ n : Nat, (1 + (j : Int)) = n ∧ 1 ≤ n ∧ n ≤ 12 := ⟨j + 1, by omega, by omega, by omega⟩
    rw [en]
    have xr1 := xr.trans x1
    refine ⟨r, a, n, ns, rfl, x1.row _ _ R0, xr1.l ints_norow hS, h1, by omega, fun ap H2 p x2 hp2 => ?_⟩
    have xr2 := xr1.trans x2
    have R2 := (x1.trans x2).row _ _ R0
    refine ⟨r, a, 6, ns, rfl, R2, xr2.l ints_norow hS, by omega, by omega, fun j2 H3 x3 hj2 => ⟨_, rfl, ?_⟩⟩
    have xr3 := xr2.trans x3
    have R3 := x3.row _ _ R2
    have hp3 := hp2.ex x3
    have hlp : (p.map V.int).length = n := by rw [List.length_map, hp2.is.len]
    refine two (H := H3) (n := n) ?_ (fun rest => ite2 (fun c => ⟨r, a, ap, n, p, ns, rfl, R3, xr3.l ints_norow hS, hp3, h1, h12, fun c H4 q x4 hq => rest c H4 q x4 hq⟩) (fun c => ?_))
    · intro aq H4 pq x4 hq4
      have xr4 := xr3.trans x4
      refine ⟨ap, aq, n, p, pq, rfl, hp3.ex x4, hq4, h1, h12, xr4.tab _ hT, fun v H5 x5 hv => ?_⟩
      have x45 := x4.trans x5
      have xr5 := xr4.trans x5
      have R5 := x45.row _ _ R3
      have hp5 := hp3.ex x45
      have hq5 := hq4.ex x5
      refine ⟨ap, n, p, rfl, hp5, h12, fun c1 H6 F1 ns1 x6 hF1 pm1 o1 hc1 => ?_⟩
      refine ⟨aq, n, pq, rfl, hq5.ex x6, h12, fun c2 H7 F2 ns2 x7 hF2 pm2 o2 hc2 => ?_⟩
      have x57 := x6.trans x7
      have al := alike_iff hp2.is hq4.is hF1 hF2 pm1 pm2 o1 o2
      refine ⟨.list (ns1.map PyData.int), .list (ns2.map PyData.int), dp_ints (x7.i hc1), dp_ints hc2, PySem.W.ke_shaped_ints _, PySem.W.ke_shaped_ints _, ?_⟩
      rw [eqvL_ints]
      refine ⟨_, rfl, ?_⟩
      refine two2 (H := H7) ?_ (fun rest => ite2s (fun g => by
          have A : Alike n p pq := al.mp (by
            apply Classical.byContradiction
            intro h
            exact g (by rw [decide_eq_false h]; rfl))
          have hw : ∃ (c : Addr) (g : List Int), v = .ref c ∧ Pm H5 c n g ∧ mulL (mulL (invL g) p) g = pq ∧ Alike n p pq := hv.elim (fun h => absurd A h.2) id
          exact hw.elim fun c hw => hw.elim fun g2 hw => by
            have ev := hw.1
            have hg7 := hw.2.1.ex x57
            have hcj := hw.2.2.1
            refine ⟨ap, rfl, _, .inr (.inl (.inl (hp5.ex x57).at_)), c, n, g2, by rw [hlp, ev], hg7, by omega, fun H8 x8 => ⟨_, rfl, iteF ⟨ap, c, n, p, g2, by rw [ev], (hp5.ex x57).ex x8, hg7.ex x8, by omega, fun d H9 q9 x9 hd eq9 => ?_⟩⟩⟩
            have hd9 : H9 d = some (.tup (pq.map V.int)) := by rw [hd.at_, eq9, hcj]
            have hq9 := ((hq5.ex x57).ex x8).ex x9
            refine ⟨.tuple (pq.map PyData.int), .tuple (pq.map PyData.int), dpT_ints hd9, dpT_ints hq9.at_, shapedT_ints _, shapedT_ints _, ?_⟩
            rw [eqvT_ints, decide_eq_true rfl]
            exact ⟨_, rfl, iteF (rest H9 (x8.trans x9))⟩) (fun g => by
          have na : ¬ Alike n p pq := fun A => by
            rw [decide_eq_true (al.mpr A)] at g
            cases g
          have ev : v = .non := hv.elim (fun h => h.1) (fun ⟨_, _, _, _, _, A⟩ => absurd A na)
          rw [show decide (v = V.non) = true from decide_eq_true ev]
          exact iteF (rest H7 (.refl _))))
      intro H8 x8
      have x58 := x57.trans x8
      have xr8 := xr5.trans x58
      have hp8 := hp5.ex x58
      have R8 := x58.row _ _ R5
      refine ⟨ap, n, p, rfl, hp8, h1, h12, xr8.tab _ hT, fun H9 R x9 hF => ?_⟩
      refine ⟨ap, n, p, rfl, hp8.ex x9, h12, fun c3 H10 S ms x10 hG pm3 o3 hc3 => ?_⟩
      have pos : ∀ x ∈ ms, 0 ≤ x := fun x hx => by
        obtain ⟨_, _, rfl⟩ := List.mem_map.mp (pm3.mem_iff.mp hx)
        exact Int.natCast_nonneg _
      have ems := ints_nats pos
      obtain ⟨ls, els⟩ : ∃ ls, ms.map Int.toNat = ls := ⟨_, rfl⟩
      rw [els] at ems
      have dc := due_cent hp2.is h12 hF hG pm3 ems
      refine ⟨c3, ls, rfl, by rw [← ems]; exact hc3, dc.2.1, dc.2.2, fun H11 x11 => ⟨_, _, rfl, fun H12 x12 => ⟨_, rfl, same0 (by rw [dc.1]) ?_⟩⟩⟩
      have x812 := ((x9.trans x10).trans x11).trans x12
      have xr12 := xr8.trans x812
      have R12 := x812.row _ _ R8
      refine ⟨r, a, 5, ns, rfl, R12, xr12.l ints_norow hS, by omega, by omega, fun j5 H13 x13 hj5 => ⟨j5, rfl, ?_⟩⟩
      obtain ⟨m, em, m1, m5⟩ : ∃ m : Nat, (1 + (j5 : Int)) = m ∧ 1 ≤ m ∧ m ≤ 5 := ⟨j5 + 1, by omega, by omega, by omega⟩
      rw [em]
      have xr13 := xr12.trans x13
      have R13 := x13.row _ _ R12
      refine ⟨r, a, m, ns, rfl, R13, xr13.l ints_norow hS, m1, by omega, fun fw H14 f x14 hf => ?_⟩
      have xr14 := xr13.trans x14
      have enm : ((m : Nat) : Int).toNat = m := by omega
      refine ⟨.int m, rfl, m, rfl, by omega, by omega, fun D nD => ?_⟩
      refine lc_it walk_range (fun i H15 => Ex H14 H15 ∧ H15 D = some (.lst ((turnI m i).map V.int))) ⟨Ex.new nD, upd_same⟩ (fun _ _ _ _ => trivial) (fun i x H15 H16 hi ⟨x15, hD⟩ ⟨e, ex⟩ => ?_) (fun H15 ⟨x15, hD⟩ => ?_)
      · subst e ex
        rw [enm] at hi
        refine ⟨rfl, yesI ?_⟩
        walk_at "sx"
        refine ⟨by omega, _, hD, ?_, x15.own nD, ?_⟩
        · unfold turnI
          rw [List.length_map, List.length_map, List.length_range]
          exact small1000 (by omega)
        · rw [upd_same]
          unfold turnI
          rw [List.range_succ, List.map_append, List.map_append]
          show _ = some (HO.lst (_ ++ [V.int (((i + 1) % m : Nat) : Int)]))
          rw [Int.natCast_emod, Int.natCast_add, Int.zero_add]
          rfl
      have hD : H15 D = some (.lst ((turnL m).map V.int)) := by rw [hD, enm]; rfl
      refine .inl ⟨D, rfl, _, sl_at hD, fun tu ntu => ?_⟩
      have x16 : Ex H15 (upd H15 tu (.tup ((turnL m).map V.int))) := Ex.new ntu
      have htu : Pm (upd H15 tu (.tup ((turnL m).map V.int))) tu m (turnL m) := ⟨upd_same, turn_pm m1 m5⟩
      generalize upd H15 tu (.tup ((turnL m).map V.int)) = H16 at x16 htu ⊢
      have x1416 := x15.trans x16
      refine two1 (H := H16) (n := m) (p := swapL m) ?_ (fun rest => ite2 (fun g => by
          have g := of_decide_eq_true g
          refine ⟨by show 2 ≤ sizeLine; decide, fun t1 nt1 => ⟨.of_le (by omega) (by omega) (by omega) (by omega), fun t2 nt2 => ?_⟩⟩
          have y1 : Ex H16 (upd H16 t1 (.tup [.int 1, .int 0])) := Ex.new nt1
          have y2 := y1.trans (Ex.new (o := .tup (rgV 2 (m : Int))) nt2)
          have s1 : upd (upd H16 t1 (.tup [.int 1, .int 0])) t2 (.tup (rgV 2 (m : Int))) t1 = some (.tup [.int 1, .int 0]) := by
            rw [upd_ne (ne_of_none upd_same nt2)]
            exact upd_same
          have big := swap_big (n := m) (by omega)
          refine ⟨t1, t2, [.int 1, .int 0], rgV 2 (m : Int), rfl, rfl, .inl (.inl s1), sq_new, ?_, (fun z => by cases z), fun _ z => ?_, fun _ _ t3 nt3 => ?_⟩
          · rw [rgV_length]
            show 2 + _ ≤ sizeLine
            exact Nat.le_of_lt (small1000 (by omega))
          · rw [z, List.append_nil] at big
            have s2 : Pm (upd (upd H16 t1 (.tup [.int 1, .int 0])) t2 (.tup (rgV 2 (m : Int)))) t1 m (swapL m) := ⟨by rw [s1, big], swap_pm m1 m5⟩
            generalize upd (upd H16 t1 (.tup [.int 1, .int 0])) t2 (.tup (rgV 2 (m : Int))) = H18 at y2 s2 ⊢
            exact rest t1 H18 y2 s2
          · have y3 := y2.trans (Ex.new (o := .tup ([V.int 1, V.int 0] ++ rgV 2 (m : Int))) nt3)
            have s3 : Pm (upd (upd (upd H16 t1 (.tup [.int 1, .int 0])) t2 (.tup (rgV 2 (m : Int)))) t3 (.tup ([V.int 1, V.int 0] ++ rgV 2 (m : Int)))) t3 m (swapL m) := ⟨by rw [big]; exact upd_same, swap_pm m1 m5⟩
            generalize upd (upd (upd H16 t1 (.tup [.int 1, .int 0])) t2 (.tup (rgV 2 (m : Int)))) t3 (.tup ([V.int 1, V.int 0] ++ rgV 2 (m : Int))) = H18 at y3 s3 ⊢
            exact rest t3 H18 y3 s3) (fun g => by
          have g : ¬ ((1 : Int) < m) := fun h => g (decide_eq_true h)
          have e1 : m = 1 := by omega
          refine ⟨by show 1 ≤ sizeLine; decide, fun t1 nt1 => ?_⟩
          have y1 : Ex H16 (upd H16 t1 (.tup [.int 0])) := Ex.new nt1
          have s1 : Pm (upd H16 t1 (.tup [.int 0])) t1 m (swapL m) := ⟨by rw [e1]; exact upd_same, swap_pm m1 m5⟩
          generalize upd H16 t1 (.tup [.int 0]) = H18 at y1 s1 ⊢
          exact rest t1 H18 y1 s1))
      intro sw H17 x17 hsw
      refine ⟨by show 2 ≤ sizeLine; decide, fun t nt => ?_⟩
      have x1417 := x1416.trans x17
      have x18 : Ex H17 (upd H17 t (.tup [.ref tu, .ref sw])) := Ex.new nt
      have ht18 : upd H17 t (.tup [.ref tu, .ref sw]) t = some (.tup [.ref tu, .ref sw]) := upd_same
      generalize upd H17 t (.tup [.ref tu, .ref sw]) = H18 at x18 ht18 ⊢
      have hf18 := hf.ex (x1417.trans x18)
      refine ⟨t, tu, sw, m, turnL m, swapL m, rfl, ht18, (htu.ex x17).ex x18, hsw.ex x18, m1, by omega, fun ce H19 Es x19 hce hEs hPm => ?_⟩
      have eE : cloL (turnL m) (swapL m) 2000 0 [unitL m] = every m := rfl
      rw [eE] at hEs hPm
      have hf19 := hf18.ex x19
      obtain ⟨FE, feE⟩ := few_commute hf.is m1 m5
      have lE : (every m).length ≤ 120 := by
        obtain rfl | rfl | rfl | rfl | rfl : m = 1 ∨ m = 2 ∨ m = 3 ∨ m = 4 ∨ m = 5 := by omega
        all_goals decide +kernel
      have hEl : (Es.map V.ref).length = (every m).length := by rw [List.length_map, hEs.len]
      refine ⟨.ref ce, rfl, ce, rfl, ⟨_, sl_at hce⟩, fun D nD2 => ?_⟩
      refine lc_it (walk_list (xs := Es.map V.ref)) (fun i H20 => ∃ Bs : List Addr, Ex H19 H20 ∧ H20 D = some (.lst (Bs.map V.ref)) ∧ Bs.length = (((every m).take i).filter (comB f)).length) ⟨[], Ex.new nD2, upd_same, by rw [List.take_zero]; rfl⟩ (fun i H20 _ ⟨_, x20, _⟩ => sl_at (x20.st _ _ hce refs_norow)) (fun i x H20 H21 hi ⟨Bs, x20, hD, hB⟩ ⟨e, hx⟩ => ?_) (fun H20 ⟨Bs, x20, hD, hB⟩ => ?_)
      · subst e
        rw [hEl] at hi
        have hg : (every m)[i]? = some (every m)[i] := List.getElem?_eq_getElem hi
        obtain ⟨u, hu, hut⟩ := (hEs.ex x20).at_ i _ hg
        have gp := hPm _ (List.mem_of_getElem? hg)
        generalize (every m)[i] = g at hg hut gp
        have eu : x = .ref u := by
          rw [List.getElem?_map, hu] at hx
          exact (Option.some.inj hx).symm
        subst eu
        refine ⟨rfl, ?_⟩
        have et : (every m).take (i + 1) = (every m).take i ++ [g] := by rw [List.take_add_one, hg]; rfl
        walk_at "sx"
        have lB : Bs.length ≤ 120 := by
          rw [hB]
          exact Nat.le_trans (List.length_filter_le ..) (by rw [List.length_take]; omega)
        refine ⟨fw, u, m, f, g, rfl, hf19.ex x20, ⟨hut, gp⟩, by omega, fun d1 H22 x22 hd1 => ?_⟩
        refine ⟨u, fw, m, g, f, rfl, Pm.ex x22 ⟨hut, gp⟩, (hf19.ex x20).ex x22, by omega, fun d2 H23 x23 hd2 => ?_⟩
        refine ⟨.tuple ((mulL f g).map PyData.int), .tuple ((mulL g f).map PyData.int), dpT_ints (hd1.ex x23).at_, dpT_ints hd2.at_, shapedT_ints _, shapedT_ints _, ?_⟩
        rw [eqvT_ints, et, List.filter_append]
        have hD23 := (x22.trans x23).st _ _ hD refs_norow
        have x2023 := x20.trans (x22.trans x23)
        refine ⟨_, rfl, ite2 (fun c => ?_) (fun c => ?_)⟩
        · have cb : comB f g = true := c
          rw [List.filter_cons_of_pos cb, List.filter_nil]
          exact ⟨_, hD23, by rw [List.length_map]; exact small1000 (by omega), x2023.own nD2, Bs ++ [u], by rw [upd_same, List.map_append]; rfl, by rw [List.length_append, List.length_append, hB]; rfl⟩
        · have cb : ¬ comB f g = true := c
          rw [List.filter_cons_of_neg cb, List.filter_nil, List.append_nil]
          exact ⟨x2023, Bs, hD23, hB⟩
      · rw [hEl, List.take_length] at hB
        have hf20 := hf19.ex x20
        refine ⟨D, rfl, _, .inl (sl_at hD), fw, m, f, rfl, hf20, m1, by omega, ((((xr14.trans x1417).trans x18).trans x19).trans x20).tab _ hT, fun H21 R5 x21 hF5 => ?_⟩
        refine ⟨_, _, rfl, fun H22 x22 => ?_⟩
        rw [List.length_map, hB, feE.2, cent_same hf.is hF5 feE.1, decide_eq_true rfl]
        exact q H22
    · refine ⟨ap, rfl, _, .inr (.inl (.inl hp3.at_)), r, a, n, ns, by rw [hlp], R3, xr3.l ints_norow hS, h1, by omega, fun c H4 q x4 hq => rest c H4 q x4 hq⟩
theorem law_start {H : Hp} {a : Addr} {ns : List Int} (_ : ns.length ≤ 63) (_ : ∀ z ∈ ns, Builtin.Int.intBits z ≤ 1048576) (hS : SqL K H a (ns.map V.int)) (hT : ∀ x ∈ tabL, TabG H (He.cT K (x, none)).2) : spLaw K [.ref a] H (fun v _ => v = .bl true) fun _ _ _ => False :=
  ⟨a, ns, rfl, hS, hT "are_points" (List.mem_cons_self ..), fun _ => rfl⟩
end
end KL
namespace KL
open PySem PySem.Spec PyProof.Rows L2 GA GxR

def d_is_between : He.DefD := ⟨("is_between", none), "is_between", "is_between", defArgs sis_between, defBody sis_between, defScope sis_between, [], []⟩
def d_is_tuple_of : He.DefD := ⟨("is_tuple_of", none), "is_tuple_of", "is_tuple_of", defArgs sis_tuple_of, defBody sis_tuple_of, defScope sis_tuple_of, [], []⟩
def d_is_degree : He.DefD := ⟨("is_degree", none), "is_degree", "is_degree", defArgs sis_degree, defBody sis_degree, defScope sis_degree, [], []⟩
def d_is_point : He.DefD := ⟨("is_point", none), "is_point", "is_point", defArgs sis_point, defBody sis_point, defScope sis_point, [], []⟩
def d_are_points : He.DefD := ⟨("are_points", none), "are_points", "are_points", defArgs sare_points, defBody sare_points, defScope sare_points, [], []⟩
def d_are_distinct_points : He.DefD := ⟨("are_distinct_points", none), "are_distinct_points", "are_distinct_points", defArgs sare_distinct_points, defBody sare_distinct_points, defScope sare_distinct_points, [], []⟩
def d_is_permutation : He.DefD := ⟨("is_permutation", none), "is_permutation", "is_permutation", defArgs sis_permutation, defBody sis_permutation, defScope sis_permutation, [], []⟩
def d_is_any_permutation : He.DefD := ⟨("is_any_permutation", none), "is_any_permutation", "is_any_permutation", defArgs sis_any_permutation, defBody sis_any_permutation, defScope sis_any_permutation, [], []⟩
def d_check_any_permutation : He.DefD := ⟨("check_any_permutation", none), "check_any_permutation", "check_any_permutation", defArgs scheck_any_permutation, defBody scheck_any_permutation, defScope scheck_any_permutation, [], []⟩
def d_check_permutation : He.DefD := ⟨("check_permutation", none), "check_permutation", "check_permutation", defArgs scheck_permutation, defBody scheck_permutation, defScope scheck_permutation, [], []⟩
def d_check_two_permutations : He.DefD := ⟨("check_two_permutations", none), "check_two_permutations", "check_two_permutations", defArgs scheck_two_permutations, defBody scheck_two_permutations, defScope scheck_two_permutations, [], []⟩
def d_full_cycles : He.DefD := ⟨("full_cycles", none), "full_cycles", "full_cycles", defArgs sfull_cycles, defBody sfull_cycles, defScope sfull_cycles, [], []⟩
def d_conjugator : He.DefD := ⟨("conjugator", none), "conjugator", "conjugator", defArgs sconjugator, defBody sconjugator, defScope sconjugator, [], []⟩
def d_centralizer_size : He.DefD := ⟨("centralizer_size", none), "centralizer_size", "centralizer_size", defArgs scentralizer_size, defBody scentralizer_size, defScope scentralizer_size, [], []⟩
def d__by_length : He.DefD := ⟨("_by_length", none), "_by_length", "_by_length", defArgs s_by_length, defBody s_by_length, defScope s_by_length, [], []⟩
def d__law_taken : He.DefD := ⟨("_law_taken", none), "_law_taken", "_law_taken", defArgs s_law_taken, defBody s_law_taken, defScope s_law_taken, [], []⟩
def d__law_alike : He.DefD := ⟨("_law_alike", none), "_law_alike", "_law_alike", defArgs s_law_alike, defBody s_law_alike, defScope s_law_alike, [], []⟩
def d__law_unit : He.DefD := ⟨("_law_unit", none), "_law_unit", "_law_unit", defArgs s_law_unit, defBody s_law_unit, defScope s_law_unit, [], []⟩
def d__law_mul : He.DefD := ⟨("_law_mul", none), "_law_mul", "_law_mul", defArgs s_law_mul, defBody s_law_mul, defScope s_law_mul, [], []⟩
def d__law_inv : He.DefD := ⟨("_law_inv", none), "_law_inv", "_law_inv", defArgs s_law_inv, defBody s_law_inv, defScope s_law_inv, [], []⟩
def d__law_conj : He.DefD := ⟨("_law_conj", none), "_law_conj", "_law_conj", defArgs s_law_conj, defBody s_law_conj, defScope s_law_conj, [], []⟩
def d__law_is_perm : He.DefD := ⟨("_law_is_perm", none), "_law_is_perm", "_law_is_perm", defArgs s_law_is_perm, defBody s_law_is_perm, defScope s_law_is_perm, [], []⟩
def d__law_perm : He.DefD := ⟨("_law_perm", none), "_law_perm", "_law_perm", defArgs s_law_perm, defBody s_law_perm, defScope s_law_perm, [], []⟩
def d__law_closure : He.DefD := ⟨("_law_closure", none), "_law_closure", "_law_closure", defArgs s_law_closure, defBody s_law_closure, defScope s_law_closure, [], []⟩
def d__law_lengths : He.DefD := ⟨("_law_lengths", none), "_law_lengths", "_law_lengths", defArgs s_law_lengths, defBody s_law_lengths, defScope s_law_lengths, [], []⟩
def d__law_near : He.DefD := ⟨("_law_near", none), "_law_near", "_law_near", defArgs s_law_near, defBody s_law_near, defScope s_law_near, [], []⟩
def d__law_due : He.DefD := ⟨("_law_due", none), "_law_due", "_law_due", defArgs s_law_due, defBody s_law_due, defScope s_law_due, [], []⟩
def d_law : He.DefD := ⟨("law", none), "law", "law", defArgs slaw, defBody slaw, defScope slaw, [], []⟩
def fnL : List He.DefD := [d_is_between, d_is_tuple_of, d_is_degree, d_is_point, d_are_points, d_are_distinct_points, d_is_permutation, d_is_any_permutation, d_check_any_permutation, d_check_permutation, d_check_two_permutations, d_full_cycles, d_conjugator, d_centralizer_size, d__by_length, d__law_taken, d__law_alike, d__law_unit, d__law_mul, d__law_inv, d__law_conj, d__law_is_perm, d__law_perm, d__law_closure, d__law_lengths, d__law_near, d__law_due, d_law]
def faL : List He.Fa := [.glo "is_between", .glo "is_tuple_of", .glo "is_degree", .glo "is_point", .glo "are_points", .glo "are_distinct_points", .glo "is_permutation", .glo "is_any_permutation", .glo "check_any_permutation", .glo "check_permutation", .glo "check_two_permutations", .glo "full_cycles", .glo "conjugator", .glo "centralizer_size", .glo "_by_length", .glo "_law_taken", .glo "_law_alike", .glo "_law_unit", .glo "_law_mul", .glo "_law_inv", .glo "_law_conj", .glo "_law_is_perm", .glo "_law_perm", .glo "_law_closure", .glo "_law_lengths", .glo "_law_near", .glo "_law_due", .glo "law", .free "all", .free "bool", .free "int", .free "isinstance", .free "len", .free "list", .free "range", .free "set", .free "sorted", .free "str", .free "tuple", .free "type", .free "zip", .int "MOST_DEGREE" 12]
def tfL : List He.Defn := tabL.map fun x => (x, none)
def exF (K : PySem.W.Frag) : Bool := (He.eqO (PySem.W.nsIn K mainGlobals "factorial") (some (some (.builtin "math.factorial"))))
theorem tx_of {K : PySem.W.Frag} {mg : Str → Option Value} {base h : Heap} {w : World} (X : K.In h) (G : h.Ns mainGlobals mg) (c : He.SaysX faL fnL [] tfL exF w h K) (TB : ∀ p ∈ tfL.map (He.cT K), GxR.TabB base mg p.1 p.2) : TX K mg base := by
  have F0 := fun_of (st := sis_between) (c.t.d.def_ 0 (d := d_is_between) rfl)
  have B0 := F0.binds (ps := ["value", "low", "high"]) fun _ _ _ _ _ _ us hl => match us, hl with | [_, _, _], _ => rfl
  have F1 := fun_of (st := sis_tuple_of) (c.t.d.def_ 1 (d := d_is_tuple_of) rfl)
  have B1 := F1.binds (ps := ["value", "size"]) fun _ _ _ _ _ _ us hl => match us, hl with | [_, _], _ => rfl
  have F2 := fun_of (st := sis_degree) (c.t.d.def_ 2 (d := d_is_degree) rfl)
  have B2 := F2.binds (ps := ["value"]) fun _ _ _ _ _ _ us hl => match us, hl with | [_], _ => rfl
  have F3 := fun_of (st := sis_point) (c.t.d.def_ 3 (d := d_is_point) rfl)
  have B3 := F3.binds (ps := ["degree", "value"]) fun _ _ _ _ _ _ us hl => match us, hl with | [_, _], _ => rfl
  have F4 := fun_of (st := sare_points) (c.t.d.def_ 4 (d := d_are_points) rfl)
  have B4 := F4.binds (ps := ["degree", "value"]) fun _ _ _ _ _ _ us hl => match us, hl with | [_, _], _ => rfl
  have F5 := fun_of (st := sare_distinct_points) (c.t.d.def_ 5 (d := d_are_distinct_points) rfl)
  have B5 := F5.binds (ps := ["degree", "value"]) fun _ _ _ _ _ _ us hl => match us, hl with | [_, _], _ => rfl
  have F6 := fun_of (st := sis_permutation) (c.t.d.def_ 6 (d := d_is_permutation) rfl)
  have B6 := F6.binds (ps := ["degree", "value"]) fun _ _ _ _ _ _ us hl => match us, hl with | [_, _], _ => rfl
  have F7 := fun_of (st := sis_any_permutation) (c.t.d.def_ 7 (d := d_is_any_permutation) rfl)
  have B7 := F7.binds (ps := ["value"]) fun _ _ _ _ _ _ us hl => match us, hl with | [_], _ => rfl
  have F8 := fun_of (st := scheck_any_permutation) (c.t.d.def_ 8 (d := d_check_any_permutation) rfl)
  have B8 := F8.binds (ps := ["value"]) fun _ _ _ _ _ _ us hl => match us, hl with | [_], _ => rfl
  have F9 := fun_of (st := scheck_permutation) (c.t.d.def_ 9 (d := d_check_permutation) rfl)
  have B9 := F9.binds (ps := ["degree", "value"]) fun _ _ _ _ _ _ us hl => match us, hl with | [_, _], _ => rfl
  have F10 := fun_of (st := scheck_two_permutations) (c.t.d.def_ 10 (d := d_check_two_permutations) rfl)
  have B10 := F10.binds (ps := ["p", "q"]) fun _ _ _ _ _ _ us hl => match us, hl with | [_, _], _ => rfl
  have F11 := fun_of (st := sfull_cycles) (c.t.d.def_ 11 (d := d_full_cycles) rfl)
  have B11 := F11.binds (ps := ["p"]) fun _ _ _ _ _ _ us hl => match us, hl with | [_], _ => rfl
  have F12 := fun_of (st := sconjugator) (c.t.d.def_ 12 (d := d_conjugator) rfl)
  have B12 := F12.binds (ps := ["p", "q"]) fun _ _ _ _ _ _ us hl => match us, hl with | [_, _], _ => rfl
  have F13 := fun_of (st := scentralizer_size) (c.t.d.def_ 13 (d := d_centralizer_size) rfl)
  have B13 := F13.binds (ps := ["p"]) fun _ _ _ _ _ _ us hl => match us, hl with | [_], _ => rfl
  have F14 := fun_of (st := s_by_length) (c.t.d.def_ 14 (d := d__by_length) rfl)
  have B14 := F14.binds (ps := ["p"]) fun _ _ _ _ _ _ us hl => match us, hl with | [_], _ => rfl
  have F15 := fun_of (st := s_law_taken) (c.t.d.def_ 15 (d := d__law_taken) rfl)
  have B15 := F15.binds (ps := ["row", "many"]) fun _ _ _ _ _ _ us hl => match us, hl with | [_, _], _ => rfl
  have F16 := fun_of (st := s_law_alike) (c.t.d.def_ 16 (d := d__law_alike) rfl)
  have B16 := F16.binds (ps := ["found", "due"]) fun _ _ _ _ _ _ us hl => match us, hl with | [_, _], _ => rfl
  have F17 := fun_of (st := s_law_unit) (c.t.d.def_ 17 (d := d__law_unit) rfl)
  have B17 := F17.binds (ps := ["degree"]) fun _ _ _ _ _ _ us hl => match us, hl with | [_], _ => rfl
  have F18 := fun_of (st := s_law_mul) (c.t.d.def_ 18 (d := d__law_mul) rfl)
  have B18 := F18.binds (ps := ["p", "q"]) fun _ _ _ _ _ _ us hl => match us, hl with | [_, _], _ => rfl
  have F19 := fun_of (st := s_law_inv) (c.t.d.def_ 19 (d := d__law_inv) rfl)
  have B19 := F19.binds (ps := ["p"]) fun _ _ _ _ _ _ us hl => match us, hl with | [_], _ => rfl
  have F20 := fun_of (st := s_law_conj) (c.t.d.def_ 20 (d := d__law_conj) rfl)
  have B20 := F20.binds (ps := ["p", "g"]) fun _ _ _ _ _ _ us hl => match us, hl with | [_, _], _ => rfl
  have F21 := fun_of (st := s_law_is_perm) (c.t.d.def_ 21 (d := d__law_is_perm) rfl)
  have B21 := F21.binds (ps := ["degree", "value"]) fun _ _ _ _ _ _ us hl => match us, hl with | [_, _], _ => rfl
  have F22 := fun_of (st := s_law_perm) (c.t.d.def_ 22 (d := d__law_perm) rfl)
  have B22 := F22.binds (ps := ["row", "degree"]) fun _ _ _ _ _ _ us hl => match us, hl with | [_, _], _ => rfl
  have F23 := fun_of (st := s_law_closure) (c.t.d.def_ 23 (d := d__law_closure) rfl)
  have B23 := F23.binds (ps := ["degree", "gens"]) fun _ _ _ _ _ _ us hl => match us, hl with | [_, _], _ => rfl
  have F24 := fun_of (st := s_law_lengths) (c.t.d.def_ 24 (d := d__law_lengths) rfl)
  have B24 := F24.binds (ps := ["p"]) fun _ _ _ _ _ _ us hl => match us, hl with | [_], _ => rfl
  have F25 := fun_of (st := s_law_near) (c.t.d.def_ 25 (d := d__law_near) rfl)
  have B25 := F25.binds (ps := ["row", "p"]) fun _ _ _ _ _ _ us hl => match us, hl with | [_, _], _ => rfl
  have F26 := fun_of (st := s_law_due) (c.t.d.def_ 26 (d := d__law_due) rfl)
  have B26 := F26.binds (ps := ["lengths"]) fun _ _ _ _ _ _ us hl => match us, hl with | [_], _ => rfl
  have F27 := fun_of (st := slaw) (c.t.d.def_ 27 (d := d_law) rfl)
  have B27 := F27.binds (ps := ["script"]) fun _ _ _ _ _ _ us hl => match us, hl with | [_], _ => rfl
  exact ⟨F0,
    B0,
    He.glo_ok X G (c.t.d.fact 0 (f := .glo "is_between") rfl),
    F1,
    B1,
    He.glo_ok X G (c.t.d.fact 1 (f := .glo "is_tuple_of") rfl),
    F2,
    B2,
    He.glo_ok X G (c.t.d.fact 2 (f := .glo "is_degree") rfl),
    F3,
    B3,
    He.glo_ok X G (c.t.d.fact 3 (f := .glo "is_point") rfl),
    F4,
    B4,
    He.glo_ok X G (c.t.d.fact 4 (f := .glo "are_points") rfl),
    F5,
    B5,
    He.glo_ok X G (c.t.d.fact 5 (f := .glo "are_distinct_points") rfl),
    F6,
    B6,
    He.glo_ok X G (c.t.d.fact 6 (f := .glo "is_permutation") rfl),
    F7,
    B7,
    He.glo_ok X G (c.t.d.fact 7 (f := .glo "is_any_permutation") rfl),
    F8,
    B8,
    He.glo_ok X G (c.t.d.fact 8 (f := .glo "check_any_permutation") rfl),
    F9,
    B9,
    He.glo_ok X G (c.t.d.fact 9 (f := .glo "check_permutation") rfl),
    F10,
    B10,
    He.glo_ok X G (c.t.d.fact 10 (f := .glo "check_two_permutations") rfl),
    F11,
    B11,
    He.glo_ok X G (c.t.d.fact 11 (f := .glo "full_cycles") rfl),
    F12,
    B12,
    He.glo_ok X G (c.t.d.fact 12 (f := .glo "conjugator") rfl),
    F13,
    B13,
    He.glo_ok X G (c.t.d.fact 13 (f := .glo "centralizer_size") rfl),
    F14,
    B14,
    He.glo_ok X G (c.t.d.fact 14 (f := .glo "_by_length") rfl),
    F15,
    B15,
    He.glo_ok X G (c.t.d.fact 15 (f := .glo "_law_taken") rfl),
    F16,
    B16,
    He.glo_ok X G (c.t.d.fact 16 (f := .glo "_law_alike") rfl),
    F17,
    B17,
    He.glo_ok X G (c.t.d.fact 17 (f := .glo "_law_unit") rfl),
    F18,
    B18,
    He.glo_ok X G (c.t.d.fact 18 (f := .glo "_law_mul") rfl),
    F19,
    B19,
    He.glo_ok X G (c.t.d.fact 19 (f := .glo "_law_inv") rfl),
    F20,
    B20,
    He.glo_ok X G (c.t.d.fact 20 (f := .glo "_law_conj") rfl),
    F21,
    B21,
    He.glo_ok X G (c.t.d.fact 21 (f := .glo "_law_is_perm") rfl),
    F22,
    B22,
    He.glo_ok X G (c.t.d.fact 22 (f := .glo "_law_perm") rfl),
    F23,
    B23,
    He.glo_ok X G (c.t.d.fact 23 (f := .glo "_law_closure") rfl),
    F24,
    B24,
    He.glo_ok X G (c.t.d.fact 24 (f := .glo "_law_lengths") rfl),
    F25,
    B25,
    He.glo_ok X G (c.t.d.fact 25 (f := .glo "_law_near") rfl),
    F26,
    B26,
    He.glo_ok X G (c.t.d.fact 26 (f := .glo "_law_due") rfl),
    F27,
    B27,
    He.glo_ok X G (c.t.d.fact 27 (f := .glo "law") rfl),
    He.free_ok X G (c.t.d.fact 28 (f := .free "all") rfl),
    He.free_ok X G (c.t.d.fact 29 (f := .free "bool") rfl),
    He.free_ok X G (c.t.d.fact 30 (f := .free "int") rfl),
    He.free_ok X G (c.t.d.fact 31 (f := .free "isinstance") rfl),
    He.free_ok X G (c.t.d.fact 32 (f := .free "len") rfl),
    He.free_ok X G (c.t.d.fact 33 (f := .free "list") rfl),
    He.free_ok X G (c.t.d.fact 34 (f := .free "range") rfl),
    He.free_ok X G (c.t.d.fact 35 (f := .free "set") rfl),
    He.free_ok X G (c.t.d.fact 36 (f := .free "sorted") rfl),
    He.free_ok X G (c.t.d.fact 37 (f := .free "str") rfl),
    He.free_ok X G (c.t.d.fact 38 (f := .free "tuple") rfl),
    He.free_ok X G (c.t.d.fact 39 (f := .free "type") rfl),
    He.free_ok X G (c.t.d.fact 40 (f := .free "zip") rfl),
    PySem.W.mg_of X G (He.eqO_ok c.more),
    gi_ok (He.int_ok X G (c.t.d.fact 41 (f := .int "MOST_DEGREE" 12) rfl)),
    TB (He.cT K ("are_points", none)) (List.mem_map.mpr ⟨("are_points", none), by simp [tfL, tabL], rfl⟩)⟩
abbrev R : PySem.W.OpenRow := PySem.W.OpenLaw.row PySem.Challenge.rw_stronggens_k05_whole_conjugates
abbrev hk : PySem.W.Hook := He.hookX 4 faL fnL [] tfL exF
abbrev others : List Str := ["GroupError", "BadPermutation", "MOST_DEGREE", "is_between", "is_tuple_of", "is_degree", "is_point", "are_points", "are_distinct_points", "is_permutation", "is_any_permutation", "check_any_permutation", "check_permutation", "check_two_permutations", "full_cycles", "conjugator", "centralizer_size", "_by_length", "_law_taken", "_law_alike", "_law_unit", "_law_mul", "_law_inv", "_law_conj", "_law_is_perm", "_law_perm", "_law_closure", "_law_lengths", "_law_near", "_law_due"]
def ob (s : PySem.W.SharedT) : He.AlX := He.obsX 4 faL fnL [] tfL exF (HandSHeadRun.getT s)
theorem ob_eq (s : PySem.W.SharedT) : ob s = hk.obs s.abs := He.obsX_eq (HandSHeadRun.getT_eq s)
set_option maxHeartbeats 0 in
theorem run (w : World) : HandSHeadRun.RunEqI R (PySem.W.view R.prog [0, 36]) hk ob 4000 ["GroupError", "BadPermutation", "MOST_DEGREE", "is_between", "is_tuple_of", "is_degree", "is_point", "are_points", "are_distinct_points", "is_permutation", "is_any_permutation", "check_any_permutation", "check_permutation", "check_two_permutations", "full_cycles", "conjugator", "centralizer_size", "_by_length", "_law_taken", "_law_alike", "_law_unit", "_law_mul", "_law_inv", "_law_conj", "_law_is_perm", "_law_perm", "_law_closure", "_law_lengths", "_law_near", "_law_due"] w := by
  unfold HandSHeadRun.RunEqI
  kernel_rfl
theorem facts {w : World} {K : PySem.W.Frag} {h : Heap} {mg : Str → Option Value} {f : Addr} (X : K.In h) (G : h.Ns mainGlobals mg) (hfa : mg ("law" : Str) = some (.ref f)) (c : He.SaysX faL fnL [] tfL exF w h K) :
    LamX.LawAtS PySem.Challenge.rw_stronggens_k05_whole_conjugates w K CX0 10 63 "script" mg f h := by
  obtain ⟨fd0, F0⟩ := c.t.d.def_ 27 (d := d_law) rfl
  have e := hfa.symm.trans (He.glo_ok X G (c.t.d.fact 27 (f := .glo "law") rfl))
  cases e
  have F : Fun K "law" "law" slaw (He.ga K "law") (fdK K "law") := fun_of ⟨fd0, F0⟩
  obtain ⟨oc, od, kV, doc, pm, an, cdv, ct, osl, ef, lk, hcd⟩ := F.ex
  refine ⟨fdK K "law", tfL.map (He.cT K), spLaw K, ?_, ?_, ?_, ?_, ?_, ?_⟩
  · intro p hp
    obtain ⟨q, hq, rfl⟩ := List.mem_map.mp hp
    exact c.empty q hq
  · intro p hp
    obtain ⟨q, hq, rfl⟩ := List.mem_map.mp hp
    exact c.out q hq
  · intro p hp
    obtain ⟨q, hq, rfl⟩ := List.mem_map.mp hp
    exact PySem.W.codeHd_of_K X (c.hd q hq)
  · intro s u
    rw [ef]
    exact .of_eq rfl
  · intro H a ns hl hb hH hS
    exact law_start hl hb hS fun x hx => ⟨#[], hH (He.cT K (x, none)) (List.mem_map.mpr ⟨(x, none), List.mem_map.mpr ⟨x, hx, rfl⟩, rfl⟩), by simp [TriplesOk]⟩
  · intro base hb hg hT
    exact ok_law (tx_of X G c fun p hp => ⟨(hT p hp).code, (hT p hp).bm, (hT p hp).gP⟩)
end KL
open PySem PySem.W PySem.Calls PyProof.Rows
set_option maxHeartbeats 0 in
theorem PySem.Challenge.cw_stronggens_k05_whole_conjugates_holds : PySem.Challenge.rw_stronggens_k05_whole_conjugates.Holds := by
  w_on; o_law
  refine HandSHeadRun.head_imp (r := OpenLaw.row PySem.Challenge.rw_stronggens_k05_whole_conjugates) (q := view (OpenLaw.row PySem.Challenge.rw_stronggens_k05_whole_conjugates).prog [0, 36]) (H := KL.hk) (ob := KL.ob) (M := 4000) (loose := ["GroupError", "BadPermutation", "MOST_DEGREE", "is_between", "is_tuple_of", "is_degree", "is_point", "are_points", "are_distinct_points", "is_permutation", "is_any_permutation", "check_any_permutation", "check_permutation", "check_two_permutations", "full_cycles", "conjugator", "centralizer_size", "_by_length", "_law_taken", "_law_alike", "_law_unit", "_law_mul", "_law_inv", "_law_conj", "_law_is_perm", "_law_perm", "_law_closure", "_law_lengths", "_law_near", "_law_due"]) (d := HandSHeadRun.topDef (OpenLaw.row PySem.Challenge.rw_stronggens_k05_whole_conjugates).prog 36) (kwd := []) KL.ob_eq
    KL.run (by kernel_rfl) (by kernel_rfl) (by kernel_rfl) (by rfl) (by first | assumption | decide +kernel) (by decide +kernel) ⟨rfl, rfl, rfl, rfl, rfl, by decide +kernel⟩ ?hw ?hc
  case hw => w_witness2
  case hc =>
    refine LamX.walk_ofTsE (l := PySem.Challenge.rw_stronggens_k05_whole_conjugates) (n := 63) (k := 10) (x := "script") (CX := fun _ => L2.CX0) rfl (by decide) (by kernel_rfl) ⟨rfl, by decide, by decide⟩ ?F (fun _ _ _ _ _ z => z)
    intro w mg fa h Y G hmg0
    obtain ⟨K, KX, c⟩ := Y
    have hmg : mg ("law" : PySem.Str) = some (.ref fa) := by
      have e : (HandSHeadRun.topDef (OpenLaw.row PySem.Challenge.rw_stronggens_k05_whole_conjugates).prog 36).name = ("law" : PySem.Str) := by kernel_rfl
      rw [← e]
      exact hmg0
    exact ⟨K, KX, KL.facts KX G hmg c⟩

