import PyProof.Rows.All
import Wide.All
import OpenK.AllK
import Wide.FinOn
import HandS.ForMost
import HandS.Conv
import HandS.AnyAll
import HandS.Nested
import HandS.Walk
import KE.GoesEnum
import HandS.SetFor
import HandS.IsInst
import HandS.Codes
import HandS.TupAny
import HandS.SortInts
import HandS.Wide
import HandS.Zip
import HandS.Head0
import HandS.Head1
import HandS.Head2
import HandS.HeadEnd
import HandS.HeadHook1
import HandS.HeadHook2
import HandS.HeadHook3
import HandS.HeadHook4
import HandS.HeadWalk
import KE.KEqSeq
import KE.KSortedM
import PyProof.P3Eq
import HandS.Strs
import KE.KEqDeep
import HandS.Gcd
import KE.KMathGC
import KE.KStateDown
import HandS.Head3
import PySem.Challenge.RW_stronggens_k03_whole_orders_and_cycles
set_option Elab.async false
set_option linter.all false
set_option maxRecDepth 100000
set_option maxHeartbeats 4000000
namespace GA
open PySem PySem.Spec PyProof.Rows L2

/-- a def without cells called, told by its body, in the model's own terms -/
theorem lib_call {P : Program} {w : World} {A : Around} {E : Value → Shared → Prop} {K : PySem.W.Frag} {x qual : Str} {st : Stmt} {f : Addr} {fd : FuncData} {ps : List Str} {us : List Value} {s : Shared} {Q : Value → Shared → Prop}
    (F : Fun K x qual st f fd) (X : K.In s.heap) (lim : s.heap.NoLimit) (hd : A.depth < recursionLimit) (hb : Binds K fd ps []) (hlen : us.length = ps.length)
    (hk : (defScope st).kind = .function) (hco : (defScope st).isCoroutine = false) (hgen : (defScope st).isGenerator = false) (hcell : ∀ y ∈ (defScope st).names, y.2 ≠ .cell) (hloc : ∀ n ∈ ps, (defScope st).names.lookup n = some .local)
    (h : ∀ (h₀ : Heap) (env : Env) (tk : Nat), env.scope = defScope st → env.globals = mainGlobals → env.builtins = builtinsNs → h₀.Ns env.locals (fun x => (ps.zip us).reverse.lookup x) → (∀ b o, s.heap.get? b = some o → h₀.get? b = some o) →
      wpAny (model P w) (A.deeper env) (execs (defBody st) env) (fun fl s' => ∃ u, fl = .ret u ∧ Q u s') (fun _ _ => False) { s with heap := h₀, toks := tk }) :
    wpAny (model P w) A (call (.ref f) us) Q E s := by
  obtain ⟨oc, od, kV, doc, pm, an, cdv, ct, osl, rfl, lk, hcd⟩ := F.ex
  have hb1 := hb s us X (by rw [List.append_nil]; exact hlen)
  rw [List.append_nil] at hb1
  refine wpAny_call (codeAny_call_def hd (X _ _ lk) rfl lim (PySem.W.codeRec_of X hcd) rfl hb1 hcell (fun y hy => hloc _ (List.of_mem_zip hy).1) (fun h₀ hns hkeep => ?_) hco hgen hk)
  refine wpAny_mono (h h₀ _ _ rfl rfl rfl hns hkeep) (fun fl s' q => ?_) (fun e s' q => q.elim)
  obtain ⟨u, rfl, q⟩ := q
  exact q

/-- a value that is an int, or is of another built-in type -/
inductive Kd (s : Shared) (v : Value) : Option Int → Prop where
  | int {i : Int} {t : Tok} (h : v = .int i t) : Kd s v (some i)
  | oth {T : String} (h : s.TypeIs v T) (n : T ≠ "int") (nb : (Value.type T == Value.type "builtin_function_or_method") = false) : Kd s v none
def inR (lo hi : Int) : Option Int → Bool
  | some i => decide (lo ≤ i) && decide (i ≤ hi)
  | none => false

theorem typeIs_keep {s s' : Shared} {v : Value} {T : String} (k : ∀ b u, s.heap.get? b = some u → s'.heap.get? b = some u) (h : s.TypeIs v T) : s'.TypeIs v T := by
  cases v with
  | ref a => obtain ⟨o, h1, h2⟩ := h; exact ⟨o, k _ _ h1, h2⟩
  | _ => exact h
theorem kd_keep {s s' : Shared} {v : Value} {o : Option Int} (k : ∀ b u, s.heap.get? b = some u → s'.heap.get? b = some u) (h : Kd s v o) : Kd s' v o := by
  cases h with
  | int h => exact .int h
  | oth h n nb => exact .oth (typeIs_keep k h) n nb

/-- what stands around: the written part and the module's names -/
structure At (K : PySem.W.Frag) (mg : Str → Option Value) (base : Heap) (h : Heap) : Prop where
  mod : Mod K mg base
  bk : ∀ b o, base.get? b = some o → h.get? b = some o
section
variable {K : PySem.W.Frag} {mg : Str → Option Value} {base : Heap} {h h' : Heap}
theorem At.keep (a : At K mg base h) (k : ∀ b o, h.get? b = some o → h'.get? b = some o) : At K mg base h' := ⟨a.mod, fun b o e => k b o (a.bk b o e)⟩
theorem At.kin (a : At K mg base h) : K.In h := a.mod.kin.keeps a.bk
theorem At.lim (a : At K mg base h) : h.NoLimit := a.mod.nolimit.keeps a.bk
end
section
variable {M : Model} {A : Around} {E : Value → Shared → Prop} {s : Shared} {K : PySem.W.Frag} {mg : Str → Option Value} {base : Heap} {env : Env} {x : Str} {pos : Pos} {u : Value} {Q : Value → Shared → Prop}
theorem nm_loc {m : Str → Option Value} (hk : env.scope.kind = .function) (hl : env.scope.names.lookup x = some .local) (hn : s.heap.Ns env.locals m) (hv : m x = some u) (h : Q u s) (hd : (x == ("__debug__" : Str)) = false := by decide) :
    wpAny M A (eval (.Name x pos) env) Q E s := wpAny_Name (wpAny_loadName_local hk hl hn hv h) hd
theorem nm_glob (a : At K mg base s.heap) (hk : env.scope.kind = .function) (hl : env.scope.names.lookup x = some .globalImplicit) (hg : env.globals = mainGlobals) (hm : mg x = some u) (h : Q u s) (hd : (x == ("__debug__" : Str)) = false := by decide) :
    wpAny M A (eval (.Name x pos) env) Q E s := Calls.Name_function_global hk hl (Calls.loadGlobal_global (by rw [hg]; exact a.mod.glob.keeps a.bk) hm h) hd
theorem nm_blt (a : At K mg base s.heap) (hk : env.scope.kind = .function) (hl : env.scope.names.lookup x = some .globalImplicit) (hg : env.globals = mainGlobals) (hb : env.builtins = builtinsNs) (hm : mg x = none) (hv : bootBuiltins x = some u) (h : Q u s)
    (hn : x ≠ "__name__" := by decide) (hd : (x == ("__debug__" : Str)) = false := by decide) : wpAny M A (eval (.Name x pos) env) Q E s := by
  obtain ⟨mb, h1, h2⟩ := a.mod.blt
  exact Calls.Name_function_global hk hl (Calls.loadGlobal_builtin (by rw [hg]; exact a.mod.glob.keeps a.bk) hm (by rw [hb]; exact h1.keeps a.bk) ((h2 x hn).trans hv) h) hd
end

/-- def is_between(value, low, high): return type(value) is int and low <= value <= high -/
def btBody (p1 p2 p3 p4 p5 p6 p7 p8 p9 p10 p11 : Pos) : List Stmt :=
  [.Return (some (.BoolOp .And [.Compare (.Call (.Name "type" p1) [.Name "value" p2] [] p3) [.Is] [.Name "int" p4] p5, .Compare (.Name "low" p6) [.LtE, .LtE] [.Name "value" p7, .Name "high" p8] p9] p10)) p11]
structure BtDef (st : Stmt) : Prop where
  body : ∃ p1 p2 p3 p4 p5 p6 p7 p8 p9 p10 p11, defBody st = btBody p1 p2 p3 p4 p5 p6 p7 p8 p9 p10 p11
  kind : (defScope st).kind = .function
  co : (defScope st).isCoroutine = false
  gen : (defScope st).isGenerator = false
  cell : ∀ y ∈ (defScope st).names, y.2 ≠ .cell
  v : (defScope st).names.lookup ("value" : Str) = some .local
  l : (defScope st).names.lookup ("low" : Str) = some .local
  h : (defScope st).names.lookup ("high" : Str) = some .local
  t : (defScope st).names.lookup ("type" : Str) = some .globalImplicit
  i : (defScope st).names.lookup ("int" : Str) = some .globalImplicit
theorem lib_between {P : Program} {w : World} {A : Around} {E : Value → Shared → Prop} {K : PySem.W.Frag} {mg : Str → Option Value} {base : Heap} {st : Stmt} {f : Addr} {fd : FuncData} {s : Shared} {v : Value} {lo hi : Int} {t1 t2 : Tok} {o : Option Int} {q : Str}
    (F : Fun K "is_between" q st f fd) (D : BtDef st) (hb : Binds K fd ["value", "low", "high"] []) (mt : mg "type" = none) (mi : mg "int" = none) (a : At K mg base s.heap) (hd : A.depth + 1 < recursionLimit) (k : Kd s v o) :
    wpAny (model P w) A (call (.ref f) [v, .int lo t1, .int hi t2]) (fun y s' => y = .bool (inR lo hi o) ∧ Keeps s s') E s := by
  refine lib_call F a.kin a.lim (by omega) hb rfl D.kind D.co D.gen D.cell (fun n hn => ?_) (fun h₀ env tk e1 e2 e3 hns hkeep => ?_)
  · simp only [List.mem_cons, List.not_mem_nil, or_false] at hn
    rcases hn with rfl | rfl | rfl
    · exact D.v
    · exact D.l
    · exact D.h
  · obtain ⟨p1, p2, p3, p4, p5, p6, p7, p8, p9, p10, p11, eb⟩ := D.body
    rw [eb]
    have a' : At K mg base h₀ := a.keep hkeep
    have kf : env.scope.kind = .function := by rw [e1]; exact D.kind
    have lv : env.scope.names.lookup ("value" : Str) = some .local := by rw [e1]; exact D.v
    have ll : env.scope.names.lookup ("low" : Str) = some .local := by rw [e1]; exact D.l
    have lh : env.scope.names.lookup ("high" : Str) = some .local := by rw [e1]; exact D.h
    have lt : env.scope.names.lookup ("type" : Str) = some .globalImplicit := by rw [e1]; exact D.t
    have li : env.scope.names.lookup ("int" : Str) = some .globalImplicit := by rw [e1]; exact D.i
    have k' : Kd { s with heap := h₀, toks := tk } v o := kd_keep (s := s) hkeep k
    have fin : ∀ b, b = inR lo hi o → ∃ u, Flow.ret (.bool b) = .ret u ∧ u = .bool (inR lo hi o) ∧ Keeps s { s with heap := h₀, toks := tk } := fun b e => ⟨_, rfl, by rw [e], h₀, tk, rfl, hkeep⟩
    refine wpAny_execs_cons (wpAny_Return_some (BoolOp_and ?_))
    refine wpAny_Compare1 (wpAny_Call_Name_kw (nm_blt a' kf lt e2 e3 mt boot_type ?_)) (by rfl)
    refine PyProof.Rows.callWith_type1 (args_cons (nm_loc kf lv hns rfl (args_nil ?_)))
    cases k' with
    | @int v_i v_t hv =>
      subst hv
      refine call_type_of (Tx := "int") rfl (by decide +kernel) (nm_blt a' kf li e2 e3 mi boot_int (wpAny_is_self rfl (wpAny_truthy_bool ?_)))
      rw [if_pos rfl]
      refine BoolOp_one ?_
      refine Compare_chain (nm_loc kf ll hns rfl (chain_link (nm_loc kf lv hns rfl (PyProof.Rows.le_int (wpAny_truthy_bool ?_))))) (by rfl)
      by_cases c : lo ≤ v_i
      · rw [decide_eq_true c, if_pos rfl]
        refine chain_last (nm_loc kf lh hns rfl (PyProof.Rows.le_int (fin _ ?_)))
        show _ = (decide (lo ≤ _) && _)
        rw [decide_eq_true c, Bool.true_and]
      · rw [decide_eq_false c, if_neg Bool.false_ne_true]
        refine fin _ ?_
        show _ = (decide (lo ≤ _) && _)
        rw [decide_eq_false c, Bool.false_and]
    | oth ht n nb =>
      refine call_type_of ht nb (nm_blt a' kf li e2 e3 mi boot_int (wpAny_is_other rfl (fun z => n (Value.type.inj z)) (wpAny_truthy_bool ?_)))
      rw [if_neg Bool.false_ne_true]
      exact fin _ rfl

/-- def is_point(degree, value): return is_between(value, 0, degree - 1) -/
def ptBody (p1 p2 p3 p4 p5 p6 p7 p8 : Pos) (j k : Nat) : List Stmt :=
  [.Return (some (.Call (.Name "is_between" p1) [.Name "value" p2, .Constant (.int 0) j p3, .BinOp (.Name "degree" p4) .Sub (.Constant (.int 1) k p5) p6] [] p7)) p8]
structure PtDef (st : Stmt) : Prop where
  body : ∃ p1 p2 p3 p4 p5 p6 p7 p8 j k, defBody st = ptBody p1 p2 p3 p4 p5 p6 p7 p8 j k
  kind : (defScope st).kind = .function
  co : (defScope st).isCoroutine = false
  gen : (defScope st).isGenerator = false
  cell : ∀ y ∈ (defScope st).names, y.2 ≠ .cell
  v : (defScope st).names.lookup ("value" : Str) = some .local
  d : (defScope st).names.lookup ("degree" : Str) = some .local
  b : (defScope st).names.lookup ("is_between" : Str) = some .globalImplicit
theorem keeps_from {s s' : Shared} {h : Heap} {tk : Nat} (hk : ∀ b o, s.heap.get? b = some o → h.get? b = some o) (k : Keeps { s with heap := h, toks := tk } s') : Keeps s s' := by
  obtain ⟨h', tk', e, kk⟩ := k
  exact ⟨h', tk', e, fun b o q => kk b o (hk b o q)⟩
theorem lib_point {P : Program} {w : World} {A : Around} {E : Value → Shared → Prop} {K : PySem.W.Frag} {mg : Str → Option Value} {base : Heap} {st stB : Stmt} {f fB : Addr} {fd fdB : FuncData} {s : Shared} {v : Value} {n : Int} {t1 : Tok} {o : Option Int} {q qB : Str}
    (F : Fun K "is_point" q st f fd) (D : PtDef st) (hb : Binds K fd ["degree", "value"] []) (FB : Fun K "is_between" qB stB fB fdB) (DB : BtDef stB) (hbB : Binds K fdB ["value", "low", "high"] []) (gB : mg "is_between" = some (.ref fB))
    (mt : mg "type" = none) (mi : mg "int" = none) (a : At K mg base s.heap) (hd : A.depth + 2 < recursionLimit) (k : Kd s v o) :
    wpAny (model P w) A (call (.ref f) [.int n t1, v]) (fun y s' => y = .bool (inR 0 (n - 1) o) ∧ Keeps s s') E s := by
  refine lib_call F a.kin a.lim (by omega) hb rfl D.kind D.co D.gen D.cell (fun n hn => ?_) (fun h₀ env tk e1 e2 e3 hns hkeep => ?_)
  · simp only [List.mem_cons, List.not_mem_nil, or_false] at hn
    rcases hn with rfl | rfl
    · exact D.d
    · exact D.v
  · obtain ⟨p1, p2, p3, p4, p5, p6, p7, p8, j, kk, eb⟩ := D.body
    rw [eb]
    have a' : At K mg base h₀ := a.keep hkeep
    have kf : env.scope.kind = .function := by rw [e1]; exact D.kind
    have lv : env.scope.names.lookup ("value" : Str) = some .local := by rw [e1]; exact D.v
    have ld : env.scope.names.lookup ("degree" : Str) = some .local := by rw [e1]; exact D.d
    have lb : env.scope.names.lookup ("is_between" : Str) = some .globalImplicit := by rw [e1]; exact D.b
    have k' : Kd { s with heap := h₀, toks := tk } v o := kd_keep (s := s) hkeep k
    refine wpAny_execs_cons (wpAny_Return_some (wpAny_Call_Name_kw (nm_glob a' kf lb e2 gB ?_)))
    refine PySem.W.callWith_K (h₀ := base) a'.mod.kin FB.kp (args_cons ?_)
    refine nm_loc kf lv hns rfl (args_cons (wpAny_Constant_int (args_cons ?_)))
    refine wpAny_BinOp (nm_loc kf ld hns rfl (wpAny_Constant_int (PyProof.Rows.sub_int (args_nil ?_))))
    refine ⟨a'.kin, ?_⟩
    refine thn (lib_between FB DB hbB mt mi (base := base) (s := { s with heap := h₀, toks := _ }) a' (by show A.depth + 1 + 1 < recursionLimit; omega) (kd_keep (s := { s with heap := h₀, toks := tk }) (fun _ _ e => e) k')) fun y s' r => ?_
    obtain ⟨rfl, r2⟩ := r
    exact ⟨_, rfl, rfl, keeps_from (s := s) hkeep r2⟩
end GA
/-! all(test for x in t), t a tuple, the test any expression that is walked in the generator's own frame -/
namespace GA
open PySem PySem.Spec PyProof.Rows L2 GxR
/-- what the test says of the item in place j -/
def plT (pb : V → Bool) (xs : List V) (j : Nat) : Bool := (xs[j]?).any pb
theorem plT_all (pb : V → Bool) (xs : List V) : (List.range xs.length).all (plT pb xs) = xs.all pb := by
  have e : (List.range xs.length).map (plT pb xs) = xs.map pb := by
    refine List.ext_getElem (by simp) fun j h1 h2 => ?_
    have hj : j < xs.length := by simpa using h2
    simp [plT, hj]
  have q := congrArg (fun l : List Bool => l.all id) e
  simpa [List.all_map, Function.comp_def] using q
section
variable {X : Cx} {pins : List (Addr × Obj)} {σ : L2.St} {H : Hp} {s : Shared}
/-- the code object of a generator expression: told before, or made now (then its def's table has grown) -/
theorem gx_code {c T : Addr} {env : Env} {pos : Pos} {q : Str} {scope : Scope} {ps : Array Value} {A : Around} {E : Value → Shared → Prop} {P : Program} {w : World} {Post : Value → Shared → Prop}
    (hc : env.code = .ref c) (hd : PySem.W.CodeHd s.heap c T) (hT : s.heap.get? T = some { cls := .none, data := .fields ps }) (ok : TriplesOk ps.toList)
    (k : ∀ (code : Value) (g : Heap) (tk : Nat) (more : Array Value), Heap.ExtBut T s.heap g → s.heap.objs.size ≤ g.objs.size → g.get? T = some { cls := .none, data := .fields (ps ++ more) } → TriplesOk (ps ++ more).toList → Post code { s with heap := g, toks := tk }) :
    wpAny (model P w) A (genexprCode env pos q scope) Post E s := by
  cases seen : codeAmong pos ps.toList with
  | some v =>
    have q0 : ps ++ #[] = ps := by simp
    exact wpAny_genexprCode_hit hc (hd.code hT ok) seen (k v s.heap s.toks #[] (Heap.ExtBut.refl _ _) (Nat.le_refl _) (by rw [q0]; exact hT) (by rw [q0]; exact ok))
  | none =>
    refine wpAny_genexprCodeX hc (hd.code hT ok) (hd.tab hT) seen fun v g tk far big small made _ tab' _ => ?_
    obtain ⟨_, _, _, _, _, _, _, _, _, _, _, _, _, _, _, _, _, _, _, good, _⟩ := made
    exact k _ g tk _ far (Nat.le_trans big (Nat.le_of_lt small)) tab'.2 good
/-- g is the generator over the items xs, not begun -/
def Begun (X : Cx) (pins : List (Addr × Obj)) (σ : L2.St) (H1 : Hp) (T : Addr) (xs : List V) (pb : V → Bool) (g : Addr) (z : Shared) : Prop :=
  ∃ (foot wrt : List Addr) (Gs : Array GenState → Array GenState → Prop) (Fv : Nat → Value → Prop) (Sn : Nat → Shared → Prop),
    WalksS X.prog X.w X.A.in1 g foot wrt Gs xs.length Fv Sn ∧ Sn 0 z ∧ TruthOf X.prog X.w X.A.in1 Fv (plT pb xs) ∧ ∀ z', Moved wrt Gs z z' → ∃ H2, Tabbed T H1 H2 ∧ Inv X pins σ H2 z'
/-- the test of one item, in the generator's frame; s1, H1: the state in which the tuple was read -/
def EltT (X : Cx) (T : Addr) (scope : Scope) (x : Str) (elt : Expr) (s1 : Shared) (H1 : Hp) (xs : List V) (pb : V → Bool) : Prop :=
  ∀ (ge : Env) (B : Around) (E' : Value → Shared → Prop) (y : V) (v : Value) (z : Shared) (names : Str → Option Value), ge.scope = scope → ge.globals = mainGlobals → ge.builtins = builtinsNs → ge.cells = cloFrom X.env.cells scope.names [] →
    B.handled = none → B.depth ≤ X.A.depth + 1 → z.heap.Ns ge.locals names → names x = some v → RelV y v → y ∈ xs → (∀ b u, b ≠ T → s1.heap.get? b = some u → z.heap.get? b = some u) →
    wpAny (model X.prog X.w) B (eval elt ge) (fun r z' => r = .bool (pb y) ∧ Keeps z z') E' z
theorem gen_tup {c T : Addr} {elt iter : Expr} {x : Str} {px gpos : Pos} {scope : Scope} {te : TE} {k : Nat} {Q' : Value → Shared → Prop} {R : List V → (V → Bool) → Hp → Prop}
    (hr : Room k X.A) (TB : TabB X.base X.mg c T) (hcode : X.env.code = .ref c) (S : GenS X.env scope x) (hi : PE X iter te) (hs : ∀ v, genFold iter X.env v = pure v) (I : Inv X pins σ H s)
    (h : te σ H fun v H1 => ∃ a xs pb, v = .ref a ∧ SqT X.K H1 a xs ∧ TabG H1 T ∧ (∀ pins s1, Inv X pins σ H1 s1 → EltT X T scope x elt s1 H1 xs pb) ∧ R xs pb H1)
    (hQ : ∀ xs pb H1 g z, R xs pb H1 → Begun X pins σ H1 T xs pb g z → Q' (.ref g) z) :
    wpAny (model X.prog X.w) X.A (eval (.GeneratorExp elt [⟨.Name x px, iter, [], 0⟩] scope gpos) X.env) Q' X.xe s := by
  have room := hr.dp
  refine wpAny_GeneratorExp_walksQD hr.hd S.co (closure_ok S.free) S.cell S.dot S.loc S.kind (by omega) (thn (hi.run pins s σ H _ I h) fun tv s1 ⟨v, H1, J, rt, a, xs, pb, ev, hx, ⟨ps, atT, okT⟩, test, goal⟩ => ?_) hs
  subst ev
  obtain rfl : tv = .ref a := rt
  obtain ⟨its, vals, tup, _⟩ := J.tuple hx
  have isT : s1.heap.IsTuple a its.toArray := tup
  have objT : s1.heap.get? T = some { cls := .none, data := .fields ps } := J.hok T _ atT
  have ltT := Heap.lt_size objT
  have lta := tup.lt
  have apart : a ≠ T := by
    rintro rfl
    obtain ⟨ob, g1, g2, _⟩ := isT
    rw [objT] at g1
    cases g1
    cases g2
  refine wpAny_pyIter_tuple isT ⟨J.nolimit.push _, ?_⟩
  generalize ei : ({ cls := .type "tuple_iterator", data := .fields #[.ref a, .int 0 0] } : Obj) = io
  have live : io.isFreed = false := by rw [← ei]; rfl
  have wide : (s1.heap.push io).objs.size = s1.heap.objs.size + 1 := Heap.size_push ..
  refine gx_code (s := { s1 with heap := s1.heap.push io }) hcode (TB.code.keeps fun b u e => Heap.get?_push_of_some _ (J.bk b u e)) (Heap.get?_push_of_some _ objT) okT fun code g tk more far big tabg good => ?_
  -- what stood ahead of the iterator stands, but for the table
  have stay : ∀ b u, b ≠ T → s1.heap.get? b = some u → g.get? b = some u := fun b u n e => far b u n (Heap.get?_push_of_some _ e)
  have itAt : g.get? s1.heap.objs.size = some io := far _ _ (Nat.ne_of_gt ltT) (Heap.get?_push_size _ live)
  have big' : s1.heap.objs.size < g.objs.size := by
    have : s1.heap.objs.size + 1 ≤ g.objs.size := wide ▸ big
    omega
  have stat : cStatics < s1.heap.objs.size ∧ cStatics ≠ T := by
    obtain ⟨_, ns, _⟩ := J.nolimit
    refine ⟨ns.lt, ?_⟩
    rintro rfl
    obtain ⟨_, _, _, g1, g2, _⟩ := ns
    rw [objT] at g1
    cases g1
    cases g2
  obtain ⟨bm, ob, b1, b2, b3, b4, b5, b6, b7, b8⟩ := TB.bm
  refine wpAny_builtinsFor (m := X.mg) (J.ok.glob ▸ ((J.mod.glob.keeps J.bk).push io).extBut far TB.gP) b1 b2 (stay _ _ b4 (J.bk _ _ b5)) b6 b7 b8 ?_
  refine ⟨s1.heap.objs.size, [s1.heap.objs.size, a], [s1.heap.objs.size], its.toArray.size, _, _, fun _ => true, fun i y => ∃ z, xs[i]? = some z ∧ y = .bool (pb z), rfl,
    fun B hB => Walks.tuple hB _ _ (Nat.ne_of_lt lta) its.toArray, ⟨⟨io, itAt, by rw [← ei], by rw [← ei]; rfl⟩, ?_⟩, ?_, (J.nolimit.push _).extBut far stat.2, ?_, fun ref old => ?_, ?_⟩
  · obtain ⟨ot, g1, g2⟩ := isT
    exact ⟨ot, stay _ _ apart g1, g2⟩
  · simp only [List.mem_cons, List.not_mem_nil, or_false]
    rintro b (rfl | rfl)
    · exact big'
    · exact Nat.lt_trans lta big'
  · simp only [List.mem_cons, List.not_mem_nil, or_false]
    exact Nat.ne_of_lt stat.1
  · refine ⟨fun B E' i v z names _ _ _ _ _ _ _ => ?_, fun B E' i v z names hB dB _ pv _ hn hx' keep => ?_⟩
    · rw [List.forIn_nil]
      exact wpAny_pure ⟨rfl, keeps_refl _⟩
    · have hv : its[i]? = some v := by simpa using pv
      obtain ⟨li, _⟩ := List.getElem?_eq_some_iff.mp hv
      have lx : i < xs.length := vals.length ▸ li
      have gx := List.getElem?_eq_getElem lx
      obtain ⟨v', hv', rel⟩ := vals.get gx
      obtain rfl : v = v' := Option.some.inj (hv.symm.trans hv')
      refine thn (test pins s1 J _ B E' xs[i] v z names rfl J.ok.glob rfl rfl hB dB hn hx' rel (List.getElem_mem lx) fun b u n e => ?_) fun r z' t => ⟨⟨xs[i], gx, t.1⟩, t.2⟩
      have inG := stay b u n e
      refine keep b (List.mem_range.mpr (Heap.lt_size inG)) ?_ u (old b u inG)
      simp only [List.mem_cons, List.not_mem_nil, or_false]
      exact Nat.ne_of_lt (Heap.lt_size e)
  · intro ga g5 tk5 gs bare _ _ keep5 walk start
    have cnt : its.toArray.size = xs.length := by rw [vals.length]; simp
    rw [cnt] at walk start
    rw [GxR.passing_true, List.length_range] at walk
    refine hQ xs pb H1 ga _ goal ⟨_, _, _, _, _, walk.in4_1, start, fun j y sj Qj Ej hy hq => ?_, fun z' mv => ?_⟩
    · obtain ⟨i, at_i, w', hw', rfl⟩ := hy
      obtain ⟨_, same⟩ := List.getElem?_eq_some_iff.mp at_i
      rw [List.getElem_range] at same
      subst same
      have val : plT pb xs j = pb w' := by simp [plT, hw']
      exact wpAny_truthy_bool (val ▸ hq)
    · have out : ∀ b u, s1.heap.get? b = some u → b ∉ [g.objs.size, s1.heap.objs.size] := fun b u e => by
        have lb := Heap.lt_size e
        simp only [List.mem_cons, List.not_mem_nil, or_false, not_or]
        exact ⟨Nat.ne_of_lt (Nat.lt_trans lb big'), Nat.ne_of_lt lb⟩
      have N := inv_tab (more := more) (h' := z'.heap) (g' := z'.gens) (d' := z'.drawn) (t' := z'.toks) J atT (fun b u n e => mv.heap b u (out b u e) (keep5 b u (stay b u n e)))
        (mv.heap T _ (out T _ objT) (keep5 T _ tabg)) (AllBare.movedS (J.bare.push bare) mv)
      rw [sh_eta s1 z' mv.os] at N
      exact ⟨_, ⟨⟨_, upd_same, good⟩, fun b n => upd_ne n⟩, N⟩
/-- all(..): true of every item; the table may have grown -/
def tAllT (X : Cx) (T : Addr) (scope : Scope) (x : Str) (elt : Expr) (te : TE) : TE := fun σ H Q => te σ H fun v H1 => ∃ a xs pb, v = .ref a ∧ SqT X.K H1 a xs ∧ TabG H1 T ∧
  (∀ pins s1, Inv X pins σ H1 s1 → EltT X T scope x elt s1 H1 xs pb) ∧ ∀ H2, Tabbed T H1 H2 → Q (.bl (xs.all pb)) H2
theorem pe_allT {c T : Addr} {elt iter : Expr} {x : Str} {px p pos gpos : Pos} {scope : Scope} {te : TE} {k : Nat}
    (hr : Room k X.A) (hg : Gl X "all") (hm : X.mg "all" = none) (TB : TabB X.base X.mg c T) (hcode : X.env.code = .ref c) (S : GenS X.env scope x) (hi : PE X iter te)
    (hs : ∀ v, genFold iter X.env v = pure v) (hb : bootBuiltins "all" = some (.builtin "all"))
    (one : starEach [.GeneratorExp elt [⟨.Name x px, iter, [], 0⟩] scope gpos] X.env = (false, eval (.GeneratorExp elt [⟨.Name x px, iter, [], 0⟩] scope gpos) X.env) :: starEach [] X.env := by rfl) :
    PE X (.Call (.Name "all" p) [.GeneratorExp elt [⟨.Name x px, iter, [], 0⟩] scope gpos] [] pos) (tAllT X T scope x elt te) := by
  constructor
  intro pins s σ H Q I h
  refine wpAny_Call_Name_kw (ld_blt I hg hm hb (PyProof.Rows.callWith_builtin1 (args_cons ?_ one) one (by rfl)))
  refine gen_tup (R := fun xs pb H1 => ∀ H2, Tabbed T H1 H2 → Q (.bl (xs.all pb)) H2) hr TB hcode S hi hs I h fun xs pb H1 g z said ⟨foot, wrt, Gs, Fv, Sn, W, st, tr, back⟩ => args_nil ?_
  refine call_all_walkS (W.self 0 _ _ _ st ⟨g, foot, wrt, Gs, _, Fv, Sn, _, rfl, W, st, tr, fun z' mv => ?_⟩)
  obtain ⟨H2, grown, N⟩ := back z' mv
  exact ⟨.bl _, H2, N, rfl, plT_all pb xs ▸ said H2 grown⟩
end
end GA
namespace GA
open PySem PySem.Spec PyProof.Rows L2 GxR

/-- a value of a built-in kind -/
def PlainV (K : PySem.W.Frag) (H : Hp) : V → Prop
  | .ref p => (∃ xs, SqL K H p xs) ∨ (∃ xs, SqT K H p xs) ∨ (∃ kvs, H p = some (.dK kvs))
  | .ty _ => False
  | _ => True
/-- is it an int from lo to hi -/
def btV (lo hi : Int) : V → Bool
  | .int i => decide (lo ≤ i) && decide (i ≤ hi)
  | _ => false
def intO : V → Option Int
  | .int i => some i
  | _ => none
theorem btV_inR (lo hi : Int) (v : V) : inR lo hi (intO v) = btV lo hi v := by cases v <;> rfl
theorem plain_kd {X : Cx} {pins : List (Addr × Obj)} {σ : L2.St} {H : Hp} {s : Shared} {x : V} {v : Value} (I : Inv X pins σ H s) (p : PlainV X.K H x) (r : RelV x v) : Kd s v (intO x) := by
  cases x with
  | non => cases (show v = Value.none from r); exact .oth (T := "NoneType") rfl (by decide) (by decide +kernel)
  | bl y => cases (show v = Value.bool y from r); exact .oth (T := "bool") rfl (by decide) (by decide +kernel)
  | int i => obtain ⟨t, rfl⟩ := (show ∃ t, v = Value.int i t from r); exact .int rfl
  | str y => obtain ⟨t, rfl⟩ := (show ∃ t, v = Value.str y t from r); exact .oth (T := "str") rfl (by decide) (by decide +kernel)
  | byt y => obtain ⟨t, rfl⟩ := (show ∃ t, v = Value.bytes y t from r); exact .oth (T := "bytes") (PySem.W.typeIs_bytes _ _ _) (by decide) (by decide +kernel)
  | flt y => obtain ⟨t, rfl⟩ := (show ∃ t, v = Value.float y t from r); exact .oth (T := "float") rfl (by decide) (by decide +kernel)
  | ty y => exact p.elim
  | ref q =>
    cases (show v = Value.ref q from r)
    rcases p with ⟨xs, h⟩ | ⟨xs, h⟩ | ⟨kvs, h⟩
    · obtain ⟨its, rv, ⟨ob, n, g, c, _, _⟩, hz⟩ := I.list h
      exact .oth (T := "list") ⟨ob, g, c⟩ (by decide) (by decide +kernel)
    · obtain ⟨its, rv, ⟨ob, g, c, k⟩, hz⟩ := I.tuple h
      exact .oth (T := "tuple") ⟨ob, g, c⟩ (by decide) (by decide +kernel)
    · obtain ⟨z, y, vs, rr, ob, es, ep, e, c, _⟩ := I.hok q _ h
      exact .oth (T := "dict") ⟨ob, e, c.1⟩ (by decide) (by decide +kernel)

/-- what the element of all(is_point(degree, x) for x in ..) needs -/
structure PtElt (scope : Scope) : Prop where
  kind : scope.kind = .function
  x : scope.names.lookup ("x" : Str) = some .local
  d : scope.names.lookup ("degree" : Str) = some .free
  p : scope.names.lookup ("is_point" : Str) = some .globalImplicit
theorem elt_point {X : Cx} {pins : List (Addr × Obj)} {σ : L2.St} {H1 : Hp} {s1 : Shared} {P : Addr} {scope : Scope} {xs : List V} {n : Int} {i k : Nat} {p1 p2 p3 p4 : Pos} {st stB : Stmt} {f fB : Addr} {fd fdB : FuncData} {q qB : Str}
    (I : Inv X pins σ H1 s1) (hP : TabG H1 P) (S : GenS X.env scope "x") (SE : PtElt scope) (hN : X.N[i]? = some ("degree" : Str)) (hσ : σ[i]? = some (some (.int n))) (hk : X.env.scope.names.lookup ("degree" : Str) = some .cell)
    (F : Fun X.K "is_point" q st f fd) (D : PtDef st) (hb : Binds X.K fd ["degree", "value"] []) (g : X.mg "is_point" = some (.ref f)) (FB : Fun X.K "is_between" qB stB fB fdB) (DB : BtDef stB) (hbB : Binds X.K fdB ["value", "low", "high"] [])
    (gB : X.mg "is_between" = some (.ref fB)) (mt : X.mg "type" = none) (mi : X.mg "int" = none) (hr : Room (k + 2) X.A) (hx : ∀ x ∈ xs, PlainV X.K H1 x) (hbP : ∀ b o, X.base.get? b = some o → b ≠ P) :
    EltT X P scope "x" (.Call (.Name "is_point" p1) [.Name "degree" p2, .Name "x" p3] [] p4) s1 H1 xs (btV 0 (n - 1)) := by
  intro cenv A' E' y v s₂ m₂ e1 e2 e3 e4 hh hd hn hm ry hy hkp
  obtain ⟨ps, hPs, _⟩ := hP
  have hPo : s1.heap.get? P = some { cls := .none, data := .fields ps } := I.hok P _ hPs
  have a2 : At X.K X.mg X.base s₂.heap := ⟨I.ok.mod, fun b o e => hkp b o (hbP b o e) (I.bk b o e)⟩
  have kf : cenv.scope.kind = .function := by rw [e1]; exact SE.kind
  obtain ⟨m, hns, hlk⟩ := I.loc
  obtain ⟨u, ru, lk⟩ := hlk i "degree" (.int n) hN hσ (.inr (.inl hk))
  obtain ⟨t, rfl⟩ := (show ∃ t, u = Value.int n t from ru)
  have kc : X.env.kindOf ("degree" : Str) = some .cell := hk
  obtain ⟨c, hc, hcell⟩ : ∃ c, X.env.cells.lookup ("degree" : Str) = some c ∧ s1.heap.IsCell c (some (.int n t)) := by
    rcases lk with ⟨z, _⟩ | ⟨_, z⟩
    · rw [kc] at z
      cases z
    · exact z
  have hc2 : cenv.cells.lookup ("degree" : Str) = some c := by
    rw [e4]
    exact NdefX.clo_has S.free (PySem.mem_of_lookup SE.d) hc
  have hcell2 : s₂.heap.IsCell c (some (.int n t)) := by
    obtain ⟨o, h1, h2⟩ := hcell
    refine ⟨o, hkp c o (fun z => ?_) h1, h2⟩
    rw [z, hPo] at h1
    cases h1
    cases h2
  refine wpAny_Call_Name_kw (nm_glob a2 kf (by rw [e1]; exact SE.p) e2 g ?_)
  refine PySem.W.callWith_K (h₀ := X.base) a2.mod.kin F.kp (args_cons ?_)
  refine wpAny_Name (wpAny_loadName_free kf (show cenv.scope.names.lookup _ = _ by rw [e1]; exact SE.d) hc2 hcell2 (args_cons ?_)) (by decide)
  refine nm_loc kf (by rw [e1]; exact SE.x) hn hm (args_nil ⟨a2.kin, ?_⟩)
  have kd := plain_kd I (hx y hy) ry
  have kd2 : Kd s₂ v (intO y) := by
    generalize intO y = oy at kd
    cases kd with
    | int h => exact .int h
    | oth h n' nb =>
      refine .oth ?_ n' nb
      cases v with
      | ref a =>
        obtain ⟨o, h1, h2⟩ := h
        refine ⟨o, hkp a o (fun z => ?_) h1, h2⟩
        rw [z, hPo] at h1
        cases h1
        cases h2
      | _ => exact h
  have hd2 : A'.depth + 2 < recursionLimit := by have := hr.dp; omega
  refine thn (lib_point (n := n) F D hb FB DB hbB gB mt mi a2 hd2 kd2) fun y' s3 r => ?_
  rw [btV_inR] at r
  exact r
end GA
/-! for k, x in enumerate(t), t a tuple -/
namespace GA
open PySem PySem.Spec PyProof.Rows L2
theorem enum_made {v : Value} {o : Obj} {H : Heap → Prop} (B : Begins v o H) :
    Meets (Builtin.«enumerate.__new__» ⟨[.type "enumerate", v], []⟩) (fun _ R z => H z.heap ∧
      R (.ok (.ret (.ref (z.heap.push o).objs.size))) { z with heap := (z.heap.push o).push { cls := .type "enumerate", data := .fields #[.none, .bool false, .ref z.heap.objs.size, rawInt 0, .none, .none] } }) := by
  refine .of_wp fun prog w A R z hz => ?_
  obtain ⟨hp, gs, dr, tk, os⟩ := z
  obtain ⟨ready, done⟩ := hz
  have sub := sub_enumerate
  have draw : ∀ {A' : Around} {E Q : Value → Shared → Prop}, Q (.ref hp.objs.size) ⟨hp.push o, gs, dr, tk, os⟩ → wpAny (model prog w) A' (pyIter v) Q E ⟨hp, gs, dr, tk, os⟩ := fun q => B.iter prog w _ _ ⟨hp, gs, dr, tk, os⟩ _ ready q
  wp_walk using draw
  refine wpAny_stack_any fun _ => wpAny_pure ?_
  split
  case' h_1 c _ _ _ _ _ => cases (c == Value.type "enumerate")
  all_goals (wp_walk using draw; exact ⟨_, rfl, done⟩)
theorem call_enum {prog : Program} {w : World} {A : Around} {E Q : Value → Shared → Prop} {z : Shared} {v : Value} {o : Obj} {H : Heap → Prop} (B : Begins v o H) (ready : H z.heap)
    (k : ∀ g, IsEnum g (z.heap.objs.size + 1) z.heap.objs.size 0 .none → g.get? z.heap.objs.size = some o → (∀ b u, z.heap.get? b = some u → g.get? b = some u) → Q (.ref (z.heap.objs.size + 1)) { z with heap := g }) :
    wpAny (model prog w) A (call (.type "enumerate") [v]) Q E z := by
  have size : (z.heap.push o).objs.size = z.heap.objs.size + 1 := Heap.size_push ..
  refine callType_new F.called_enumerate (by decide) (F.typeCall_enumerate_1 _) (F.newCall_enumerate_1 _) (fun x => F.args_object_init_2 x _) F.entry_enumerate_new (enum_made B) ⟨ready, ?_⟩
  show _ ∧ _
  rw [size]
  have here : IsEnum ((z.heap.push o).push { cls := .type "enumerate", data := .fields #[.none, .bool false, .ref z.heap.objs.size, rawInt 0, .none, .none] }) (z.heap.objs.size + 1) z.heap.objs.size 0 .none :=
    size ▸ Heap.get?_push_size (z.heap.push o) rfl
  exact ⟨⟨_, here, rfl⟩, k _ here (Heap.get?_push_of_some _ (Heap.get?_push_size _ B.free)) fun b u e => Heap.get?_push_of_some _ (Heap.get?_push_of_some _ e)⟩

/-- what the loop gets: at turn i a new pair of i and the tuple's i-th item -/
def IteT (K : PySem.W.Frag) (a : Addr) : It where
  go i H := ∃ (xs : List V) (x : V), SqT K H a xs ∧ xs[i]? = some x
  yld i H v H' := ∃ T x, v = .ref T ∧ H T = none ∧ H' = upd H T (.tup [.int (i : Nat), x]) ∧ ∀ xs, SqT K H a xs → xs[i]? = some x
  stop i H := ∃ xs : List V, SqT K H a xs ∧ xs.length ≤ i
/-- the enumerate object at e over the tuple's iterator at it, ahead of turn i -/
def AtTurn (a e it : Addr) (i : Nat) (h : Heap) : Prop := (∃ old, IsEnum h e it ((i : Nat) : Int) old) ∧ h.IsTupleIter it a i ∧ e ≠ it
section
variable {X : Cx} {pins : List (Addr × Obj)} {σ : L2.St} {H : Hp} {s : Shared} {a e it : Addr} {i : Nat} {E : Value → Shared → Prop} {elts : List Expr} {kk : Nat} {tpos : Pos}
theorem enumT_item (calm : X.calm = true) (ea : e ≠ a) (ia : it ≠ a) (I : Inv X pins σ H s) (own : ∀ b ∈ [e, it], FpOk X pins H b) (st : AtTurn a e it i s.heap) (g : (IteT X.K a).go i H) :
    wpAny (model X.prog X.w) X.A (pyNext (.ref e)) (fun r s1 => ∃ u, r = some u ∧
      wpAny (model X.prog X.w) X.A (letOwnedTupleGo (.Tuple elts kk tpos) (.ref e) u) (fun _ s2 => ∃ x H', Inv X pins σ H' s2 ∧ RelV x u ∧ (IteT X.K a).yld i H x H' ∧ AtTurn a e it (i + 1) s2.heap ∧ ∀ b ∈ [e, it], H' b = none) E s1) E s := by
  obtain ⟨⟨old, isE⟩, isI, ne⟩ := st
  obtain ⟨xs, x, hxs, hx⟩ := g
  obtain ⟨its, vals, tup, _⟩ := I.tuple hxs
  obtain ⟨u, hu, rel⟩ := vals.get hx
  have small : i < its.toArray.size := by simpa using (List.getElem?_eq_some_iff.mp hu).1
  have lte := Heap.lt_size isE
  have lti : it < s.heap.objs.size := let ⟨_, q, _⟩ := isI; Heap.lt_size q
  have outside : e ∉ [it, a] := by simp [ne, ea]
  refine wpAny_pyNext_enum_itemD (Draws.tuple (A := X.A.in1) (I.ok.hd calm) it a (Ne.symm ia) its.toArray) isE ⟨isI, tup⟩ small ne outside fun w' g tk got out next pair _ old' => ?_
  obtain rfl : u = w' := by
    have q : its[i]? = some w' := by simpa using got
    exact Option.some.inj (hu.symm.trans q)
  refine ⟨_, rfl, wpAny_letOwnedTupleGo_enum (s := { s with heap := g, toks := tk + 1 }) out fun g2 isE2 only => ?_⟩
  have pair2 := (only.2 _ (Nat.ne_of_gt lte)).trans pair
  have told : ObjOk X.prog X.w (upd H s.heap.objs.size (.tup [.int (i : Nat), x])) g2 s.heap.objs.size (.tup [.int (i : Nat), x]) :=
    ⟨(by decide : 2 ≤ sizeLine), [.int i tk, u], .cons ⟨_, rfl⟩ (.cons rel .nil), _, pair2, rfl, _, rfl⟩
  have J := I.turnedNew (ch := [e, it]) (h' := g2) (t' := tk + 1) (fun b o hb q => by
    simp only [List.mem_cons, List.not_mem_nil, or_false, not_or] at hb
    exact (only.2 b hb.1).trans (old' b o hb.1 hb.2 q)) own (Nat.le_refl _) told
  have fresh := I.hok.fresh (Nat.le_refl s.heap.objs.size)
  refine ⟨.ref s.heap.objs.size, _, J, rfl, ⟨_, x, rfl, fresh, rfl, fun ys hy => I.tuple_inj hxs hy ▸ hx⟩, ⟨⟨u, ?_⟩, next.1.at fun o q => (only.2 it (Ne.symm ne)).trans q, ne⟩, ?_⟩
  · rw [Int.natCast_succ]
    exact isE2
  · simp only [List.mem_cons, List.not_mem_nil, or_false]
    rintro b (rfl | rfl)
    · exact (upd_ne (Nat.ne_of_lt lte)).trans (own _ (by simp)).1
    · exact (upd_ne (Nat.ne_of_lt lti)).trans (own _ (by simp)).1
theorem enumT_end (calm : X.calm = true) (I : Inv X pins σ H s) (own : ∀ b ∈ [e, it], FpOk X pins H b) (st : AtTurn a e it i s.heap) (g : (IteT X.K a).stop i H) :
    wpAny (model X.prog X.w) X.A (pyNext (.ref e)) (fun r s1 => r = none ∧ Inv X pins σ H s1) E s := by
  obtain ⟨⟨_, isE⟩, isI, _⟩ := st
  obtain ⟨xs, hxs, past⟩ := g
  obtain ⟨its, vals, tup, _⟩ := I.tuple hxs
  have far : its.toArray.size ≤ i := by rw [List.size_toArray, ← vals.length]; exact past
  have typ : s.TypeIs (.ref e) "enumerate" := ⟨_, isE, rfl⟩
  obtain ⟨f0, f1, f2, f3, f4, f5⟩ := own it (by simp)
  unfold pyNext
  refine wpAny_bind (wpAny_attempt (wpAny_callSpecial?_slot (name := Str.ofString "__next__") typ F.slot_enumerate_next (wpAny_call_entry F.slot_enumerate_next typ F.entry_enumerate_next ?_ (F.args_enumerate_next_1 _))))
  refine wpAny_bind (m := field (.ref e) 2) (wpAny_field isE rfl (x := .ref it) rfl (wpAny_bind (wpAny_nextOf_tuple_end (I.ok.hd calm) isI tup (Array.getElem?_eq_none far) fun g x kept ⟨o, ho, cls⟩ => ?_)))
  exact wpAny_bind (wpAny_isInstance (T := "StopIteration") (b := true) ⟨o, ho, cls⟩ isSubtype_stop (wpAny_pure ⟨rfl, I.turned (t' := s.toks) (fun b o n q => kept b o n q) f0 f1 f3 f4 f5⟩))
end
theorem turn_enumT {P : Program} {w : World} {K : PySem.W.Frag} {elts : List Expr} {kk : Nat} {tpos : Pos} (a e it : Addr) (ea : e ≠ a) (ia : it ≠ a) : Turn P w K (.Tuple elts kk tpos) (IteT K a) [e, it] e (AtTurn a e it) where
  mem := List.mem_cons_self ..
  obj i h st := by
    obtain ⟨⟨_, isE⟩, ⟨o, ho, _, hd⟩, _⟩ := st
    simp only [List.mem_cons, List.not_mem_nil, or_false]
    rintro b (rfl | rfl)
    · exact ⟨_, isE, fun _ q => nomatch q⟩
    · exact ⟨o, ho, fun _ q => by cases hd.symm.trans q⟩
  keep i h h' st k := ⟨st.1.imp fun _ q => k e (by simp) _ q, st.2.1.at fun o q => k it (by simp) o q, st.2.2⟩
  item X e1 e2 e3 calm i pins s σ H E I own st g := by
    subst e1 e2 e3
    exact enumT_item calm ea ia I own st g
  done X e1 e2 e3 calm i pins s σ H E I own st g := by
    subst e1 e2 e3
    exact enumT_end calm I own st g
  self A i s Q E st q := let ⟨⟨_, isE⟩, _⟩ := st; wpAny_pyIter_enum isE q
def iEnumT (K : PySem.W.Frag) (ta : TA) : TI := fun σ H R => ta σ H fun vs H1 => ∃ a xs, vs = [.ref a] ∧ SqT K H1 a xs ∧ R (IteT K a) H1
theorem pi_enumT {X : Cx} {e : Expr} {ta : TA} {p pos tpos : Pos} {elts : List Expr} {kk : Nat} (hg : Gl X "enumerate") (hm : X.mg "enumerate" = none) (ha : PA X [e] ta) (one : starEach [e] X.env = [(false, eval e X.env)] := by rfl) :
    PI X (.Tuple elts kk tpos) (.Call (.Name "enumerate" p) [e] [] pos) (iEnumT X.K ta) := by
  constructor
  intro pins s σ H R I h
  refine Call_ (ld_blt I hg hm boot_enumerate (PyProof.Rows.callWith_type1 (thn (ha.run pos pins s σ H _ I h) fun us s1 ⟨vs, H1, J, rel, a, xs, ev, hxs, go⟩ => ?_) one rfl))
  subst ev
  obtain ⟨its, vals, tup, _⟩ := J.tuple hxs
  have lta := tup.lt
  rw [Vals.ref1 rel]
  refine call_enum (begins_tuple a its.toArray) tup fun g isE isI keep => wpAny_pyIter_enum isE ?_
  refine ⟨s1.heap.objs.size + 1, [s1.heap.objs.size + 1, s1.heap.objs.size], _, _, H1, rfl, J.kept (t' := s1.toks) keep, turn_enumT a _ _ (Nat.ne_of_gt (Nat.lt_succ_of_lt lta)) (Nat.ne_of_gt lta), ⟨⟨.none, isE⟩, ⟨_, isI, rfl, rfl⟩, Nat.succ_ne_self _⟩, ?_, go⟩
  simp only [List.mem_cons, List.not_mem_nil, or_false]
  rintro b (rfl | rfl)
  · exact J.fpOk (Nat.le_succ _) (J.hok.fresh (Nat.le_succ _))
  · exact J.fpOk (Nat.le_refl _) (J.hok.fresh (Nat.le_refl _))
theorem walk_enumT {K : PySem.W.Frag} {a : Addr} {xs : List V} : Walk (IteT K a) xs.length (fun H => SqT K H a xs) (YPair (fun i => some (.int (i : Nat))) (fun i => xs[i]?)) where
  goes i H hi h := ⟨xs, xs[i], h, List.getElem?_eq_getElem hi⟩
  stops H h := ⟨xs, h, Nat.le_refl _⟩
  yields i H v H' hi h y := let ⟨T, x, e, n, e2, f⟩ := y; ⟨T, _, x, e, n, e2, rfl, f xs h⟩
end GA
namespace GA
open PySem PySem.Spec PyProof.Rows L2 GxR

/-! ### sizes of sets -/
theorem len_le_sub : ∀ {ks ns : List Int}, ks.Nodup → (∀ k ∈ ks, k ∈ ns) → ks.length ≤ ns.length
  | [], _, _, _ => Nat.zero_le _
  | k :: ks, ns, hn, hs => by
    have h1 : k ∈ ns := hs k (List.mem_cons_self ..)
    have hn' := List.nodup_cons.mp hn
    have h2 : ks.length ≤ (ns.erase k).length := len_le_sub hn'.2 fun j hj => by
      have hne : j ≠ k := fun e => hn'.1 (e ▸ hj)
      exact (List.mem_erase_of_ne hne).mpr (hs j (List.mem_cons_of_mem _ hj))
    rw [List.length_erase_of_mem h1] at h2
    have h3 : 0 < ns.length := List.length_pos_of_mem h1
    show ks.length + 1 ≤ ns.length
    omega
theorem len_nodup {ks ns : List Int} (hk : ks.Nodup) (h : ∀ k, k ∈ ks ↔ k ∈ ns) (hn : ns.Nodup) : ks.length = ns.length :=
  Nat.le_antisymm (len_le_sub hk fun k z => (h k).mp z) (len_le_sub hn fun k z => (h k).mpr z)
theorem nodup_of_len {ks ns : List Int} (hk : ks.Nodup) (h : ∀ k, k ∈ ks ↔ k ∈ ns) (he : ks.length = ns.length) : ns.Nodup := by
  apply Classical.byContradiction
  intro hn
  obtain ⟨ms, hl, hm⟩ : ∃ ms : List Int, ms.length < ns.length ∧ ∀ k ∈ ns, k ∈ ms := by
    clear hk h he
    induction ns with
    | nil => exact absurd List.nodup_nil hn
    | cons x r ih =>
      by_cases hx : x ∈ r
      · exact ⟨r, Nat.lt_succ_self _, fun k hk => by
          rcases List.mem_cons.mp hk with z | z
          · rw [z]; exact hx
          · exact z⟩
      · obtain ⟨ms, hl, hm⟩ := ih fun z => hn (List.nodup_cons.mpr ⟨hx, z⟩)
        exact ⟨x :: ms, Nat.succ_lt_succ hl, fun k hk => by
          rcases List.mem_cons.mp hk with z | z
          · rw [z]; exact List.mem_cons_self ..
          · exact List.mem_cons_of_mem _ (hm k z)⟩
  have := len_le_sub hk fun k z => hm k ((h k).mp z)
  omega
/-- len(set(t)), t a tuple of ints -/
def tLenSetT (K : PySem.W.Frag) (ta : TE) : TE := fun σ H Q => ta σ H fun x H1 => ∃ (l : Addr) (ns : List Int), x = .ref l ∧ SqT K H1 l (ns.map V.int) ∧ ns.length ≤ 4000 ∧ ∀ ks : List Int, ks.Nodup → (∀ k, k ∈ ks ↔ k ∈ ns) → Q (.int (ks.length : Nat)) H1
theorem pe_lenSetT {X : Cx} {a : Expr} {ta : TE} {p p2 q pos : Pos} (hg : Gl X "len") (hm : X.mg "len" = none) (hg2 : Gl X "set") (hm2 : X.mg "set" = none) (ha : PE X a ta) (hc : X.calm = true := by rfl)
    (na : starEach [a] X.env = (false, eval a X.env) :: starEach [] X.env := by rfl) : PE X (.Call (.Name "len" p) [.Call (.Name "set" p2) [a] [] q] [] pos) (tLenSetT X.K ta) := by
  refine ⟨fun pins s σ H Q I h => ?_⟩
  refine Call_ (ld_blt I hg hm boot_len ?_)
  refine PyProof.Rows.callWith_builtin1 (PyProof.Rows.args_cons ?_ rfl) rfl rfl
  refine Call_ (ld_blt I hg2 hm2 boot_set ?_)
  refine PyProof.Rows.callWith_type1 (PyProof.Rows.args_cons (thn (ha.run pins s σ H _ I h) fun v s1 ⟨x, H1, I1, r1, q1⟩ => PyProof.Rows.args_nil ?_) na) na rfl
  obtain ⟨l, ns, rfl, hq, hl, q1⟩ := q1
  cases r1
  obtain ⟨its, r, pl, hz⟩ := I1.tuple hq
  refine call_set_tupI ns (I1.ok.hd hc) (show s1.heap.IsTuple l its.toArray from pl) (by simpa using RZ.intsAre_vals r) (by unfold scanBound; omega) fun h' tk c hS hle hk => ?_
  refine PyProof.Rows.args_nil ?_
  obtain ⟨o, es, ep, t, ho, hex, hd, _, hnd, hmem, _, hf, hn, _⟩ := hS
  have I2 : Inv X pins σ H1 { s1 with heap := h', toks := tk } := I1.kept fun b o e => hk b o e
  have q2 := q1 (es.toList.map keyOf) hnd (fun k => by rw [← hmem k, decide_eq_true_iff])
  rw [List.length_map, Array.length_toList] at q2
  exact call_len_set ho hex hd hf (by rw [hn] <;> omega) ⟨.int es.size, H1, I2.tok _, ⟨_, rfl⟩, q2⟩

/-! ### facts by names -/
def fdK (K : PySem.W.Frag) (x : Str) : FuncData := match K.lookup (He.ga K x) with
  | some ⟨_, _, .func fd, _⟩ => fd
  | _ => PySem.W.fnOf "" "" { posonlyargs := [], args := [], vararg := none, kwonlyargs := [], kw_defaults := [], kwarg := none, defaults := [] } [] { kind := .function, names := [], isGenerator := false, isCoroutine := false } .none .none .none .none none .none .none
theorem fun_of {K : PySem.W.Frag} {x q : Str} {st : Stmt} (h : ∃ fd, FunD K x q (defArgs st) (defBody st) (defScope st) [] [] (He.ga K x) fd) : Fun K x q st (He.ga K x) (fdK K x) := by
  obtain ⟨fd, F⟩ := h
  obtain ⟨oc, od, dV, kV, doc, pm, an, cdv, ct, osl, e, lk, hcd, hD, hK⟩ := F.ex
  have ed : dV = .none := by
    rcases hD with ⟨_, z⟩ | ⟨z, _⟩
    · exact z
    · exact absurd rfl z
  subst ed
  have ef : fdK K x = fd := by
    unfold fdK
    rw [lk]
  rw [ef]
  exact ⟨⟨oc, od, kV, doc, pm, an, cdv, ct, osl, e, lk, hcd⟩, F.kp⟩
/-- THE RULE for a def whose code object is asked for -/
theorem okC {P : Program} {w : World} {K : PySem.W.Frag} {mg : Str → Option Value} {base : Heap} {x qual : Str} {st : Stmt} {fd : FuncData} {N ps : List Str} {k : Nat} {sp : Sp} (F : Fun K x qual st (He.ga K x) fd) (S : FnScope N ps (defScope st)) (len : ∀ vs H Q E, sp vs H Q E → vs.length = ps.length)
    (hbody : ∀ (cdv : Value) (A : Around) (outer : List Env) (s : Shared) (H : Hp) (vs : List V) (Q : VK) (E : XK), cdv = .ref (He.cT K (x, none)).1 → Room k (A.deeper (envOfC qual (defScope st) s.heap.objs.size (He.ga K x) cdv)) → sp vs H Q E →
      ∃ t, PSs (cxOf CX0 P w K mg base N qual (defScope st) (He.ga K x) cdv A outer s H E).nox (defBody st) t ∧ t { nx := fun _ H' => Q .non H', rt := Q } (start N vs) H) : FnOk P w K mg base CX0 (k + 1) (He.ga K x) fd ps sp := by
  obtain ⟨oc, od, kV, doc, pm, an, cdv, ct, osl, rfl, lk, hcd⟩ := F.ex
  obtain ⟨c, rfl⟩ := He.codeIn_ref hcd
  have ec : He.codeOf K (x, none) = c := He.codeOf_eq (p := (x, none)) lk rfl
  refine fn_of lk hcd S len fun A outer s H vs Q E hr hsp => ?_
  obtain ⟨t, h, q⟩ := hbody (.ref c) A outer s H vs Q E (by show _ = Value.ref (He.codeOf K (x, none)); rw [ec]) hr hsp
  exact ⟨t, h.nox, q⟩
theorem gi_ok {mg : Str → Option Value} {x : Str} {i : Int} (h : ∃ t, mg x = some (.int i t)) : ∃ u, mg x = some u ∧ RelV (.int i) u := let ⟨t, e⟩ := h; ⟨_, e, t, rfl⟩
theorem gs_ok {mg : Str → Option Value} {x z : Str} (h : ∃ t, mg x = some (.str z t)) : ∃ u, mg x = some u ∧ RelV (.str z) u := let ⟨t, e⟩ := h; ⟨_, e, t, rfl⟩
theorem deepOf {k : Nat} {A : Around} (hr : Room k A) : A.units + 64 < cLine := by have := hr.un; omega
theorem hu0 {k : Nat} {A : Around} (hr : Room k A) : A.units < cLine := by have := hr.un; omega

theorem genS_by {env : Env} {scope : Scope} {x : Str} (h1 : scope.kind = .function) (h2 : scope.isCoroutine = false) (h3 : ∀ y ∈ scope.names, y.2 ≠ .cell) (h4 : scope.names.lookup (".0" : Str) = some NameKind.local) (h5 : scope.names.lookup x = some .local)
    (h : (scope.names.all fun y => match y.2 with | .free => (env.cells.lookup y.1).isSome | _ => true) = true) : GenS env scope x := by
  refine ⟨h1, h2, h3, h4, h5, fun y hy e => ?_⟩
  have q := List.all_eq_true.mp h y hy
  rw [e] at q
  exact Option.isSome_iff_exists.mp q
theorem base_ne {X : Cx} {pins : List (Addr × Obj)} {σ : L2.St} {H : Hp} {s : Shared} {P : Addr} (I : Inv X pins σ H s) (t : TabG H P) : ∀ b o, X.base.get? b = some o → b ≠ P := fun b o e z => by
  obtain ⟨ps, h, _⟩ := t
  have q := (I.bs b o e).2
  rw [z, h] at q
  cases q
/-! ### rules with the written part told (within a comprehension it must not hang on the block) -/
section
variable {X : Cx} {K : PySem.W.Frag}
theorem ixT (h : X.K = K) : IxR X (rIxT K) := by subst h; exact ix_tup
theorem ixL (h : X.K = K) : IxR X (rIxL K) := by subst h; exact ix_list
theorem lenS (h : X.K = K) : CallR X (.builtin "len") (fun xs H Q => ∃ p ys, xs = [.ref p] ∧ (SqL K H p ys ∨ SqT K H p ys) ∧ Q (.int ys.length) H) := by subst h; exact call_len_seq
theorem inS (h : X.K = K) : OpR X (compareOp .In) (rIn K false) := by subst h; exact op_in_seq
theorem ninS (h : X.K = K) : OpR X (compareOp .NotIn) (rIn K true) := by subst h; exact op_notIn_seq
theorem eqD (h : X.K = K) {k : Nat} (hr : Room k X.A) : OpR X (compareOp .Eq) (rEqD K) := by subst h; exact op_eqD (deepOf hr)
theorem neD (h : X.K = K) {k : Nat} (hr : Room k X.A) : OpR X (compareOp .NotEq) (rNeD K) := by subst h; exact op_neD (deepOf hr)
theorem catA (h : X.K = K) : OpR X (binaryOp .Add) (rCatA K) := by subst h; exact op_catA
theorem isiK (h : X.K = K) : CallR X (.builtin "isinstance") (rIsi K) := by subst h; exact call_isi
theorem isiTK (h : X.K = K) : CallR X (.builtin "isinstance") (rIsiT K) := by subst h; exact call_isiT
theorem lstOf (h : X.K = K) : CallR X (.type "list") (fun xs H Q => ∃ p ys, xs = [.ref p] ∧ (SqL K H p ys ∨ SqT K H p ys) ∧ ∀ l, H l = none → Q (.ref l) (upd H l (.lst ys))) := by subst h; exact call_list_of
theorem slL (h : X.K = K) : SlR X (rSlL K) := by subst h; exact sl_list
theorem slA (h : X.K = K) : SlR X (rSlA K) := by subst h; exact sl_tupA
theorem pe_tupK {a : Expr} {ta : TE} {p pos : Pos} (h : X.K = K) (hg : Gl X "tuple") (hm : X.mg "tuple" = none) (ha : PE X a ta) (na : starEach [a] X.env = (false, eval a X.env) :: starEach [] X.env := by rfl) : PE X (.Call (.Name "tuple" p) [a] [] pos) (tThen ta (kTup K)) := by subst h; exact pe_tupleOf hg hm ha na
theorem piT {tg l : Expr} {tl : TE} (h : X.K = K) (hl : PE X l tl) : PI X tg l (iTup K tl) := by subst h; exact pi_tup hl
theorem piL {tg l : Expr} {tl : TE} (h : X.K = K) (hl : PE X l tl) : PI X tg l (iList K tl) := by subst h; exact pi_list hl
end
theorem yesI {σ : L2.St} {H : Hp} {A B : Hp → Prop} (h : A H) : tYes σ H (fun b H3 => if b = true then A H3 else B H3) := by
  show if true = true then A H else B H
  exact iteT h
/-! ### heaps -/
/-- a list that is a row of draws: [the script, int, int, int] -/
def RowO (o : HO) : Prop := ∃ (s : Addr) (i j k : Int), o = .lst [.ref s, .int i, .int j, .int k]
/-- what nobody changes behind its maker's back -/
def Stable : HO → Prop
  | .tbl _ => False
  | .lst xs => ¬ RowO (.lst xs)
  | _ => True
def RowAt (H : Hp) (r s : Addr) : Prop := ∃ i j k : Int, H r = some (.lst [.ref s, .int i, .int j, .int k]) ∧ 0 ≤ i ∧ 0 ≤ j ∧ j < 2147483648 ∧ 0 ≤ k
structure Ex (H H' : Hp) : Prop where
  st : ∀ a o, H a = some o → Stable o → H' a = some o
  tab : ∀ P, TabG H P → TabG H' P
  row : ∀ r s, RowAt H r s → RowAt H' r s
  no : ∀ a, H' a = none → H a = none
theorem Ex.refl (H : Hp) : Ex H H := ⟨fun _ _ h _ => h, fun _ h => h, fun _ _ h => h, fun _ h => h⟩
theorem Ex.trans {H H1 H2 : Hp} (a : Ex H H1) (b : Ex H1 H2) : Ex H H2 := ⟨fun x o h s => b.st x o (a.st x o h s) s, fun P h => b.tab P (a.tab P h), fun r s h => b.row r s (a.row r s h), fun x h => a.no x (b.no x h)⟩
theorem Ex.new {H : Hp} {p : Addr} {o : HO} (h : H p = none) : Ex H (upd H p o) := by
  refine ⟨fun a u e _ => ?_, fun P t => ?_, fun r s t => ?_, fun a e => ?_⟩
  · rw [upd_ne (ne_of_none e h)]; exact e
  · obtain ⟨ps, e, t⟩ := t
    exact ⟨ps, by rw [upd_ne (ne_of_none e h)]; exact e, t⟩
  · obtain ⟨i, j, k, e, t⟩ := t
    exact ⟨i, j, k, by rw [upd_ne (ne_of_none e h)]; exact e, t⟩
  · by_cases z : a = p
    · rw [z]; exact h
    · rw [upd_ne z] at e; exact e
/-- an object that is new behind H changes -/
theorem Ex.own {H H1 : Hp} {p : Addr} {o : HO} (x : Ex H H1) (h : H p = none) : Ex H (upd H1 p o) := by
  refine ⟨fun a u e s => ?_, fun P t => ?_, fun r s t => ?_, fun a e => ?_⟩
  · rw [upd_ne (ne_of_none e h)]; exact x.st a u e s
  · obtain ⟨ps, e, _⟩ := id t
    obtain ⟨ps', e', t'⟩ := x.tab P t
    exact ⟨ps', by rw [upd_ne (ne_of_none e h)]; exact e', t'⟩
  · obtain ⟨_, _, _, e, _⟩ := id t
    obtain ⟨i, j, k, e', t'⟩ := x.row r s t
    exact ⟨i, j, k, by rw [upd_ne (ne_of_none e h)]; exact e', t'⟩
  · by_cases z : a = p
    · rw [z]; exact h
    · rw [upd_ne z] at e; exact x.no a e
/-- a table has grown -/
theorem Ex.tabbed {H H' : Hp} {P : Addr} (hP : TabG H P) (t : Tabbed P H H') : Ex H H' := by
  obtain ⟨ps, e0, _⟩ := hP
  have nP : ∀ a o, H a = some o → (∀ q, o ≠ .tbl q) → a ≠ P := fun a o e n z => by
    rw [z, e0] at e
    exact n ps (Option.some.inj e).symm
  refine ⟨fun a o e s => ?_, fun Q q => ?_, fun r s q => ?_, fun a e => ?_⟩
  · rw [t.2 a (nP a o e fun q z => by rw [z] at s; exact s)]; exact e
  · by_cases z : Q = P
    · rw [z]; exact t.1
    · obtain ⟨ps', e', t'⟩ := q
      exact ⟨ps', by rw [t.2 Q z]; exact e', t'⟩
  · obtain ⟨i, j, k, e, q⟩ := q
    exact ⟨i, j, k, by rw [t.2 r (nP r _ e fun q z => by cases z)]; exact e, q⟩
  · by_cases z : a = P
    · obtain ⟨ps', e', _⟩ := t.1
      rw [z, e'] at e
      cases e
    · rw [t.2 a z] at e; exact e
/-- the row is drawn from -/
theorem Ex.draw {H : Hp} {r s : Addr} {i j k : Int} (h : RowAt H r s) (hi : 0 ≤ i) (hj : 0 ≤ j) (hj2 : j < 2147483648) (hk : 0 ≤ k) : Ex H (upd H r (.lst [.ref s, .int i, .int j, .int k])) := by
  obtain ⟨i0, j0, k0, e0, _⟩ := h
  refine ⟨fun a u e st => ?_, fun P t => ?_, fun r' s' t => ?_, fun a e => ?_⟩
  · have z : a ≠ r := fun z => by
      rw [z, e0] at e
      cases e
      exact st ⟨s, i0, j0, k0, rfl⟩
    rw [upd_ne z]; exact e
  · obtain ⟨ps, e, t⟩ := t
    have z : P ≠ r := fun z => by
      rw [z, e0] at e
      cases e
    exact ⟨ps, by rw [upd_ne z]; exact e, t⟩
  · obtain ⟨i1, j1, k1, e, t⟩ := t
    by_cases z : r' = r
    · rw [z, e0] at e
      cases e
      exact ⟨i, j, k, by rw [z]; exact upd_same, hi, hj, hj2, hk⟩
    · exact ⟨i1, j1, k1, by rw [upd_ne z]; exact e, t⟩
  · by_cases z : a = r
    · rw [z, upd_same] at e; cases e
    · rw [upd_ne z] at e; exact e
section
variable {K : PySem.W.Frag} {H H' : Hp} {a p : Addr} {xs ys : List V} {o : HO}
theorem Ex.t (e : Ex H H') (h : SqT K H a xs) : SqT K H' a xs := by
  rcases h with (h | ⟨o, h⟩) | h
  · exact .inl (.inl (e.st _ _ h trivial))
  · exact .inl (.inr ⟨o, e.st _ _ h trivial⟩)
  · exact .inr h
theorem Ex.l (e : Ex H H') (n : ¬ RowO (.lst xs)) (h : SqL K H a xs) : SqL K H' a xs := by
  rcases h with (h | ⟨o, h⟩) | h
  · exact .inl (.inl (e.st _ _ h n))
  · exact .inl (.inr ⟨o, e.st _ _ h trivial⟩)
  · exact .inr h
theorem ints_norow {ns : List Int} : ¬ RowO (.lst (ns.map V.int)) := fun ⟨s, i, j, k, e⟩ => by
  have e1 : ns.map V.int = [.ref s, .int i, .int j, .int k] := HO.lst.inj e
  cases ns with
  | nil => cases e1
  | cons x r => cases (List.cons.inj e1).1
theorem nil_norow : ¬ RowO (.lst []) := fun ⟨s, i, j, k, e⟩ => by cases e
theorem Ex.i {ns : List Int} (e : Ex H H') (h : H a = some (.lst (ns.map V.int))) : H' a = some (.lst (ns.map V.int)) := e.st _ _ h ints_norow
theorem sq_new : SqT K (upd H p (.tup xs)) p xs := .inl (.inl upd_same)
theorem sl_new : SqL K (upd H p (.lst xs)) p xs := .inl (.inl upd_same)
theorem sl_at (h : H p = some (.lst xs)) : SqL K H p xs := .inl (.inl h)
end
end GA
namespace GA
open PySem PySem.Spec PyProof.Rows L2 GxR
open Srt in
theorem sorted_ordT {prog : Program} {w : World} {A : Around} {E : Value → Shared → Prop} {s : Shared} {t : Addr} {vs : List Value} {ltv : Value → Value → Bool} {Q : Value → Shared → Prop} (O : SrtO.Swo ltv) (ht : s.heap.IsTuple t vs.toArray) (hz : vs.length ≤ sizeLine)
    (hS : 2 ≤ vs.length → ∀ (h₁ : Heap) (a : Addr), SrtO.SortableO prog w A.in1.in1 { s with heap := h₁ } a vs ltv)
    (h : ∀ (out : List Value) (h1 h' : Heap) (e : Nat), SrtO.Srtd ltv out → SrtO.Stb ltv out vs → (∀ b o, s.heap.get? b = some o → h1.get? b = some o) → h'.get? h1.objs.size = some (seqObj "list" out.toArray e) → (∀ b o, h1.get? b = some o → h'.get? b = some o) → Q (.ref h1.objs.size) { s with heap := h' }) :
    wpAny (model prog w) A (call (.builtin "sorted") [.ref t]) Q E s := by
  refine Calls.call_function_entry kind_sorted plain_sorted entry_sorted (args_sorted1 _) ?_
  unfold Builtin.«sorted»
  refine wpAny_bind (m := checkCount "sorted" 1 1 _) (wpAny_pure ?_)
  obtain ⟨o, ho, hc, n, hd⟩ := ht
  refine wpAny_bind (wpAny_collect_seq t (.inr rfl) ho hc hd (fun h1 hk => ?_) (by rw [List.size_toArray]; exact hz))
  have e0 : vs.toArray.toList = vs := by simp
  rw [e0]
  refine wpAny_bind (wpAny_newList ?_ hz)
  have hoL : (h1.push (seqObj "list" vs.toArray 0)).get? h1.objs.size = some (seqObj "list" vs.toArray 0) := Heap.get?_push_size _ rfl
  refine wpAny_bind (wpAny_holding (wpAny_call_entry slot_list_sort ⟨_, hoL, rfl⟩ entry_list_sort (SrtO.list_sort_ord O hoL hz (fun h2 => hS h2 _ _) fun out hs hb => ⟨_, rfl, ?_⟩) (args_list_sort _)))
  obtain ⟨e, he⟩ := sortedHeap_at (vs := vs) (out := out.toArray) hoL
  refine wpAny_pure ⟨_, rfl, h out h1 _ e hs hb hk he fun b u q => ?_⟩
  have hlt : b < h1.objs.size := Heap.lt_size q
  have hlt2 : b < (h1.push (seqObj "list" vs.toArray 0)).objs.size := by rw [Heap.size_push]; exact Nat.lt_succ_of_lt hlt
  rw [sortedHeap_old (Nat.ne_of_lt hlt) hlt2]
  exact Heap.get?_push_of_some _ q
/-- sorted(t), t a tuple of ints -/
def rSortedTI (K : PySem.W.Frag) : List V → Hp → VK → Prop := fun vs H Q => ∃ (a : Addr) (ns : List Int), vs = [V.ref a] ∧ SqT K H a (ns.map V.int) ∧ ∀ (ns' : List Int) (p : Addr), ns'.Perm ns → ns'.Pairwise (· ≤ ·) → H p = none → Q (.ref p) (upd H p (.lst (ns'.map V.int)))
theorem cr_sortedTI {X : Cx} : CallR X (.builtin "sorted") (rSortedTI X.K) := by
  intro pins s σ H vs us Q I r h
  obtain ⟨a, ns, rfl, hs, q⟩ := h
  obtain ⟨its, rv, hl, hz⟩ := I.tuple hs
  rw [Vals.ref1 r]
  have hi := rv.ints
  refine sorted_ordT SrtO.swo_int (show s.heap.IsTuple a its.toArray from hl) (by rw [← rv.length]; exact hz) (fun h2 h₁ a' => SrtO.ints_sortable hi h2) fun out h1 h' ep o1 o2 hk he hk' => ?_
  obtain ⟨k1, k2, k3⟩ := SrtO.ints_out hi o1 o2
  have hlen : ((out.map SrtO.iv).map V.int).length ≤ sizeLine := by
    rw [List.length_map, k2.length_eq]
    rw [List.length_map] at hz
    exact hz
  have I1 : Inv X pins σ H { s with heap := h1 } := I.kept (t' := s.toks) hk
  exact ⟨.ref _, upd H h1.objs.size (.lst ((out.map SrtO.iv).map V.int)), I1.laid (t' := s.toks) hk' (Nat.le_refl _) ⟨hlen, out, ep, vals_of_ints k1, he⟩, rfl, q _ _ k2 k3 (I1.hok.fresh (Nat.le_refl _))⟩
theorem srtT {X : Cx} {K : PySem.W.Frag} (h : X.K = K) : CallR X (.builtin "sorted") (rSortedTI K) := by subst h; exact cr_sortedTI
theorem srtL {X : Cx} {K : PySem.W.Frag} (h : X.K = K) : CallR X (.builtin "sorted") (rSortedI K) := by subst h; exact cr_sortedI
end GA
/-! promises and the mathematics behind them: checks of permutations, products, inverses, draws -/
namespace KL
open PySem PySem.Spec PyProof.Rows L2 GA GxR
section
variable {K : PySem.W.Frag}
def TyK (H : Hp) (v : V) : Prop := ∃ n, zTyV v H = some n
theorem zty_int (v : V) (H : Hp) : zTyV v H = some "int" → ∃ i, v = .int i := by
  intro h
  cases v with
  | int i => exact ⟨i, rfl⟩
  | ref p =>
    have h : (match H p with
      | some (.lst _) => some "list"
      | some (.tup _) => some "tuple"
      | _ => none) = some "int" := h
    split at h
    · exact absurd (Option.some.inj h) (by decide)
    · exact absurd (Option.some.inj h) (by decide)
    · cases h
  | ty y => exact absurd h (by simp [zTyV])
  | non => exact absurd (Option.some.inj h) (by decide)
  | bl => exact absurd (Option.some.inj h) (by decide)
  | str => exact absurd (Option.some.inj h) (by decide)
  | byt => exact absurd (Option.some.inj h) (by decide)
  | flt => exact absurd (Option.some.inj h) (by decide)
/-- the items, if it is a tuple -/
def tupO : Option HO → Option (List V)
  | some (.tup xs) => some xs
  | _ => none
def tupOf (H : Hp) : V → Option (List V)
  | .ref a => tupO (H a)
  | _ => none
theorem tupO_some {o : Option HO} {xs : List V} (h : tupO o = some xs) : o = some (.tup xs) := by
  unfold tupO at h
  split at h
  · rw [Option.some.inj h]
  · cases h
theorem tupOf_some {H : Hp} {v : V} {xs : List V} (h : tupOf H v = some xs) : ∃ a, v = .ref a ∧ H a = some (.tup xs) := by
  cases v with
  | ref a => exact ⟨a, rfl, tupO_some h⟩
  | _ => cases h
theorem tupOf_at {H : Hp} {a : Addr} {xs : List V} (h : H a = some (.tup xs)) : tupOf H (.ref a) = some xs := by
  show tupO (H a) = some xs
  rw [h]
  rfl
theorem zty_tup (v : V) (H : Hp) (xs : List V) (h : tupOf H v = some xs) : zTyV v H = some "tuple" := by
  obtain ⟨a, rfl, e⟩ := tupOf_some h
  simp only [zTyV, e]
theorem zty_not (v : V) (H : Hp) (n : String) (h : zTyV v H = some n) (hn : tupOf H v = none) : n ≠ "tuple" := by
  intro z
  subst z
  cases v with
  | ref p =>
    have h : (match H p with
      | some (.lst _) => some "list"
      | some (.tup _) => some "tuple"
      | _ => none) = some "tuple" := h
    split at h
    · exact absurd (Option.some.inj h) (by decide)
    · rename_i e
      rw [tupOf_at e] at hn
      cases hn
    · cases h
  | ty y => exact absurd h (by simp [zTyV])
  | non => exact absurd (Option.some.inj h) (by decide)
  | bl => exact absurd (Option.some.inj h) (by decide)
  | int => exact absurd (Option.some.inj h) (by decide)
  | str => exact absurd (Option.some.inj h) (by decide)
  | byt => exact absurd (Option.some.inj h) (by decide)
  | flt => exact absurd (Option.some.inj h) (by decide)
/-- a value that may be asked whether it is a permutation -/
structure GoodV (K : PySem.W.Frag) (H : Hp) (v : V) : Prop where
  ty : TyK H v
  it : ∀ xs, tupOf H v = some xs → xs.length ≤ 4000 ∧ ∀ x ∈ xs, PlainV K H x
def lenB (H : Hp) (n : Int) (v : V) : Bool := match tupOf H v with
  | some xs => decide ((xs.length : Int) = n)
  | none => false
def ptsB (H : Hp) (d : Int) (v : V) : Bool := match tupOf H v with
  | some xs => xs.all (btV 0 (d - 1))
  | none => false
def dstB (H : Hp) (d : Int) (v : V) : Bool := match tupOf H v with
  | some xs => xs.all (btV 0 (d - 1)) && decide xs.Nodup
  | none => false
def permB (H : Hp) (d : Int) (v : V) : Bool := lenB H d v && dstB H d v
def anyB (H : Hp) (v : V) : Bool := match tupOf H v with
  | some xs => btV 1 12 (.int xs.length) && permB H xs.length v
  | none => false
theorem all_ints {lo hi : Int} : ∀ {xs : List V}, xs.all (btV lo hi) = true → ∃ ns : List Int, xs = ns.map V.int ∧ ∀ n ∈ ns, lo ≤ n ∧ n ≤ hi
  | [], _ => ⟨[], rfl, fun _ h => by cases h⟩
  | x :: xs, h => by
    rw [List.all_cons, Bool.and_eq_true] at h
    obtain ⟨ns, rfl, hn⟩ := all_ints h.2
    cases x with
    | int i =>
      have h1 : (decide (lo ≤ i) && decide (i ≤ hi)) = true := h.1
      rw [Bool.and_eq_true, decide_eq_true_iff, decide_eq_true_iff] at h1
      refine ⟨i :: ns, rfl, fun n hm => ?_⟩
      rcases List.mem_cons.mp hm with z | z
      · rw [z]; exact h1
      · exact hn n z
    | _ => cases h.1
theorem nodup_map_int {ns : List Int} : (ns.map V.int).Nodup ↔ ns.Nodup := by
  constructor
  · intro h
    induction ns with
    | nil => exact List.nodup_nil
    | cons x r ih =>
      rw [List.map_cons, List.nodup_cons] at h
      exact List.nodup_cons.mpr ⟨fun z => h.1 (List.mem_map.mpr ⟨x, z, rfl⟩), ih h.2⟩
  · intro h
    induction ns with
    | nil => exact List.nodup_nil
    | cons x r ih =>
      rw [List.nodup_cons] at h
      rw [List.map_cons, List.nodup_cons]
      refine ⟨fun z => ?_, ih h.2⟩
      obtain ⟨y, hy, e⟩ := List.mem_map.mp z
      exact h.1 (V.int.inj e ▸ hy)
def PP (K : PySem.W.Frag) : Addr := (He.cT K ("are_points", none)).2
def spBetween : Sp := fun vs H Q _ => ∃ (v : V) (lo hi : Int), vs = [v, .int lo, .int hi] ∧ TyK H v ∧ Q (.bl (btV lo hi v)) H
def spDegree : Sp := fun vs H Q _ => ∃ v : V, vs = [v] ∧ TyK H v ∧ Q (.bl (btV 1 12 v)) H
def spTupleOf : Sp := fun vs H Q _ => ∃ (v : V) (n : Int), vs = [v, .int n] ∧ TyK H v ∧ Q (.bl (lenB H n v)) H
def spPoints (K : PySem.W.Frag) : Sp := fun vs H Q _ => ∃ (v : V) (d : Int), vs = [.int d, v] ∧ GoodV K H v ∧ TabG H (PP K) ∧ ∀ H', Ex H H' → Q (.bl (ptsB H d v)) H'
def spDistinct (K : PySem.W.Frag) : Sp := fun vs H Q _ => ∃ (v : V) (d : Int), vs = [.int d, v] ∧ GoodV K H v ∧ TabG H (PP K) ∧ ∀ H', Ex H H' → Q (.bl (dstB H d v)) H'
def spPerm (K : PySem.W.Frag) : Sp := fun vs H Q _ => ∃ (v : V) (d : Int), vs = [.int d, v] ∧ GoodV K H v ∧ TabG H (PP K) ∧ ∀ H', Ex H H' → Q (.bl (permB H d v)) H'
def spAny (K : PySem.W.Frag) : Sp := fun vs H Q _ => ∃ v : V, vs = [v] ∧ GoodV K H v ∧ TabG H (PP K) ∧ ∀ H', Ex H H' → Q (.bl (anyB H v)) H'
def spCkDegree : Sp := fun vs H Q _ => ∃ v : V, vs = [v] ∧ TyK H v ∧ btV 1 12 v = true ∧ Q .non H
def spCkAny (K : PySem.W.Frag) : Sp := fun vs H Q _ => ∃ v : V, vs = [v] ∧ GoodV K H v ∧ TabG H (PP K) ∧ anyB H v = true ∧ ∀ H', Ex H H' → Q .non H'
def spCkPerm (K : PySem.W.Frag) : Sp := fun vs H Q _ => ∃ (v : V) (d : Int), vs = [.int d, v] ∧ GoodV K H v ∧ TabG H (PP K) ∧ permB H d v = true ∧ ∀ H', Ex H H' → Q .non H'
/-- a permutation of the points below n -/
structure IsPm (n : Nat) (p : List Int) : Prop where
  len : p.length = n
  nd : p.Nodup
  bd : ∀ x ∈ p, 0 ≤ x ∧ x < n
/-- the tuple of a permutation's images at a -/
structure Pm (H : Hp) (a : Addr) (n : Nat) (p : List Int) : Prop where
  at_ : H a = some (.tup (p.map V.int))
  is : IsPm n p
theorem Pm.ex {H H' : Hp} {a : Addr} {n : Nat} {p : List Int} (x : Ex H H') (h : Pm H a n p) : Pm H' a n p := ⟨x.st _ _ h.at_ trivial, h.is⟩
theorem plain_int {K : PySem.W.Frag} {H : Hp} {p : List Int} : ∀ x ∈ p.map V.int, PlainV K H x := fun x hx => by
  obtain ⟨i, _, rfl⟩ := List.mem_map.mp hx
  trivial
theorem Pm.good {H : Hp} {a : Addr} {n : Nat} {p : List Int} (h : Pm H a n p) (hn : n ≤ 12) : GoodV K H (.ref a) := by
  have ht := tupOf_at h.at_
  refine ⟨⟨"tuple", zty_tup _ H _ ht⟩, fun xs hx => ?_⟩
  rw [ht] at hx
  cases hx
  refine ⟨?_, plain_int⟩
  rw [List.length_map, h.is.len]
  omega
theorem all_bt {lo hi : Int} {ns : List Int} (h : ∀ n ∈ ns, lo ≤ n ∧ n ≤ hi) : (ns.map V.int).all (btV lo hi) = true := by
  rw [List.all_eq_true]
  intro x hx
  obtain ⟨i, hi', rfl⟩ := List.mem_map.mp hx
  have := h i hi'
  show (decide (lo ≤ i) && decide (i ≤ hi)) = true
  rw [decide_eq_true this.1, decide_eq_true this.2]
  rfl
theorem Pm.permB {H : Hp} {a : Addr} {n : Nat} {p : List Int} (h : Pm H a n p) : permB H n (.ref a) = true := by
  have ht := tupOf_at h.at_
  unfold KL.permB lenB dstB
  rw [ht]
  show (decide (((p.map V.int).length : Int) = (n : Int)) && ((p.map V.int).all (btV 0 (n - 1)) && decide (p.map V.int).Nodup)) = true
  rw [List.length_map, h.is.len, decide_eq_true rfl, all_bt fun x hx => ⟨(h.is.bd x hx).1, by have := (h.is.bd x hx).2; omega⟩, decide_eq_true (nodup_map_int.mpr h.is.nd)]
  rfl
theorem Pm.anyB {H : Hp} {a : Addr} {n : Nat} {p : List Int} (h : Pm H a n p) (h1 : 1 ≤ n) (h12 : n ≤ 12) : anyB H (.ref a) = true := by
  have ht := tupOf_at h.at_
  unfold KL.anyB
  rw [ht]
  show (btV 1 12 (.int ((p.map V.int).length : Nat)) && KL.permB H ((p.map V.int).length : Nat) (.ref a)) = true
  rw [List.length_map, h.is.len, h.permB]
  show ((decide ((1 : Int) ≤ n) && decide ((n : Int) ≤ 12)) && true) = true
  rw [decide_eq_true (by omega), decide_eq_true (by omega)]
  rfl
def spCkTwo (K : PySem.W.Frag) : Sp := fun vs H Q _ => ∃ (a b : Addr) (n : Nat) (p q : List Int), vs = [.ref a, .ref b] ∧ Pm H a n p ∧ Pm H b n q ∧ 1 ≤ n ∧ n ≤ 12 ∧ TabG H (PP K) ∧ ∀ H', Ex H H' → Q .non H'
/-! ### permutations as lists of images -/
def mulL (p q : List Int) : List Int := p.map fun x => q.getD x.toNat 0
def invL (p : List Int) : List Int := (List.range p.length).map fun i => ((p.idxOf (Int.ofNat i) : Nat) : Int)
theorem IsPm.get {n : Nat} {p : List Int} (h : IsPm n p) {i : Nat} (hi : i < n) : ∃ x : Int, p[i]? = some x ∧ 0 ≤ x ∧ x < n := by
  have hl : i < p.length := by rw [h.len]; exact hi
  exact ⟨p[i], List.getElem?_eq_getElem hl, h.bd _ (List.getElem_mem hl)⟩
theorem getD_of {l : List Int} {i : Nat} {x d : Int} (h : l[i]? = some x) : l.getD i d = x := by rw [List.getD_eq_getElem?_getD, h]; rfl
theorem at_int {l : List Int} {x : Int} {v : Int} (h0 : 0 ≤ x) (h : l[x.toNat]? = some v) : atI (l.map V.int) x = some (.int v) := by
  have e : x = ((x.toNat : Nat) : Int) := by omega
  rw [e]
  exact atI_nat (by rw [List.getElem?_map, h]; rfl)
def spUnit : Sp := fun vs H Q _ => ∃ n : Nat, vs = [.int n] ∧ n ≤ 1000 ∧ ∀ a H', Ex H H' → H' a = some (.tup (((List.range n).map Int.ofNat).map V.int)) → Q (.ref a) H'
theorem rg_ints (n : Nat) : rgV 0 n = ((List.range n).map Int.ofNat).map V.int := by
  unfold rgV
  rw [List.map_map]
  have e : ((n : Int) - 0).toNat = n := by omega
  rw [e]
  refine List.map_congr_left fun i _ => ?_
  show V.int (0 + (i : Int)) = V.int (i : Int)
  rw [Int.zero_add]
def spMul : Sp := fun vs H Q _ => ∃ (a b : Addr) (n : Nat) (p q : List Int), vs = [.ref a, .ref b] ∧ Pm H a n p ∧ Pm H b n q ∧ n ≤ 1000 ∧ ∀ c H', Ex H H' → H' c = some (.tup ((mulL p q).map V.int)) → Q (.ref c) H'
theorem mul_take {p q : List Int} {i : Nat} {x : Int} (h : p[i]? = some x) : (mulL p q).take (i + 1) = (mulL p q).take i ++ [q.getD x.toNat 0] := by
  rw [List.take_add_one]
  unfold mulL
  rw [List.getElem?_map, h]
  rfl
/-! ### inverses: a list filled by places -/
/-- the places of p's first i items are filled: at p j stands f j -/
structure Filled (n : Nat) (p : List Int) (f : Nat → Int) (i : Nat) (L : List Int) : Prop where
  len : L.length = n
  at_ : ∀ j x, j < i → p[j]? = some x → L[x.toNat]? = some (f j)
theorem Filled.start {n : Nat} {p : List Int} {f : Nat → Int} : Filled n p f 0 (List.replicate n 0) := ⟨List.length_replicate .., fun j x h => absurd h (Nat.not_lt_zero _)⟩
theorem Filled.step {n : Nat} {p : List Int} {f : Nat → Int} {i : Nat} {L : List Int} {x : Int} (h : Filled n p f i L) (hp : IsPm n p) (hx : p[i]? = some x) : Filled n p f (i + 1) (L.set x.toNat (f i)) := by
  have hb := hp.bd x (List.mem_of_getElem? hx)
  refine ⟨by rw [List.length_set, h.len], fun j y hj hy => ?_⟩
  by_cases e : j = i
  · subst e
    rw [hx] at hy
    cases hy
    rw [List.getElem?_set_self (by rw [h.len]; omega)]
  · have hne : x.toNat ≠ y.toNat := fun z => by
      have hb2 := hp.bd y (List.mem_of_getElem? hy)
      have exy : x = y := by omega
      subst exy
      obtain ⟨h1, e1⟩ := List.getElem?_eq_some_iff.mp hx
      obtain ⟨h2, e2⟩ := List.getElem?_eq_some_iff.mp hy
      exact e ((List.getElem_inj hp.nd).mp (e2.trans e1.symm))
    rw [List.getElem?_set_ne hne]
    exact h.at_ j y (by omega) hy
/-- each point below n is an image -/
theorem IsPm.onto {n : Nat} {p : List Int} (h : IsPm n p) {k : Nat} (hk : k < n) : ∃ j, j < n ∧ p[j]? = some (k : Int) := by
  have hm : (k : Int) ∈ p := by
    apply Classical.byContradiction
    intro hn
    have h1 : ∀ x ∈ (k : Int) :: p, x ∈ (List.range n).map Int.ofNat := fun x hx => by
      rcases List.mem_cons.mp hx with z | z
      · rw [z]
        exact List.mem_map.mpr ⟨k, List.mem_range.mpr hk, rfl⟩
      · have := h.bd x z
        exact List.mem_map.mpr ⟨x.toNat, List.mem_range.mpr (by omega), by show ((x.toNat : Nat) : Int) = x; omega⟩
    have h2 := len_le_sub (List.nodup_cons.mpr ⟨hn, h.nd⟩) h1
    rw [List.length_map, List.length_range, List.length_cons, h.len] at h2
    omega
  obtain ⟨j, hj, e⟩ := List.getElem_of_mem hm
  exact ⟨j, by rw [← h.len]; exact hj, by rw [List.getElem?_eq_getElem hj, e]⟩
theorem Filled.uniq {n : Nat} {p : List Int} {f : Nat → Int} {L M : List Int} (hp : IsPm n p) (h : Filled n p f n L) (g : Filled n p f n M) : L = M := by
  refine List.ext_getElem? fun k => ?_
  by_cases hk : k < n
  · obtain ⟨j, hj, e⟩ := hp.onto hk
    have h1 := h.at_ j _ hj e
    have h2 := g.at_ j _ hj e
    have ek : ((k : Nat) : Int).toNat = k := by omega
    rw [ek] at h1 h2
    rw [h1, h2]
  · rw [List.getElem?_eq_none (by rw [h.len]; omega), List.getElem?_eq_none (by rw [g.len]; omega)]
theorem invL_filled {n : Nat} {p : List Int} (hp : IsPm n p) : Filled n p (fun j => (j : Int)) n (invL p) := by
  unfold invL
  refine ⟨by rw [List.length_map, List.length_range, hp.len], fun j x hj hx => ?_⟩
  have hb := hp.bd x (List.mem_of_getElem? hx)
  rw [List.getElem?_map, List.getElem?_range (by rw [hp.len]; omega)]
  show some (((p.idxOf (Int.ofNat x.toNat)) : Nat) : Int) = some ((j : Nat) : Int)
  have e : Int.ofNat x.toNat = x := by show ((x.toNat : Nat) : Int) = x; omega
  obtain ⟨h1, e1⟩ := List.getElem?_eq_some_iff.mp hx
  rw [e, ← e1, List.Nodup.idxOf_getElem hp.nd]
def spInv : Sp := fun vs H Q _ => ∃ (a : Addr) (n : Nat) (p : List Int), vs = [.ref a] ∧ Pm H a n p ∧ n ≤ 1000 ∧ ∀ c H', Ex H H' → H' c = some (.tup ((invL p).map V.int)) → Q (.ref c) H'
theorem rep_flat (n : Nat) : (List.replicate n [V.int 0]).flatten = (List.replicate n (0 : Int)).map V.int := by
  induction n with
  | zero => rfl
  | succ n ih =>
    rw [List.replicate_succ, List.flatten_cons, ih, List.replicate_succ]
    rfl
theorem set_map (L : List Int) (k : Nat) (v : Int) : (L.map V.int).set k (.int v) = (L.set k v).map V.int := by rw [List.map_set]
theorem ixN_of {n : Nat} {x : Int} (h0 : 0 ≤ x) (h : x < n) : ixN n x = some x.toNat := by
  unfold ixN
  rw [if_pos h0, if_pos h]
theorem Filled.isPm {n : Nat} {q : List Int} {f : Nat → Int} {L : List Int} (hq : IsPm n q) (h : Filled n q f n L) (hb : ∀ j, j < n → 0 ≤ f j ∧ f j < n) (hi : ∀ j k, j < n → k < n → f j = f k → j = k) : IsPm n L := by
  have key : ∀ k, k < n → ∃ j, j < n ∧ q[j]? = some (k : Int) ∧ L[k]? = some (f j) := fun k hk => by
    obtain ⟨j, hj, e⟩ := hq.onto hk
    have h1 := h.at_ j _ hj e
    have ek : ((k : Nat) : Int).toNat = k := by omega
    rw [ek] at h1
    exact ⟨j, hj, e, h1⟩
  refine ⟨h.len, ?_, fun x hx => ?_⟩
  · rw [List.nodup_iff_pairwise_ne, List.pairwise_iff_getElem]
    intro a b ha hb2 hab e
    obtain ⟨j, hj, e1, e2⟩ := key a (by rw [← h.len]; exact ha)
    obtain ⟨k, hk, e3, e4⟩ := key b (by rw [← h.len]; exact hb2)
    rw [List.getElem?_eq_getElem ha] at e2
    rw [List.getElem?_eq_getElem hb2] at e4
    have ejk := hi j k hj hk (by rw [← Option.some.inj e2, ← Option.some.inj e4, e])
    subst ejk
    rw [e1] at e3
    have := Option.some.inj e3
    omega
  · obtain ⟨k, hk, e⟩ := List.getElem_of_mem hx
    obtain ⟨j, hj, _, e2⟩ := key k (by rw [← h.len]; exact hk)
    rw [List.getElem?_eq_getElem hk, e] at e2
    rw [Option.some.inj e2]
    exact hb j hj
theorem IsPm.inj {n : Nat} {p : List Int} (h : IsPm n p) {i j : Nat} {x : Int} (hi : p[i]? = some x) (hj : p[j]? = some x) : i = j := by
  obtain ⟨h1, e1⟩ := List.getElem?_eq_some_iff.mp hi
  obtain ⟨h2, e2⟩ := List.getElem?_eq_some_iff.mp hj
  exact (List.getElem_inj h.nd).mp (e1.trans e2.symm)
theorem invL_pm {n : Nat} {p : List Int} (hp : IsPm n p) : IsPm n (invL p) := (invL_filled hp).isPm hp (fun j hj => ⟨by omega, by omega⟩) fun j k _ _ e => by omega
/-- q's image of p's image of j -/
def thenF (p q : List Int) (j : Nat) : Int := q.getD (p.getD j 0).toNat 0
theorem thenF_of {n : Nat} {p q : List Int} (hp : IsPm n p) (hq : IsPm n q) {j : Nat} (hj : j < n) : ∃ x y : Int, p[j]? = some x ∧ 0 ≤ x ∧ x < n ∧ q[x.toNat]? = some y ∧ 0 ≤ y ∧ y < n ∧ thenF p q j = y := by
  obtain ⟨x, hx, h0, hb⟩ := hp.get hj
  obtain ⟨y, hy, g0, gb⟩ := hq.get (i := x.toNat) (by omega)
  exact ⟨x, y, hx, h0, hb, hy, g0, gb, by unfold thenF; rw [getD_of hx, getD_of hy]⟩
theorem thenF_inj {n : Nat} {p q : List Int} (hp : IsPm n p) (hq : IsPm n q) {j k : Nat} (hj : j < n) (hk : k < n) (e : thenF p q j = thenF p q k) : j = k := by
  obtain ⟨x, y, hx, h0, hb, hy, g0, gb, ej⟩ := thenF_of hp hq hj
  obtain ⟨x', y', hx', h0', hb', hy', g0', gb', ek⟩ := thenF_of hp hq hk
  rw [ej, ek] at e
  subst e
  have e2 := hq.inj hy hy'
  have e3 : x = x' := by omega
  subst e3
  exact hp.inj hx hx'
theorem mulL_get {n : Nat} {p q : List Int} (hp : IsPm n p) {j : Nat} (hj : j < n) : (mulL p q)[j]? = some (thenF p q j) := by
  obtain ⟨x, hx, _, _⟩ := hp.get hj
  unfold mulL thenF
  rw [List.getElem?_map, hx, getD_of hx]
  rfl
theorem mulL_pm {n : Nat} {p q : List Int} (hp : IsPm n p) (hq : IsPm n q) : IsPm n (mulL p q) := by
  have hl : (mulL p q).length = n := by unfold mulL; rw [List.length_map, hp.len]
  refine ⟨hl, ?_, fun x hx => ?_⟩
  · rw [List.nodup_iff_pairwise_ne, List.pairwise_iff_getElem]
    intro a b ha hb hab e
    have ea := mulL_get (q := q) hp (j := a) (by omega)
    have eb := mulL_get (q := q) hp (j := b) (by omega)
    rw [List.getElem?_eq_getElem ha] at ea
    rw [List.getElem?_eq_getElem hb] at eb
    have := thenF_inj hp hq (j := a) (k := b) (by omega) (by omega) (by rw [← Option.some.inj ea, ← Option.some.inj eb, e])
    omega
  · obtain ⟨k, hk, e⟩ := List.getElem_of_mem hx
    have ek := mulL_get (q := q) hp (j := k) (by omega)
    rw [List.getElem?_eq_getElem hk, e] at ek
    obtain ⟨_, y, _, _, _, _, g0, gb, ey⟩ := thenF_of hp hq (j := k) (by omega)
    rw [Option.some.inj ek, ey]
    exact ⟨g0, gb⟩
theorem unit_pm (n : Nat) : IsPm n ((List.range n).map Int.ofNat) := by
  refine ⟨by rw [List.length_map, List.length_range], ?_, fun x hx => ?_⟩
  · rw [List.nodup_iff_pairwise_ne, List.pairwise_iff_getElem]
    intro a b ha hb hab e
    rw [List.getElem_map, List.getElem_map, List.getElem_range, List.getElem_range] at e
    have : (a : Int) = (b : Int) := e
    omega
  · obtain ⟨k, hk, rfl⟩ := List.mem_map.mp hx
    have := List.mem_range.mp hk
    exact ⟨by show (0 : Int) ≤ (k : Int); omega, by show (k : Int) < (n : Int); omega⟩
def spConj : Sp := fun vs H Q _ => ∃ (a b : Addr) (n : Nat) (p g : List Int), vs = [.ref a, .ref b] ∧ Pm H a n p ∧ Pm H b n g ∧ n ≤ 1000 ∧ ∀ c H' L, Ex H H' → H' c = some (.tup (L.map V.int)) → Filled n g (thenF p g) n L → Q (.ref c) H'
def unitL (n : Nat) : List Int := (List.range n).map Int.ofNat
def spIdentity : Sp := fun vs H Q _ => ∃ n : Nat, vs = [.int n] ∧ 1 ≤ n ∧ n ≤ 12 ∧ ∀ a H', Ex H H' → Pm H' a n (unitL n) → Q (.ref a) H'
def spProduct (K : PySem.W.Frag) : Sp := fun vs H Q _ => ∃ (a b : Addr) (n : Nat) (p q : List Int), vs = [.ref a, .ref b] ∧ Pm H a n p ∧ Pm H b n q ∧ 1 ≤ n ∧ n ≤ 12 ∧ TabG H (PP K) ∧ ∀ c H', Ex H H' → Pm H' c n (mulL p q) → Q (.ref c) H'
def spInverse (K : PySem.W.Frag) : Sp := fun vs H Q _ => ∃ (a : Addr) (n : Nat) (p : List Int), vs = [.ref a] ∧ Pm H a n p ∧ 1 ≤ n ∧ n ≤ 12 ∧ TabG H (PP K) ∧ ∀ c H', Ex H H' → Pm H' c n (invL p) → Q (.ref c) H'
def spConjugate (K : PySem.W.Frag) : Sp := fun vs H Q _ => ∃ (a b : Addr) (n : Nat) (p g : List Int), vs = [.ref a, .ref b] ∧ Pm H a n p ∧ Pm H b n g ∧ 1 ≤ n ∧ n ≤ 12 ∧ TabG H (PP K) ∧ ∀ c H' L, Ex H H' → Pm H' c n L → Filled n g (thenF p g) n L → Q (.ref c) H'
theorem thenF_filled {n : Nat} {p g q L : List Int} (hp : IsPm n p) (hg : IsPm n g) (hq : IsPm n q) (h : Filled n q (thenF p g) n L) : IsPm n L :=
  h.isPm hq (fun j hj => by
    obtain ⟨_, _, _, _, _, _, g0, gb, e⟩ := thenF_of hp hg hj
    rw [e]
    exact ⟨g0, gb⟩) fun j k hj hk e => thenF_inj hp hg hj hk e
def spCommutator (K : PySem.W.Frag) : Sp := fun vs H Q _ => ∃ (a b : Addr) (n : Nat) (p q : List Int), vs = [.ref a, .ref b] ∧ Pm H a n p ∧ Pm H b n q ∧ 1 ≤ n ∧ n ≤ 12 ∧ TabG H (PP K) ∧ ∀ c H' L, Ex H H' → Pm H' c n L → Filled n (mulL q p) (thenF p q) n L → Q (.ref c) H'
theorem comm_filled {n : Nat} {p q L : List Int} (hp : IsPm n p) (hq : IsPm n q) (h : Filled n q (thenF p q) n L) : Filled n (mulL q p) (thenF p q) n (mulL (invL p) L) := by
  have hL := thenF_filled hp hq hq h
  refine ⟨(mulL_pm (invL_pm hp) hL).len, fun j x hj hx => ?_⟩
  obtain ⟨k, y, hk, k0, kb, hy, y0, yb, e⟩ := thenF_of hq hp hj
  rw [mulL_get hq hj, e] at hx
  cases hx
  have h1 := (invL_filled hp).at_ k.toNat x (by omega) hy
  have h2 := h.at_ j k hj hk
  unfold mulL
  rw [List.getElem?_map, h1]
  show some (L.getD (((k.toNat : Nat) : Int)).toNat 0) = some (thenF p q j)
  have ek : (((k.toNat : Nat) : Int)).toNat = k.toNat := by omega
  rw [ek, getD_of h2]
/-! ### draws -/
def spTaken (K : PySem.W.Frag) : Sp := fun vs H Q _ => ∃ (r s : Addr) (m : Nat) (ns : List Int), vs = [.ref r, .int m] ∧ RowAt H r s ∧ SqL K H s (ns.map V.int) ∧ 1 ≤ m ∧ m ≤ 2000000000 ∧ ∀ (j : Nat) H', Ex H H' → j < m → Q (.int j) H'
theorem IsPm.swap {n : Nat} {L : List Int} (h : IsPm n L) {i j : Nat} {x y : Int} (hi : L[i]? = some x) (hj : L[j]? = some y) : IsPm n ((L.set i y).set j x) := by
  obtain ⟨h1, e1⟩ := List.getElem?_eq_some_iff.mp hi
  obtain ⟨h2, e2⟩ := List.getElem?_eq_some_iff.mp hj
  have p := List.set_set_perm h1 h2
  rw [e1, e2] at p
  exact ⟨p.length_eq.trans h.len, p.nodup_iff.mpr h.nd, fun z hz => h.bd z (p.mem_iff.mp hz)⟩
def spLawPerm (K : PySem.W.Frag) : Sp := fun vs H Q _ => ∃ (r s : Addr) (n : Nat) (ns : List Int), vs = [.ref r, .int n] ∧ RowAt H r s ∧ SqL K H s (ns.map V.int) ∧ 1 ≤ n ∧ n ≤ 1000 ∧ ∀ c H' p, Ex H H' → Pm H' c n p → Q (.ref c) H'
def spLawUnit : Sp := fun vs H Q _ => ∃ n : Nat, vs = [.int n] ∧ n ≤ 1000 ∧ ∀ a H', Ex H H' → Pm H' a n (unitL n) → Q (.ref a) H'
def spLawInv : Sp := fun vs H Q _ => ∃ (a : Addr) (n : Nat) (p : List Int), vs = [.ref a] ∧ Pm H a n p ∧ n ≤ 1000 ∧ ∀ c H', Ex H H' → Pm H' c n (invL p) → Q (.ref c) H'
/-! ### the law's own comparison -/
theorem isi_q {K : PySem.W.Frag} {H : Hp} {x : V} {T C : String} {b : Bool} {Q : VK} (t : TyX K H x (.type T)) (k : kitB T C = some b) (q : Q (.bl b) H) : rIsi K [x, .ty C] H Q := ⟨x, .ty C, .type T, .type C, b, rfl, .ty C, t, kit_ty k, q⟩
theorem isit_q {K : PySem.W.Frag} {H : Hp} {x : V} {T C D : String} {b c : Bool} {tp : Addr} {Q : VK} (t : TyX K H x (.type T)) (hp : H tp = some (.tup [.ty C, .ty D])) (k : kitB T C = some b) (k2 : kitB T D = some c) (q : Q (.bl (b || c)) H) : rIsiT K [x, .ref tp] H Q := by
  refine ⟨x, tp, [.ty C, .ty D], .type T, [.type C, .type D], b || c, rfl, hp, .cons (.ty C) (.cons (.ty D) .nil), t, ?_, q⟩
  refine kitAny_cons (kit_ty k) (fun e => ?_) (fun e => by rw [e]; rfl)
  subst e
  refine kitAny_cons (kit_ty k2) (fun e => by rw [e]; rfl) (fun e => by rw [e]; rfl)
theorem tyx_int {K : PySem.W.Frag} {H : Hp} (i : Int) : TyX K H (.int i) (.type "int") := .base (.int i)
theorem tyx_tup {K : PySem.W.Frag} {H : Hp} {a : Addr} {xs : List V} (h : H a = some (.tup xs)) : TyX K H (.ref a) (.type "tuple") := .base (.tup h)
def spAlike0 : Sp := fun vs H Q _ => ∃ (x y : Int), vs = [.int x, .int y] ∧ ∀ H', Ex H H' → Q (.bl (decide (x = y))) H'
theorem dp_nil {K : PySem.W.Frag} {H : Hp} {a : Addr} (h : H a = some (.lst [])) : Dp K H (.ref a) (.list []) := .lst (sl_at h) .nil
def spAlike : Sp := fun vs H Q _ => ∃ (a b : Addr) (ns : List Int), vs = [.ref a, .ref b] ∧ H a = some (.tup (ns.map V.int)) ∧ H b = some (.tup (ns.map V.int)) ∧ ns.length ≤ 1000 ∧ ∀ H', Ex H H' → Q (.bl true) H'
theorem dp_all {K : PySem.W.Frag} {H : Hp} : ∀ ns : List Int, DpAll K H (ns.map V.int) (ns.map PyData.int)
  | [] => .nil
  | x :: r => .cons (.int x) (dp_all r)
theorem dp_ints {K : PySem.W.Frag} {H : Hp} {a : Addr} {ns : List Int} (h : H a = some (.lst (ns.map V.int))) : Dp K H (.ref a) (.list (ns.map PyData.int)) := .lst (sl_at h) (dp_all ns)
theorem canLay_ints (ns : List Int) : PyData.canLay0 (.list (ns.map PyData.int)) = true := SeqAt.canLay_of_shaped (PySem.W.ke_shaped_ints ns)
theorem srt_unit {n : Nat} {p ns : List Int} (hp : IsPm n p) (h : ns.Perm p) (hs : ns.Pairwise (· ≤ ·)) : ns = unitL n := by
  have hpu : p.Perm (unitL n) := (List.perm_ext_iff_of_nodup hp.nd (unit_pm n).nd).mpr fun x => by
    constructor
    · intro hx
      have := hp.bd x hx
      exact List.mem_map.mpr ⟨x.toNat, List.mem_range.mpr (by omega), by show ((x.toNat : Nat) : Int) = x; omega⟩
    · intro hx
      obtain ⟨k, hk, rfl⟩ := List.mem_map.mp hx
      obtain ⟨j, hj, e⟩ := hp.onto (List.mem_range.mp hk)
      exact List.mem_of_getElem? e
  refine PySem.W.ksm_same (h.trans hpu) hs ?_
  unfold unitL
  rw [List.pairwise_map]
  refine List.Pairwise.imp (fun {a b} h => ?_) List.pairwise_lt_range
  show ((a : Nat) : Int) ≤ ((b : Nat) : Int)
  omega
def spIsPerm : Sp := fun vs H Q _ => ∃ (a : Addr) (n : Nat) (p : List Int), vs = [.int n, .ref a] ∧ Pm H a n p ∧ n ≤ 1000 ∧ ∀ H', Ex H H' → Q (.bl true) H'
theorem invL_invL {n : Nat} {p : List Int} (hp : IsPm n p) : invL (invL p) = p := by
  have hi := invL_pm hp
  refine Filled.uniq hi (invL_filled hi) ⟨hp.len, fun j x hj hx => ?_⟩
  obtain ⟨k, hk, e⟩ := hp.onto hj
  have h1 := (invL_filled hp).at_ k _ hk e
  have ej : ((j : Nat) : Int).toNat = j := by omega
  rw [ej, hx] at h1
  have ex : x = (k : Int) := Option.some.inj h1
  rw [ex]
  have ek : ((k : Nat) : Int).toNat = k := by omega
  rw [ek, e]
theorem mul_inv {n : Nat} {p : List Int} (hp : IsPm n p) : mulL p (invL p) = unitL n := by
  have hi := invL_pm hp
  refine List.ext_getElem? fun j => ?_
  by_cases hj : j < n
  · obtain ⟨x, y, hx, h0, hb, hy, _, _, e⟩ := thenF_of hp hi hj
    have h1 := (invL_filled hp).at_ j x hj hx
    rw [hy] at h1
    rw [mulL_get hp hj, e]
    unfold unitL
    rw [List.getElem?_map, List.getElem?_range hj]
    exact h1
  · rw [List.getElem?_eq_none (by rw [(mulL_pm hp hi).len]; omega), List.getElem?_eq_none (by rw [show (unitL n).length = n from (unit_pm n).len]; omega)]
end
end KL
/-! powers of permutations and their cycles -/
namespace KL
open PySem PySem.Spec PyProof.Rows L2 GA GxR
/-- p times itself, k times -/
def pwL (n : Nat) (p : List Int) : Nat → List Int
  | 0 => unitL n
  | k + 1 => mulL (pwL n p k) p
theorem pwL_pm {n : Nat} {p : List Int} (hp : IsPm n p) : ∀ k, IsPm n (pwL n p k)
  | 0 => unit_pm n
  | k + 1 => mulL_pm (pwL_pm hp k) hp
theorem unitL_get {n j : Nat} (h : j < n) : (unitL n)[j]? = some (j : Int) := by
  unfold unitL
  rw [List.getElem?_map, List.getElem?_range h]
  rfl
theorem pm_ext {n : Nat} {p q : List Int} (hp : p.length = n) (hq : q.length = n) (h : ∀ j, j < n → p[j]? = q[j]?) : p = q := by
  refine List.ext_getElem? fun j => ?_
  by_cases hj : j < n
  · exact h j hj
  · rw [List.getElem?_eq_none (by omega), List.getElem?_eq_none (by omega)]
theorem mulL_at {p q : List Int} {j : Nat} {x y : Int} (hx : p[j]? = some x) (hy : q[x.toNat]? = some y) : (mulL p q)[j]? = some y := by
  unfold mulL
  rw [List.getElem?_map, hx]
  show some (q.getD x.toNat 0) = some y
  rw [getD_of hy]
theorem unit_mulL {n : Nat} {p : List Int} (hp : IsPm n p) : mulL (unitL n) p = p := by
  refine pm_ext (n := n) (mulL_pm (unit_pm n) hp).len hp.len fun j hj => ?_
  obtain ⟨y, hy, _⟩ := hp.get hj
  rw [mulL_at (unitL_get hj) (y := y) (by rw [show ((j : Nat) : Int).toNat = j by omega]; exact hy), hy]
theorem mulL_unit {n : Nat} {p : List Int} (hp : IsPm n p) : mulL p (unitL n) = p := by
  refine pm_ext (n := n) (mulL_pm hp (unit_pm n)).len hp.len fun j hj => ?_
  obtain ⟨y, hy, h0, hb⟩ := hp.get hj
  rw [mulL_at hy (y := y) (by rw [unitL_get (by omega)]; congr 1; omega), hy]
theorem mulL_assoc {n : Nat} {p q r : List Int} (hp : IsPm n p) (hq : IsPm n q) (hr : IsPm n r) : mulL (mulL p q) r = mulL p (mulL q r) := by
  refine pm_ext (n := n) (mulL_pm (mulL_pm hp hq) hr).len (mulL_pm hp (mulL_pm hq hr)).len fun j hj => ?_
  obtain ⟨x, hx, x0, xb⟩ := hp.get hj
  obtain ⟨y, hy, y0, yb⟩ := hq.get (i := x.toNat) (by omega)
  obtain ⟨z, hz, z0, zb⟩ := hr.get (i := y.toNat) (by omega)
  rw [mulL_at (mulL_at hx hy) hz, mulL_at hx (mulL_at hy hz)]
theorem pwL_one {n : Nat} {p : List Int} (hp : IsPm n p) : pwL n p 1 = p := unit_mulL hp
theorem pwL_add {n : Nat} {p : List Int} (hp : IsPm n p) (a : Nat) : ∀ b, mulL (pwL n p a) (pwL n p b) = pwL n p (a + b)
  | 0 => mulL_unit (pwL_pm hp a)
  | b + 1 => by
    show mulL (pwL n p a) (mulL (pwL n p b) p) = mulL (pwL n p (a + b)) p
    rw [← mulL_assoc (pwL_pm hp a) (pwL_pm hp b) hp, pwL_add hp a b]
theorem pwL_per {n N : Nat} {p : List Int} (hp : IsPm n p) (h : pwL n p N = unitL n) (k : Nat) : ∀ t, pwL n p (k + N * t) = pwL n p k
  | 0 => rfl
  | t + 1 => by
    have e : k + N * (t + 1) = (k + N * t) + N := by rw [Nat.mul_succ]; omega
    rw [e, ← pwL_add hp, h, mulL_unit (pwL_pm hp _), pwL_per hp h k t]
theorem pwL_mod {n N : Nat} {p : List Int} (hp : IsPm n p) (h : pwL n p N = unitL n) (k : Nat) : pwL n p (k % N) = pwL n p k := by
  rw [← pwL_per hp h (k % N) (k / N), Nat.mod_add_div]
/-- a row that p turns by one place -/
structure Turn (p r : List Int) : Prop where
  ne : 0 < r.length
  st : ∀ i x, r[i]? = some x → p[x.toNat]? = r[(i + 1) % r.length]?
/-- p's cycles -/
structure Cyc (n : Nat) (p : List Int) (R : List (List Int)) : Prop where
  tn : ∀ r ∈ R, Turn p r
  nd : R.flatten.Nodup
  bd : ∀ x ∈ R.flatten, 0 ≤ x ∧ x < n
theorem Turn.pw {n : Nat} {p r : List Int} (hp : IsPm n p) (T : Turn p r) (hb : ∀ x ∈ r, 0 ≤ x ∧ x < n) {i : Nat} {x : Int} (h : r[i]? = some x) : ∀ k, (pwL n p k)[x.toNat]? = r[(i + k) % r.length]?
  | 0 => by
    have hi : i < r.length := (List.getElem?_eq_some_iff.mp h).1
    have b := hb x (List.mem_of_getElem? h)
    show (unitL n)[x.toNat]? = _
    rw [unitL_get (by omega), Nat.add_zero, Nat.mod_eq_of_lt hi, h]
    congr 1
    omega
  | k + 1 => by
    have ih := T.pw hp hb h k
    have hm : (i + k) % r.length < r.length := Nat.mod_lt _ T.ne
    rw [List.getElem?_eq_getElem hm] at ih
    have st := T.st _ _ (List.getElem?_eq_getElem hm)
    have hm2 : ((i + k) % r.length + 1) % r.length < r.length := Nat.mod_lt _ T.ne
    rw [List.getElem?_eq_getElem hm2] at st
    show (mulL (pwL n p k) p)[x.toNat]? = _
    rw [mulL_at ih st, ← List.getElem?_eq_getElem hm2]
    congr 1
    rw [Nat.add_mod, Nat.mod_mod, ← Nat.add_mod, Nat.add_assoc]
theorem nodup_row {R : List (List Int)} (h : R.flatten.Nodup) : ∀ r ∈ R, r.Nodup := by
  induction R with
  | nil => intro r hr; cases hr
  | cons a R ih =>
    intro r hr
    rw [List.flatten_cons] at h
    have h2 := List.nodup_append.mp h
    rcases List.mem_cons.mp hr with z | z
    · rw [z]; exact h2.1
    · exact ih h2.2.1 r z
theorem Cyc.pw {n : Nat} {p : List Int} {R : List (List Int)} (hp : IsPm n p) (C : Cyc n p R) {r : List Int} (hr : r ∈ R) {i : Nat} {x : Int} (h : r[i]? = some x) (k : Nat) : (pwL n p k)[x.toNat]? = r[(i + k) % r.length]? :=
  (C.tn r hr).pw hp (fun x hx => C.bd x (List.mem_flatten.mpr ⟨r, hr, hx⟩)) h k
theorem Cyc.dvd {n N : Nat} {p : List Int} {R : List (List Int)} (hp : IsPm n p) (C : Cyc n p R) {r : List Int} (hr : r ∈ R) (hN : pwL n p N = unitL n) : r.length ∣ N := by
  have T := C.tn r hr
  have h0 : r[0]? = some (r[0]'T.ne) := List.getElem?_eq_getElem T.ne
  have b := C.bd _ (List.mem_flatten.mpr ⟨r, hr, List.mem_of_getElem? h0⟩)
  have e := C.pw hp hr h0 N
  have hm : (0 + N) % r.length < r.length := Nat.mod_lt _ T.ne
  rw [hN, unitL_get (by omega), List.getElem?_eq_getElem hm] at e
  have e2 := Option.some.inj e
  have e3 : r[0]'T.ne = r[(0 + N) % r.length] := by rw [← e2]; omega
  have e4 := (List.getElem_inj (nodup_row C.nd r hr)).mp e3
  rw [Nat.zero_add] at e4
  exact Nat.dvd_of_mod_eq_zero e4.symm
theorem Cyc.pwMod {n N : Nat} {p : List Int} {R : List (List Int)} (hp : IsPm n p) (C : Cyc n p R) {r : List Int} (hr : r ∈ R) {i : Nat} {x : Int} (h : r[i]? = some x) (hN : pwL n p N = unitL n) (h1 : 1 ≤ N) (e : Int) :
    (pwL n p (e % (N : Int)).toNat)[x.toNat]? = r[(((i : Int) + e) % (r.length : Int)).toNat]? := by
  rw [C.pw hp hr h]
  congr 1
  obtain ⟨t, et⟩ := C.dvd hp hr hN
  have l0 := (C.tn r hr).ne
  have n0 : 0 ≤ e % (N : Int) := Int.emod_nonneg _ (by omega)
  have a0 : 0 ≤ ((i : Int) + e) % (r.length : Int) := Int.emod_nonneg _ (by omega)
  have k : (((i + (e % (N : Int)).toNat) % r.length : Nat) : Int) = ((i : Int) + e) % (r.length : Int) := by
    rw [Int.natCast_emod, Int.natCast_add, Int.toNat_of_nonneg n0, Int.add_emod, Int.emod_emod_of_dvd e (by rw [et]; exact ⟨t, by rw [Int.natCast_mul]⟩), ← Int.add_emod]
  omega
/-- numbers that sum to at most b have a common multiple of at most 60 -/
def chk : Nat → Nat → Nat → Bool
  | 0, _, acc => decide (1 ≤ acc) && decide (acc ≤ 60)
  | f + 1, b, acc => (decide (1 ≤ acc) && decide (acc ≤ 60)) && (List.range b).all fun a => chk f (b - (a + 1)) (Nat.lcm acc (a + 1))
theorem chk_acc : ∀ f b acc, chk f b acc = true → 1 ≤ acc ∧ acc ≤ 60
  | 0, b, acc, h => by
    have h : (decide (1 ≤ acc) && decide (acc ≤ 60)) = true := h
    rw [Bool.and_eq_true, decide_eq_true_iff, decide_eq_true_iff] at h
    exact h
  | f + 1, b, acc, h => by
    have h : ((decide (1 ≤ acc) && decide (acc ≤ 60)) && (List.range b).all fun a => chk f (b - (a + 1)) (Nat.lcm acc (a + 1))) = true := h
    rw [Bool.and_eq_true, Bool.and_eq_true, decide_eq_true_iff, decide_eq_true_iff] at h
    exact h.1
theorem chk_all : ∀ (ls : List Nat) (f b acc : Nat), chk f b acc = true → (∀ l ∈ ls, 1 ≤ l) → ls.sum ≤ b → ls.length ≤ f → ∃ N, 1 ≤ N ∧ N ≤ 60 ∧ acc ∣ N ∧ ∀ l ∈ ls, l ∣ N
  | [], f, b, acc, h, _, _, _ => ⟨acc, (chk_acc f b acc h).1, (chk_acc f b acc h).2, Nat.dvd_refl _, fun _ z => by cases z⟩
  | l :: ls, 0, b, acc, h, _, _, hf => absurd hf (by rw [List.length_cons]; omega)
  | l :: ls, f + 1, b, acc, h, h1, hs, hf => by
    have h : ((decide (1 ≤ acc) && decide (acc ≤ 60)) && (List.range b).all fun a => chk f (b - (a + 1)) (Nat.lcm acc (a + 1))) = true := h
    rw [Bool.and_eq_true] at h
    have l1 := h1 l (List.mem_cons_self ..)
    rw [List.sum_cons] at hs
    have hl := List.all_eq_true.mp h.2 (l - 1) (List.mem_range.mpr (by omega))
    have el : l - 1 + 1 = l := by omega
    rw [el] at hl
    obtain ⟨N, a, c, d, g⟩ := chk_all ls f (b - l) _ hl (fun x hx => h1 x (List.mem_cons_of_mem _ hx)) (by omega) (by rw [List.length_cons] at hf; omega)
    refine ⟨N, a, c, Nat.dvd_trans (Nat.dvd_lcm_left _ _) d, fun x hx => ?_⟩
    rcases List.mem_cons.mp hx with z | z
    · rw [z]; exact Nat.dvd_trans (Nat.dvd_lcm_right _ _) d
    · exact g x z
theorem chk12 : chk 12 12 1 = true := by decide +kernel
theorem Cyc.period {n : Nat} {p : List Int} {R : List (List Int)} (hp : IsPm n p) (C : Cyc n p R) (all : ∀ x : Int, 0 ≤ x → x < n → x ∈ R.flatten) (hn : n ≤ 12) : ∃ N, 1 ≤ N ∧ N ≤ 60 ∧ pwL n p N = unitL n := by
  have hs : (R.map List.length).sum = R.flatten.length := List.length_flatten.symm
  have hl : R.flatten.length ≤ n := by
    have h := len_le_sub (ns := unitL n) C.nd fun x hx => by
      have b := C.bd x hx
      exact List.mem_map.mpr ⟨x.toNat, List.mem_range.mpr (by omega), by show ((x.toNat : Nat) : Int) = x; omega⟩
    unfold unitL at h
    rw [List.length_map, List.length_range] at h
    exact h
  have h1 : ∀ l ∈ R.map List.length, 1 ≤ l := fun l hl => by
    obtain ⟨r, hr, rfl⟩ := List.mem_map.mp hl
    exact (C.tn r hr).ne
  have hlen : ∀ ls : List Nat, (∀ l ∈ ls, 1 ≤ l) → ls.length ≤ ls.sum := fun ls => by
    induction ls with
    | nil => intro _; exact Nat.le_refl _
    | cons a ls ih =>
      intro h
      have := ih fun l z => h l (List.mem_cons_of_mem _ z)
      have := h a (List.mem_cons_self ..)
      rw [List.length_cons, List.sum_cons]
      omega
  obtain ⟨N, a, b, _, d⟩ := chk_all (R.map List.length) 12 12 1 chk12 h1 (by omega) (by have := hlen _ h1; omega)
  refine ⟨N, a, b, pm_ext (n := n) (pwL_pm hp N).len (unit_pm n).len fun j hj => ?_⟩
  obtain ⟨r, hr, hx⟩ := List.mem_flatten.mp (all (j : Int) (by omega) (by omega))
  obtain ⟨i, hi, e⟩ := List.getElem_of_mem hx
  have h : r[i]? = some (j : Int) := by rw [List.getElem?_eq_getElem hi, e]
  have k := C.pw hp hr h N
  obtain ⟨t, et⟩ := d _ (List.mem_map_of_mem (f := List.length) hr)
  rw [et, Nat.add_mul_mod_self_left, Nat.mod_eq_of_lt hi, h, show ((j : Nat) : Int).toNat = j by omega] at k
  rw [et, k]
  exact (unitL_get hj).symm
theorem Cyc.same {n N M : Nat} {p : List Int} {R : List (List Int)} (hp : IsPm n p) (C : Cyc n p R) (all : ∀ x : Int, 0 ≤ x → x < n → x ∈ R.flatten) (hN : pwL n p N = unitL n) (h1 : 1 ≤ N) (hM : pwL n p M = unitL n) (h2 : 1 ≤ M) (e : Int) :
    pwL n p (e % (N : Int)).toNat = pwL n p (e % (M : Int)).toNat := by
  refine pm_ext (n := n) (pwL_pm hp _).len (pwL_pm hp _).len fun j hj => ?_
  obtain ⟨r, hr, hx⟩ := List.mem_flatten.mp (all (j : Int) (by omega) (by omega))
  obtain ⟨i, hi, e2⟩ := List.getElem_of_mem hx
  have h : r[i]? = some (j : Int) := by rw [List.getElem?_eq_getElem hi, e2]
  have a := C.pwMod hp hr h hN h1 e
  have b := C.pwMod hp hr h hM h2 e
  rw [show ((j : Nat) : Int).toNat = j by omega] at a b
  rw [a, b]
theorem pw_sum {n N : Nat} {p : List Int} (hp : IsPm n p) (hN : pwL n p N = unitL n) (h1 : 1 ≤ N) (a b : Int) : mulL (pwL n p (a % (N : Int)).toNat) (pwL n p (b % (N : Int)).toNat) = pwL n p ((a + b) % (N : Int)).toNat := by
  rw [pwL_add hp, ← pwL_mod hp hN]
  congr 1
  have a0 : 0 ≤ a % (N : Int) := Int.emod_nonneg _ (by omega)
  have b0 : 0 ≤ b % (N : Int) := Int.emod_nonneg _ (by omega)
  have c0 : 0 ≤ (a + b) % (N : Int) := Int.emod_nonneg _ (by omega)
  have k : ((((a % (N : Int)).toNat + (b % (N : Int)).toNat) % N : Nat) : Int) = (a + b) % (N : Int) := by
    rw [Int.natCast_emod, Int.natCast_add, Int.toNat_of_nonneg a0, Int.toNat_of_nonneg b0, ← Int.add_emod]
  omega
/-! ### how the cycles are found -/
/-- L is walked from `first`, the next point is pt -/
structure Chain (p : List Int) (first : Int) (L : List Int) (pt : Int) : Prop where
  hd : (L ++ [pt])[0]? = some first
  st : ∀ i x, L[i]? = some x → p[x.toNat]? = (L ++ [pt])[i + 1]?
theorem Chain.start {p : List Int} {first : Int} : Chain p first [] first := ⟨rfl, fun i x h => by cases i <;> cases h⟩
theorem Chain.step {p : List Int} {first pt nx : Int} {L : List Int} (C : Chain p first L pt) (h : p[pt.toNat]? = some nx) : Chain p first (L ++ [pt]) nx := by
  refine ⟨?_, fun i x hx => ?_⟩
  · have hd := C.hd
    rw [List.getElem?_append_left (by rw [List.length_append]; exact Nat.succ_pos _)]
    exact hd
  · by_cases hi : i < L.length
    · rw [List.getElem?_append_left hi] at hx
      rw [C.st i x hx, List.getElem?_append_left (l₁ := L ++ [pt]) (by rw [List.length_append]; show i + 1 < L.length + 1; omega)]
    · have hl := (List.getElem?_eq_some_iff.mp hx).1
      have hl : i < L.length + 1 := by rw [List.length_append] at hl; exact hl
      have ei : i = L.length := by omega
      subst ei
      rw [List.getElem?_append_right (Nat.le_refl _), Nat.sub_self] at hx
      cases hx
      rw [h, List.getElem?_append_right (by rw [List.length_append]; exact Nat.le_refl _), List.length_append]
      show _ = [nx][L.length + 1 - (L.length + 1)]?
      rw [Nat.sub_self]
      rfl
theorem Turn.pre {n : Nat} {p r : List Int} (hp : IsPm n p) (T : Turn p r) (hb : ∀ x ∈ r, 0 ≤ x ∧ x < n) {x y : Int} (hx : 0 ≤ x) (e : p[x.toNat]? = some y) (hy : y ∈ r) : x ∈ r := by
  obtain ⟨i, hi, ei⟩ := List.getElem_of_mem hy
  -- the place before i
  obtain ⟨j, hj, ej⟩ : ∃ j, j < r.length ∧ (j + 1) % r.length = i := by
    by_cases z : i = 0
    · exact ⟨r.length - 1, by have := T.ne; omega, by rw [z, show r.length - 1 + 1 = r.length by have := T.ne; omega, Nat.mod_self]⟩
    · exact ⟨i - 1, by omega, by rw [show i - 1 + 1 = i by omega, Nat.mod_eq_of_lt hi]⟩
  have st := T.st j r[j] (List.getElem?_eq_getElem hj)
  rw [ej, List.getElem?_eq_getElem hi, ei] at st
  have k := hp.inj st e
  have b := hb _ (List.getElem_mem hj)
  have : r[j] = x := by omega
  exact this ▸ List.getElem_mem hj
theorem Chain.close {n : Nat} {p : List Int} {R : List (List Int)} {first pt : Int} {L : List Int} (hp : IsPm n p) (C : Cyc n p R) (c : Chain p first L pt) (nd : (R.flatten ++ L).Nodup) (hb : ∀ x ∈ L, 0 ≤ x ∧ x < n) (hf : first ∉ R.flatten) (hm : pt ∈ R.flatten ++ L) : Turn p L := by
  have L0 : L ≠ [] := fun z => by
    subst z
    have e := Option.some.inj c.hd
    rw [List.append_nil] at hm
    exact hf (e ▸ hm)
  have hl : 0 < L.length := List.length_pos_iff.mpr L0
  have last := c.st (L.length - 1) L[L.length - 1] (List.getElem?_eq_getElem (by omega))
  rw [show L.length - 1 + 1 = L.length by omega, List.getElem?_append_right (Nat.le_refl _), Nat.sub_self] at last
  have last : p[(L[L.length - 1]).toNat]? = some pt := last
  have bl := hb _ (List.getElem_mem (h := (show L.length - 1 < L.length by omega)))
  have nd2 := List.nodup_append.mp nd
  have e : pt = first := by
    rcases List.mem_append.mp hm with z | z
    · obtain ⟨r, hr, hx⟩ := List.mem_flatten.mp z
      have q := (C.tn r hr).pre hp (fun x hx => C.bd x (List.mem_flatten.mpr ⟨r, hr, hx⟩)) bl.1 last hx
      exact absurd rfl (nd2.2.2 _ (List.mem_flatten.mpr ⟨r, hr, q⟩) _ (List.getElem_mem (h := (show L.length - 1 < L.length by omega))))
    · obtain ⟨j, hj, ej⟩ := List.getElem_of_mem z
      by_cases j0 : j = 0
      · subst j0
        have hd := c.hd
        rw [List.getElem?_append_left hl, List.getElem?_eq_getElem hl, ej] at hd
        exact Option.some.inj hd
      · have st := c.st (j - 1) L[j - 1] (List.getElem?_eq_getElem (by omega))
        rw [show j - 1 + 1 = j by omega, List.getElem?_append_left hj, List.getElem?_eq_getElem hj, ej] at st
        have k := hp.inj st last
        have b2 := hb _ (List.getElem_mem (h := (show j - 1 < L.length by omega)))
        have k2 : L[j - 1] = L[L.length - 1] := by omega
        have := (List.getElem_inj nd2.2.1).mp k2
        omega
  refine ⟨hl, fun i x hx => ?_⟩
  rw [c.st i x hx]
  have hi := (List.getElem?_eq_some_iff.mp hx).1
  by_cases z : i + 1 < L.length
  · rw [List.getElem?_append_left z, Nat.mod_eq_of_lt z]
  · rw [show i + 1 = L.length by omega, Nat.mod_self, List.getElem?_append_right (Nat.le_refl _), Nat.sub_self, e]
    have hd := c.hd
    rw [List.getElem?_append_left hl] at hd
    rw [hd]
    rfl
theorem Cyc.more {n : Nat} {p : List Int} {R : List (List Int)} {L : List Int} (C : Cyc n p R) (T : Turn p L) (nd : (R.flatten ++ L).Nodup) (hb : ∀ x ∈ L, 0 ≤ x ∧ x < n) : Cyc n p (R ++ [L]) := by
  have e : (R ++ [L]).flatten = R.flatten ++ L := by rw [List.flatten_append, List.flatten_cons, List.flatten_nil, List.append_nil]
  refine ⟨fun r hr => ?_, by rw [e]; exact nd, fun x hx => ?_⟩
  · rcases List.mem_append.mp hr with z | z
    · exact C.tn r z
    · rw [List.mem_singleton.mp z]; exact T
  · rw [e] at hx
    rcases List.mem_append.mp hx with z | z
    · exact C.bd x z
    · exact hb x z
theorem Cyc.nil {n : Nat} {p : List Int} : Cyc n p [] := ⟨(fun _ h => by cases h), List.nodup_nil, (fun _ h => by cases h)⟩
end KL
/-! powers and cycles: a power of a great base; promises -/
namespace KL
open PySem PySem.Spec PyProof.Rows L2 GA GxR
def CPowB (i j : Int) : Prop := 0 ≤ j ∧ (Builtin.Int.intBits i : Int) * j ≤ 2 ^ 27
theorem op_powB {X : Cx} : OpR X (binaryOp .Pow) (rI CPowB fun i j => .int (i ^ j.toNat)) := opI fun _ _ _ _ _ _ _ hc q => pow_int hc.1 hc.2 q
theorem dpT_ints {K : PySem.W.Frag} {H : Hp} {a : Addr} {ns : List Int} (h : H a = some (.tup (ns.map V.int))) : Dp K H (.ref a) (.tuple (ns.map PyData.int)) := .tup (.inl (.inl h)) (dp_all ns)
theorem shapedT_ints (ns : List Int) : SeqAt.shaped (.tuple (ns.map PyData.int)) = true := PySem.W.ke_shaped_ints ns
theorem eqvT_ints (ns ms : List Int) : PyData.eqv (.tuple (ns.map PyData.int)) (.tuple (ms.map PyData.int)) = decide (ns = ms) := by
  rw [← PySem.W.ked_eqvAll, PyData.eqv]
/-- the rows as tuples -/
structure RowsAt (H : Hp) (As : List Addr) (R : List (List Int)) : Prop where
  len : As.length = R.length
  at_ : ∀ (i : Nat) (r : List Int), R[i]? = some r → ∃ a : Addr, As[i]? = some a ∧ H a = some (.tup (r.map V.int))
theorem RowsAt.ex {H H' : Hp} {As : List Addr} {R : List (List Int)} (x : Ex H H') (h : RowsAt H As R) : RowsAt H' As R :=
  ⟨h.len, fun i r e => let ⟨a, e1, e2⟩ := h.at_ i r e; ⟨a, e1, x.st _ _ e2 trivial⟩⟩
theorem RowsAt.upd {H : Hp} {As : List Addr} {R : List (List Int)} {p : Addr} {o u : HO} (h : RowsAt H As R) (e : H p = some u) (n : ∀ xs, u ≠ .tup xs) : RowsAt (upd H p o) As R :=
  ⟨h.len, fun i r k => let ⟨a, e1, e2⟩ := h.at_ i r k; ⟨a, e1, by
    rw [upd_ne (fun z => by rw [z, e] at e2; exact n _ (Option.some.inj e2))]
    exact e2⟩⟩
theorem RowsAt.new {H : Hp} {As : List Addr} {R : List (List Int)} {p : Addr} {o : HO} (h : RowsAt H As R) (e : H p = none) : RowsAt (L2.upd H p o) As R := h.ex (Ex.new e)
theorem RowsAt.nil {H : Hp} : RowsAt H [] [] := ⟨rfl, fun i r h => by cases i <;> cases h⟩
theorem RowsAt.more {H : Hp} {As : List Addr} {R : List (List Int)} {a : Addr} {L : List Int} (h : RowsAt H As R) (e : H a = some (.tup (L.map V.int))) : RowsAt H (As ++ [a]) (R ++ [L]) := by
  refine ⟨by rw [List.length_append, List.length_append, h.len]; rfl, fun i r k => ?_⟩
  by_cases hi : i < R.length
  · rw [List.getElem?_append_left hi] at k
    obtain ⟨b, e1, e2⟩ := h.at_ i r k
    exact ⟨b, by rw [List.getElem?_append_left (by rw [h.len]; exact hi)]; exact e1, e2⟩
  · have hl := (List.getElem?_eq_some_iff.mp k).1
    rw [List.length_append] at hl
    have hl : i < R.length + 1 := hl
    have ei : i = R.length := by omega
    subst ei
    rw [List.getElem?_append_right (Nat.le_refl _), Nat.sub_self] at k
    cases k
    exact ⟨a, by rw [List.getElem?_append_right (by rw [h.len]; exact Nat.le_refl _), h.len, Nat.sub_self]; rfl, e⟩
theorem refs_norow {As : List Addr} : ¬ RowO (.lst (As.map V.ref)) := fun ⟨s, i, j, k, e⟩ => by
  have e1 : As.map V.ref = [.ref s, .int i, .int j, .int k] := HO.lst.inj e
  match As, e1 with
  | _ :: _ :: _, e1 => cases (List.cons.inj (List.cons.inj e1).2).1
theorem kp {H : Hp} {a p : Addr} {o u v : HO} (h : H a = some o) (e : H p = some u) (n : o ≠ u) : upd H p v a = some o := by
  rw [upd_ne (fun z => by rw [z, e] at h; exact n (Option.some.inj h).symm)]
  exact h
/-- the cycles, each from its least point, in the order of these -/
structure Full (n : Nat) (p : List Int) (R : List (List Int)) : Prop where
  cyc : Cyc n p R
  all : ∀ x : Int, 0 ≤ x → x < n → x ∈ R.flatten
  mn : ∀ r ∈ R, ∀ x ∈ r, r.getD 0 0 ≤ x
  so : (R.map fun r => r.getD 0 0).Pairwise (· < ·)
def spFullCycles : Sp := fun vs H Q _ => ∃ (a : Addr) (n : Nat) (p : List Int), vs = [.ref a] ∧ Pm H a n p ∧ n ≤ 12 ∧ ∀ c As R H', Ex H H' → H' c = some (.lst (As.map V.ref)) → RowsAt H' As R → Full n p R → Q (.ref c) H'
def spPower (K : PySem.W.Frag) : Sp := fun vs H Q _ => ∃ (a : Addr) (n : Nat) (p : List Int) (e : Int), vs = [.ref a, .int e] ∧ Pm H a n p ∧ 1 ≤ n ∧ n ≤ 12 ∧ TabG H (PP K) ∧
  ∀ c H' q, Ex H H' → (∃ N, 1 ≤ N ∧ N ≤ 60 ∧ pwL n p N = unitL n) → (∀ N : Nat, 1 ≤ N → pwL n p N = unitL n → q = pwL n p (e % (N : Int)).toNat) → Pm H' c n q → Q (.ref c) H'
def spPick (K : PySem.W.Frag) : Sp := fun vs H Q _ => ∃ (r s t : Addr) (ns ts : List Int), vs = [.ref r, .ref t] ∧ RowAt H r s ∧ SqL K H s (ns.map V.int) ∧ H t = some (.lst (ts.map V.int)) ∧ 1 ≤ ts.length ∧ ts.length ≤ 1000 ∧ ∀ (i : Int) H', Ex H H' → i ∈ ts → Q (.int i) H'
def spExponent (K : PySem.W.Frag) : Sp := fun vs H Q _ => ∃ (r s : Addr) (ns : List Int) (k : Nat), vs = [.ref r, .ref s, .int k] ∧ RowAt H r s ∧ SqL K H s (ns.map V.int) ∧ ∀ (i : Int) H', Ex H H' → Q (.int i) H'
def spLawMul : Sp := fun vs H Q _ => ∃ (a b : Addr) (n : Nat) (p q : List Int), vs = [.ref a, .ref b] ∧ Pm H a n p ∧ Pm H b n q ∧ n ≤ 1000 ∧ ∀ c H', Ex H H' → Pm H' c n (mulL p q) → Q (.ref c) H'
def spSlow : Sp := fun vs H Q _ => ∃ (a : Addr) (n k : Nat) (p : List Int), vs = [.ref a, .int k] ∧ Pm H a n p ∧ n ≤ 1000 ∧ k ≤ 1000 ∧ ∀ c H', Ex H H' → Pm H' c n (pwL n p k) → Q (.ref c) H'
def spOrder : Sp := fun vs H Q _ => ∃ (a : Addr) (n : Nat) (p : List Int), vs = [.ref a] ∧ Pm H a n p ∧ n ≤ 1000 ∧ ∀ (o : Nat) H', Ex H H' → 1 ≤ o → o ≤ 61 → (pwL n p o = unitL n ∨ ∀ N, 1 ≤ N → N ≤ 60 → pwL n p N ≠ unitL n) → Q (.int o) H'
/-- where full_cycles stands: the rows so far, what was seen -/
structure FC (w : World) (H H1 : Hp) (l sA : Addr) (n : Nat) (p : List Int) (As : List Addr) (R : List (List Int)) (S : List Int) : Prop where
  ex : Ex H H1
  hl : H1 l = some (.lst (As.map V.ref))
  rows : RowsAt H1 As R
  seen : H1 sA = some (SetO w sA (fun k => decide (k ∈ S)) S.length)
  cyc : Cyc n p R
  nd : S.Nodup
  bd : ∀ x ∈ S, 0 ≤ x ∧ x < n
  mn : ∀ r ∈ R, ∀ x ∈ r, r.getD 0 0 ≤ x
  so : (R.map fun r => r.getD 0 0).Pairwise (· < ·)
theorem bd_len {S : List Int} {n : Nat} (nd : S.Nodup) (bd : ∀ x ∈ S, 0 ≤ x ∧ x < (n : Int)) : S.length ≤ n := by
  have h := len_le_sub (ns := unitL n) nd fun x hx => by
    have b := bd x hx
    exact List.mem_map.mpr ⟨x.toNat, List.mem_range.mpr (by omega), by show ((x.toNat : Nat) : Int) = x; omega⟩
  unfold unitL at h
  rw [List.length_map, List.length_range] at h
  exact h
theorem FC.new {w : World} {H H1 : Hp} {l sA : Addr} {n : Nat} {p : List Int} {As : List Addr} {R : List (List Int)} {S : List Int} {q : Addr} {o : HO} (F : FC w H H1 l sA n p As R S) (e : H1 q = none) : FC w H (upd H1 q o) l sA n p As R S :=
  ⟨F.ex.trans (Ex.new e), by rw [upd_ne (ne_of_none F.hl e)]; exact F.hl, F.rows.new e, by rw [upd_ne (ne_of_none F.seen e)]; exact F.seen, F.cyc, F.nd, F.bd, F.mn, F.so⟩
theorem nd_more {S : List Int} {x : Int} (nd : S.Nodup) (h : x ∉ S) : (S ++ [x]).Nodup := List.nodup_append.mpr ⟨nd, List.nodup_cons.mpr ⟨(fun z => by cases z), List.nodup_nil⟩, fun a ha b hb e => by
  rw [List.mem_singleton.mp hb] at e
  exact h (e ▸ ha)⟩
theorem bd_more {S : List Int} {x : Int} {n : Nat} (bd : ∀ x ∈ S, 0 ≤ x ∧ x < (n : Int)) (h0 : 0 ≤ x) (h1 : x < n) : ∀ y ∈ S ++ [x], 0 ≤ y ∧ y < (n : Int) := fun y hy => by
  rcases List.mem_append.mp hy with z | z
  · exact bd y z
  · rw [List.mem_singleton.mp z]; exact ⟨h0, h1⟩
theorem rows_le {p : List Int} : ∀ {R : List (List Int)}, (∀ r ∈ R, Turn p r) → R.length ≤ R.flatten.length
  | [], _ => Nat.le_refl _
  | r :: R, h => by
    have h1 := (h r (List.mem_cons_self ..)).ne
    have h2 := rows_le fun x hx => h x (List.mem_cons_of_mem _ hx)
    rw [List.flatten_cons, List.length_cons, List.length_append]
    omega
theorem setO_more {w : World} {a : Addr} {S : List Int} {k : Int} (hk : k ∉ S) : SetO w a (fun j => decide (j ∈ S) || decide (j = k)) (if decide (k ∈ S) = true then S.length else S.length + 1) = SetO w a (fun j => decide (j ∈ S ++ [k])) (S ++ [k]).length := by
  have e1 : (fun j => decide (j ∈ S) || decide (j = k)) = fun j => decide (j ∈ S ++ [k]) := by
    funext j
    rw [Bool.eq_iff_iff]
    simp
  rw [e1, if_neg (by rw [decide_eq_true_iff]; exact hk), List.length_append]
  rfl
end KL
/-! orders, signs, supports: rules and promises -/
namespace KL
open PySem PySem.Spec PyProof.Rows L2 GA GxR
def rLcm : List V → Hp → VK → Prop := fun vs H Q => ∃ a b : Nat, vs = [V.int a, V.int b] ∧ a < 2 ^ 64 ∧ b < 2 ^ 64 ∧ Q (.int ((Nat.lcm a b : Nat) : Int)) H
theorem cr_lcm {X : Cx} : CallR X (.builtin "math.lcm") rLcm := by
  intro pins s σ H vs us Q I r h
  obtain ⟨a, b, rfl, ha, hb, q⟩ := h
  obtain ⟨t, u, rfl⟩ := Vals.int2 r
  exact PySem.W.mc_lcm (by show a < 2 ^ 64; exact ha) (by show b < 2 ^ 64; exact hb) fun _ => ⟨.int _, H, I.tok _, ⟨_, rfl⟩, q⟩
def lensL (R : List (List Int)) : List Int := R.map fun r => (r.length : Int)
def spLens : Sp := fun vs H Q _ => ∃ (a : Addr) (n : Nat) (p : List Int), vs = [.ref a] ∧ Pm H a n p ∧ n ≤ 12 ∧ ∀ (c : Addr) (H' : Hp) (R : List (List Int)) (ns : List Int), Ex H H' → Full n p R → ns.Perm (lensL R) → ns.Pairwise (· ≤ ·) → H' c = some (.tup (ns.map V.int)) → Q (.ref c) H'
def spCycles (K : PySem.W.Frag) : Sp := fun vs H Q _ => ∃ (a : Addr) (n : Nat) (p : List Int), vs = [.ref a] ∧ Pm H a n p ∧ 1 ≤ n ∧ n ≤ 12 ∧ TabG H (PP K) ∧ ∀ (c : Addr) (H' : Hp) (R : List (List Int)) (As : List Addr), Ex H H' → Full n p R → RowsAt H' As (R.filter fun r => decide (1 < r.length)) → H' c = some (.tup (As.map V.ref)) → Q (.ref c) H'
def spCycleLengths (K : PySem.W.Frag) : Sp := fun vs H Q _ => ∃ (a : Addr) (n : Nat) (p : List Int), vs = [.ref a] ∧ Pm H a n p ∧ 1 ≤ n ∧ n ≤ 12 ∧ TabG H (PP K) ∧ ∀ (c : Addr) (H' : Hp) (R : List (List Int)) (ns : List Int), Ex H H' → Full n p R → ns.Perm (lensL R) → ns.Pairwise (· ≤ ·) → H' c = some (.tup (ns.map V.int)) → Q (.ref c) H'
def spPeriod : Sp := fun vs H Q _ => ∃ (a : Addr) (n : Nat) (p : List Int), vs = [.ref a] ∧ Pm H a n p ∧ n ≤ 12 ∧ ∀ (o : Nat) (H' : Hp) (R : List (List Int)), Ex H H' → Full n p R → 1 ≤ o → (∀ r ∈ R, r.length ∣ o) → (∀ m, (∀ r ∈ R, r.length ∣ m) → o ∣ m) → Q (.int o) H'
def spOrd (K : PySem.W.Frag) : Sp := fun vs H Q _ => ∃ (a : Addr) (n : Nat) (p : List Int), vs = [.ref a] ∧ Pm H a n p ∧ 1 ≤ n ∧ n ≤ 12 ∧ TabG H (PP K) ∧
  ∀ (o : Nat) (H' : Hp) (R : List (List Int)), Ex H H' → Full n p R → 1 ≤ o → (∀ r ∈ R, r.length ∣ o) → (∀ m, (∀ r ∈ R, r.length ∣ m) → o ∣ m) → Q (.int o) H'
def spSign (K : PySem.W.Frag) : Sp := fun vs H Q _ => ∃ (a : Addr) (n : Nat) (p : List Int), vs = [.ref a] ∧ Pm H a n p ∧ 1 ≤ n ∧ n ≤ 12 ∧ TabG H (PP K) ∧ ∀ (H' : Hp) (R : List (List Int)), Ex H H' → Full n p R → Q (.int (if (n - R.length) % 2 = 0 then 1 else -1)) H'
def suppI (p : List Int) (i : Nat) : List Int := ((List.range i).map Int.ofNat).filter fun i => decide (i ≠ p.getD i.toNat 0)
theorem suppI_succ {p : List Int} {i : Nat} : suppI p (i + 1) = suppI p i ++ if (i : Int) ≠ p.getD i 0 then [(i : Int)] else [] := by
  unfold suppI
  rw [List.range_succ, List.map_append, List.filter_append]
  congr 1
  show List.filter _ [Int.ofNat i] = _
  by_cases h : (i : Int) ≠ p.getD i 0
  · rw [if_pos h, List.filter_cons_of_pos (by rw [decide_eq_true_iff]; exact h), List.filter_nil]
    rfl
  · rw [if_neg h, List.filter_cons_of_neg (by rw [decide_eq_true_iff]; exact h), List.filter_nil]
theorem suppI_len {p : List Int} {i : Nat} : (suppI p i).length ≤ i := by
  unfold suppI
  refine Nat.le_trans (List.length_filter_le ..) ?_
  rw [List.length_map, List.length_range]
  exact Nat.le_refl _
theorem Chain.back {n : Nat} {p : List Int} {first pt : Int} {L : List Int} (hp : IsPm n p) (c : Chain p first L pt) (nd : L.Nodup) (hb : ∀ x ∈ L, 0 ≤ x ∧ x < n) (hm : pt ∈ L) : pt = first := by
  obtain ⟨j, hj, ej⟩ := List.getElem_of_mem hm
  have hl : 0 < L.length := by omega
  have last := c.st (L.length - 1) L[L.length - 1] (List.getElem?_eq_getElem (by omega))
  rw [show L.length - 1 + 1 = L.length by omega, List.getElem?_append_right (Nat.le_refl _), Nat.sub_self] at last
  have last : p[(L[L.length - 1]).toNat]? = some pt := last
  have bl := hb _ (List.getElem_mem (h := (show L.length - 1 < L.length by omega)))
  by_cases j0 : j = 0
  · subst j0
    have hd := c.hd
    rw [List.getElem?_append_left hl, List.getElem?_eq_getElem hl, ej] at hd
    exact Option.some.inj hd
  · have st := c.st (j - 1) L[j - 1] (List.getElem?_eq_getElem (by omega))
    rw [show j - 1 + 1 = j by omega, List.getElem?_append_left hj, List.getElem?_eq_getElem hj, ej] at st
    have k := hp.inj st last
    have b2 := hb _ (List.getElem_mem (h := (show j - 1 < L.length by omega)))
    have k2 : L[j - 1] = L[L.length - 1] := by omega
    have := (List.getElem_inj nd).mp k2
    omega
theorem Chain.turn {p : List Int} {first : Int} {L : List Int} (c : Chain p first L first) (hl : 0 < L.length) : Turn p L := by
  refine ⟨hl, fun i x hx => ?_⟩
  rw [c.st i x hx]
  have hi := (List.getElem?_eq_some_iff.mp hx).1
  by_cases z : i + 1 < L.length
  · rw [List.getElem?_append_left z, Nat.mod_eq_of_lt z]
  · rw [show i + 1 = L.length by omega, Nat.mod_self, List.getElem?_append_right (Nat.le_refl _), Nat.sub_self]
    have hd := c.hd
    rw [List.getElem?_append_left hl] at hd
    rw [hd]
    rfl
def spRing : Sp := fun vs H Q _ => ∃ (a : Addr) (n : Nat) (p : List Int) (x : Int), vs = [.ref a, .int x] ∧ Pm H a n p ∧ n ≤ 12 ∧ 0 ≤ x ∧ x < n ∧ ∀ (c : Addr) (H' : Hp) (r : List Int), Ex H H' → Turn p r → r.Nodup → r[0]? = some x → (∀ y ∈ r, 0 ≤ y ∧ y < n) → H' c = some (.tup (r.map V.int)) → Q (.ref c) H'
def spLeast : Sp := fun vs H Q _ => ∃ (a : Addr) (n : Nat) (p : List Int), vs = [.ref a] ∧ Pm H a n p ∧ n ≤ 1000 ∧ ∀ (o : Nat) (H' : Hp), Ex H H' → ((1 ≤ o ∧ o ≤ 60 ∧ pwL n p o = unitL n ∧ ∀ N, 1 ≤ N → N < o → pwL n p N ≠ unitL n) ∨ ∀ N, 1 ≤ N → N ≤ 60 → pwL n p N ≠ unitL n) → Q (.int o) H'
def spBlocks (K : PySem.W.Frag) : Sp := fun vs H Q _ => ∃ (r s : Addr) (ns : List Int), vs = [.ref r] ∧ RowAt H r s ∧ SqL K H s (ns.map V.int) ∧ ∀ (c : Addr) (H' : Hp) (n : Nat) (p : List Int), Ex H H' → 1 ≤ n → n ≤ 12 → Pm H' c n p → Q (.ref c) H'
def blockI (m s i : Nat) : List Int := (List.range i).map fun k => ((m + (k + 1) % s : Nat) : Int)
theorem block_pm {m s : Nat} {L : List Int} (h : IsPm m L) (hs : 1 ≤ s) : IsPm (m + s) (L ++ blockI m s s) := by
  refine ⟨by unfold blockI; rw [List.length_append, h.len, List.length_map, List.length_range], ?_, fun x hx => ?_⟩
  · rw [List.nodup_append]
    refine ⟨h.nd, ?_, fun a ha b hb e => ?_⟩
    · unfold blockI
      rw [List.nodup_iff_pairwise_ne, List.pairwise_iff_getElem]
      intro a b ha hb hab e
      rw [List.length_map, List.length_range] at ha hb
      rw [List.getElem_map, List.getElem_map, List.getElem_range, List.getElem_range] at e
      have e : (a + 1) % s = (b + 1) % s := by omega
      by_cases z : b + 1 = s
      · rw [z, Nat.mod_self, Nat.mod_eq_of_lt (by omega)] at e
        omega
      · rw [Nat.mod_eq_of_lt (show b + 1 < s by omega), Nat.mod_eq_of_lt (show a + 1 < s by omega)] at e
        omega
    · obtain ⟨k, _, rfl⟩ := List.mem_map.mp hb
      have := h.bd a ha
      omega
  · rcases List.mem_append.mp hx with z | z
    · have := h.bd x z
      omega
    · obtain ⟨k, _, rfl⟩ := List.mem_map.mp z
      have := Nat.mod_lt (k + 1) (show s > 0 by omega)
      omega
def spSupport (K : PySem.W.Frag) : Sp := fun vs H Q _ => ∃ (a : Addr) (n : Nat) (p : List Int), vs = [.ref a] ∧ Pm H a n p ∧ 1 ≤ n ∧ n ≤ 12 ∧ TabG H (PP K) ∧ ∀ c H', Ex H H' → H' c = some (.tup ((suppI p n).map V.int)) → Q (.ref c) H'
def spLawConj : Sp := fun vs H Q _ => ∃ (a b : Addr) (n : Nat) (p g : List Int), vs = [.ref a, .ref b] ∧ Pm H a n p ∧ Pm H b n g ∧ n ≤ 1000 ∧ ∀ (c : Addr) (H' : Hp) (q : List Int), Ex H H' → Pm H' c n q → q = mulL (mulL (invL g) p) g → Q (.ref c) H'
end KL
/-! signs: inversions against cycles -/
namespace KL
open PySem PySem.Spec PyProof.Rows L2 GA GxR
def cntLt (z : Int) (l : List Int) : Nat := l.countP fun y => decide (y < z)
def cntGt (z : Int) (l : List Int) : Nat := l.countP fun y => decide (z < y)
def invN : List Int → Nat
  | [] => 0
  | x :: l => cntLt x l + invN l
theorem invN_snoc (x : Int) : ∀ l : List Int, invN (l ++ [x]) = invN l + cntGt x l
  | [] => rfl
  | z :: l => by
    show cntLt z (l ++ [x]) + invN (l ++ [x]) = cntLt z l + invN l + cntGt x (z :: l)
    rw [invN_snoc x l]
    unfold cntLt cntGt
    rw [List.countP_append, List.countP_cons, List.countP_cons, List.countP_nil]
    omega
theorem inv_adj {x y : Int} (h : x ≠ y) (b : List Int) : ∀ a : List Int, (invN (a ++ x :: y :: b) + 1) % 2 = invN (a ++ y :: x :: b) % 2
  | [] => by
    show (cntLt x (y :: b) + (cntLt y b + invN b) + 1) % 2 = (cntLt y (x :: b) + (cntLt x b + invN b)) % 2
    unfold cntLt
    rw [List.countP_cons, List.countP_cons]
    by_cases z : x < y
    · rw [if_neg (by rw [decide_eq_true_iff]; omega), if_pos (by rw [decide_eq_true_iff]; omega)]
      omega
    · rw [if_pos (by rw [decide_eq_true_iff]; omega), if_neg (by rw [decide_eq_true_iff]; omega)]
      omega
  | c :: a => by
    have ih := inv_adj h b a
    have e : cntLt c (a ++ x :: y :: b) = cntLt c (a ++ y :: x :: b) := by
      unfold cntLt
      simp only [List.countP_append, List.countP_cons]
      omega
    show (cntLt c (a ++ x :: y :: b) + invN (a ++ x :: y :: b) + 1) % 2 = (cntLt c (a ++ y :: x :: b) + invN (a ++ y :: x :: b)) % 2
    omega
theorem inv_far {x y : Int} (h : x ≠ y) (b : List Int) : ∀ m a : List Int, (∀ z ∈ m, x ≠ z ∧ y ≠ z) → (invN (a ++ x :: (m ++ y :: b)) + 1) % 2 = invN (a ++ y :: (m ++ x :: b)) % 2
  | [], a, _ => inv_adj h b a
  | z :: m, a, hz => by
    have k := hz z (List.mem_cons_self ..)
    have e1 := inv_adj k.1 (m ++ y :: b) a
    have e2 := inv_far h b m (a ++ [z]) fun w hw => hz w (List.mem_cons_of_mem _ hw)
    have e3 := inv_adj (Ne.symm k.2) (m ++ x :: b) a
    have a1 : ∀ l : List Int, a ++ [z] ++ l = a ++ z :: l := fun l => by rw [List.append_assoc]; rfl
    rw [a1, a1] at e2
    show (invN (a ++ x :: z :: (m ++ y :: b)) + 1) % 2 = invN (a ++ y :: z :: (m ++ x :: b)) % 2
    omega
theorem inv_swap {l : List Int} {i j : Nat} {x y : Int} (nd : l.Nodup) (hij : i < j) (hi : l[i]? = some x) (hj : l[j]? = some y) : (invN l + 1) % 2 = invN ((l.set i y).set j x) % 2 := by
  obtain ⟨li, ei⟩ := List.getElem?_eq_some_iff.mp hi
  obtain ⟨lj, ej⟩ := List.getElem?_eq_some_iff.mp hj
  have d1 : l = l.take i ++ x :: l.drop (i + 1) := by rw [← ei, ← List.drop_eq_getElem_cons li, List.take_append_drop]
  have h2 : (l.drop (i + 1))[j - i - 1]? = some y := by rw [List.getElem?_drop, ← hj]; congr 1; omega
  obtain ⟨l2, e2⟩ := List.getElem?_eq_some_iff.mp h2
  generalize hA : l.take i = A at d1
  generalize hD : l.drop (i + 1) = D at d1 h2 l2 e2
  have d2 : D = D.take (j - i - 1) ++ y :: D.drop (j - i - 1 + 1) := by rw [← e2, ← List.drop_eq_getElem_cons l2, List.take_append_drop]
  generalize hM : D.take (j - i - 1) = M at d2
  generalize D.drop (j - i - 1 + 1) = B at d2
  have lA : A.length = i := by rw [← hA, List.length_take]; omega
  have lM : M.length = j - i - 1 := by rw [← hM, List.length_take]; omega
  rw [d2] at d1
  subst d1
  have nd1 := List.nodup_append.mp nd
  have nd2 := List.nodup_cons.mp nd1.2.1
  have nd3 := List.nodup_append.mp nd2.2
  have xy : x ≠ y := fun e => nd2.1 (List.mem_append_right _ (by rw [e]; exact List.mem_cons_self ..))
  have es : ((A ++ x :: (M ++ y :: B)).set i y).set j x = A ++ y :: (M ++ x :: B) := by
    rw [List.set_append_right i y (by omega), lA, Nat.sub_self, List.set_cons_zero, List.set_append_right j x (by omega), lA, show j - i = (j - i - 1) + 1 by omega, List.set_cons_succ, List.set_append_right _ x (by omega), lM, Nat.sub_self, List.set_cons_zero]
  rw [es]
  exact inv_far xy B M A fun z hz => ⟨fun e => nd2.1 (List.mem_append_left _ (by rw [e]; exact hz)), fun e => nd3.2.2 z hz y (List.mem_cons_self ..) e.symm⟩
theorem inv_swap2 {l : List Int} {i j : Nat} {x y : Int} (nd : l.Nodup) (hij : i ≠ j) (hi : l[i]? = some x) (hj : l[j]? = some y) : (invN l + 1) % 2 = invN ((l.set i y).set j x) % 2 := by
  by_cases z : i < j
  · exact inv_swap nd z hi hj
  · have := inv_swap nd (show j < i by omega) hj hi
    rwa [List.set_comm _ _ hij.symm] at this
theorem inv_unit : ∀ n : Nat, invN (unitL n) = 0
  | 0 => rfl
  | n + 1 => by
    have e : unitL (n + 1) = unitL n ++ [(n : Int)] := by unfold unitL; rw [List.range_succ, List.map_append]; rfl
    rw [e, invN_snoc, inv_unit n]
    unfold cntGt
    rw [List.countP_eq_zero.mpr]
    intro x hx
    have := (unit_pm n).bd x hx
    rw [decide_eq_true_iff]
    omega
theorem parity {n : Nat} : ∀ (k : Nat) (p : List Int) (R : List (List Int)), IsPm n p → Cyc n p R → (∀ x : Int, 0 ≤ x → x < n → x ∈ R.flatten) → n - R.length = k → invN p % 2 = k % 2
  | k, p, R, hp, C, all, hk => by
    by_cases h1 : ∀ r ∈ R, r.length = 1
    · have ep : p = unitL n := by
        refine pm_ext (n := n) hp.len (unit_pm n).len fun j hj => ?_
        obtain ⟨r, hr, hx⟩ := List.mem_flatten.mp (all (j : Int) (by omega) (by omega))
        obtain ⟨i, hi, e⟩ := List.getElem_of_mem hx
        have l1 := h1 r hr
        have i0 : i = 0 := by omega
        subst i0
        have h0 : r[0]? = some (j : Int) := by rw [List.getElem?_eq_getElem hi, e]
        have st := (C.tn r hr).st 0 _ h0
        rw [l1, show (0 + 1) % 1 = 0 from rfl, h0, show ((j : Nat) : Int).toNat = j by omega] at st
        rw [st]
        exact (unitL_get hj).symm
      have el : R.length = R.flatten.length := by
        clear hk
        have : ∀ R : List (List Int), (∀ r ∈ R, r.length = 1) → R.length = R.flatten.length := fun R => by
          induction R with
          | nil => intro _; rfl
          | cons r R ih =>
            intro h
            rw [List.length_cons, List.flatten_cons, List.length_append, ← ih fun r hr => h r (List.mem_cons_of_mem _ hr), h r (List.mem_cons_self ..)]
            omega
        exact this R h1
      have en : n ≤ R.flatten.length := by
        have h := len_le_sub (ks := unitL n) (ns := R.flatten) (unit_pm n).nd fun x hx => all x ((unit_pm n).bd x hx).1 ((unit_pm n).bd x hx).2
        have hl : (unitL n).length = n := (unit_pm n).len
        rwa [hl] at h
      rw [ep, inv_unit]
      omega
    · obtain ⟨r, hr, hl⟩ : ∃ r ∈ R, r.length ≠ 1 := by
        apply Classical.byContradiction
        intro z
        exact h1 fun r hr => Classical.byContradiction fun q => z ⟨r, hr, q⟩
      have T := C.tn r hr
      have l0 := T.ne
      obtain ⟨R1, R2, eR⟩ := List.append_of_mem hr
      -- r = s ++ [a, b]
      obtain ⟨s, a, b, er⟩ : ∃ s a b, r = s ++ [a, b] := by
        have d1 : r = r.take (r.length - 2) ++ r.drop (r.length - 2) := (List.take_append_drop ..).symm
        have l2 : (r.drop (r.length - 2)).length = 2 := by rw [List.length_drop]; omega
        match hd : r.drop (r.length - 2), l2 with
        | [a, b], _ => exact ⟨_, a, b, by rw [← hd]; exact d1⟩
      subst er
      have ls : (s ++ [a, b]).length = s.length + 2 := by rw [List.length_append]; rfl
      have ga : (s ++ [a, b])[s.length]? = some a := by rw [List.getElem?_append_right (Nat.le_refl _), Nat.sub_self]; rfl
      have gb : (s ++ [a, b])[s.length + 1]? = some b := by rw [List.getElem?_append_right (by omega), show s.length + 1 - s.length = 1 by omega]; rfl
      obtain ⟨f, gf⟩ : ∃ f, (s ++ [a, b])[0]? = some f := ⟨_, List.getElem?_eq_getElem (by omega)⟩
      have pa : p[a.toNat]? = some b := by
        rw [T.st _ _ ga, ls, Nat.mod_eq_of_lt (by omega), gb]
      have pb : p[b.toNat]? = some f := by
        rw [T.st _ _ gb, ls, Nat.mod_self, gf]
      have mem : ∀ x ∈ s ++ [a, b], x ∈ R.flatten := fun x hx => List.mem_flatten.mpr ⟨_, hr, hx⟩
      have ba := C.bd a (mem a (List.mem_of_getElem? ga))
      have bb := C.bd b (mem b (List.mem_of_getElem? gb))
      have ndr := nodup_row C.nd _ hr
      have ab : a ≠ b := fun e => by
        obtain ⟨h3, e3⟩ := List.getElem?_eq_some_iff.mp ga
        obtain ⟨h4, e4⟩ := List.getElem?_eq_some_iff.mp gb
        have := (List.getElem_inj ndr).mp (e3.trans (e.trans e4.symm))
        omega
      have abn : a.toNat ≠ b.toNat := by omega
      have hq := hp.swap pa pb
      have flip := inv_swap2 hp.nd abn pa pb
      have lp := hp.len
      generalize hqe : (p.set a.toNat f).set b.toNat b = q at hq flip
      have qa : q[a.toNat]? = some f := by
        rw [← hqe, List.getElem?_set_ne (Ne.symm abn), List.getElem?_set_self (by omega)]
      have qb : q[b.toNat]? = some b := by
        rw [← hqe, List.getElem?_set_self (by rw [List.length_set]; omega)]
      have qo : ∀ x : Int, 0 ≤ x → x ≠ a → x ≠ b → q[x.toNat]? = p[x.toNat]? := fun x x0 xa xb => by
        rw [← hqe, List.getElem?_set_ne (by omega), List.getElem?_set_ne (by omega)]
      have efl : (R1 ++ (s ++ [a]) :: [b] :: R2).flatten = R.flatten := by
        rw [eR]
        simp
      have lR : (R1 ++ (s ++ [a]) :: [b] :: R2).length = R.length + 1 := by
        rw [eR, List.length_append, List.length_append]
        simp only [List.length_cons]
        omega
      have other : ∀ r' ∈ R, r' ≠ s ++ [a, b] → ∀ x ∈ r', x ≠ a ∧ x ≠ b := fun r' hr' hne x hx => by
        have u : x ∉ s ++ [a, b] := fun hx2 => hne (by
          obtain ⟨i, hi, ei⟩ := List.getElem_of_mem hr'
          obtain ⟨j, hj, ej⟩ := List.getElem_of_mem hr
          by_cases z : i = j
          · subst z; rw [← ei, ej]
          · have pw := (List.pairwise_flatten.mp C.nd).2
            rw [List.pairwise_iff_getElem] at pw
            rcases Nat.lt_or_gt_of_ne z with h | h
            · have := pw i j hi hj h
              rw [ei, ej] at this
              exact absurd rfl (this x hx x hx2)
            · have := pw j i hj hi h
              rw [ei, ej] at this
              exact absurd rfl (this x hx2 x hx))
        exact ⟨fun e => u (by rw [e]; exact List.mem_of_getElem? ga), fun e => u (by rw [e]; exact List.mem_of_getElem? gb)⟩
      have keep : ∀ r' ∈ R, r' ≠ s ++ [a, b] → Turn q r' := fun r' hr' hne => ⟨(C.tn r' hr').ne, fun i x hx => by
        have m := List.mem_of_getElem? hx
        have o := other r' hr' hne x m
        rw [qo x (C.bd x (List.mem_flatten.mpr ⟨r', hr', m⟩)).1 o.1 o.2]
        exact (C.tn r' hr').st i x hx⟩
      have nR : R.Nodup ∨ True := .inr trivial
      have uniq : ∀ r' ∈ R1 ++ R2, r' ∈ R ∧ r' ≠ s ++ [a, b] := fun r' hr' => by
        refine ⟨by rw [eR]; rcases List.mem_append.mp hr' with h | h; exact List.mem_append_left _ h; exact List.mem_append_right _ (List.mem_cons_of_mem _ h), fun e => ?_⟩
        have nd := C.nd
        rw [eR, List.flatten_append, List.flatten_cons] at nd
        have n1 := List.nodup_append.mp nd
        have n2 := List.nodup_append.mp n1.2.1
        have ma : a ∈ r' := e ▸ List.mem_of_getElem? ga
        rcases List.mem_append.mp hr' with h | h
        · exact n1.2.2 a (List.mem_flatten.mpr ⟨r', h, ma⟩) a (List.mem_append_left _ (List.mem_of_getElem? ga)) rfl
        · exact n2.2.2 a (List.mem_of_getElem? ga) a (List.mem_flatten.mpr ⟨r', h, ma⟩) rfl
      have C2 : Cyc n q (R1 ++ (s ++ [a]) :: [b] :: R2) := by
        refine ⟨fun r' hr' => ?_, by rw [efl]; exact C.nd, by rw [efl]; exact C.bd⟩
        rcases List.mem_append.mp hr' with h | h
        · have u := uniq r' (List.mem_append_left _ h)
          exact keep r' u.1 u.2
        · rcases List.mem_cons.mp h with h | h
          · rw [h]
            refine ⟨by rw [List.length_append]; exact Nat.succ_pos _, fun i x hx => ?_⟩
            have hi := (List.getElem?_eq_some_iff.mp hx).1
            have lsa : (s ++ [a]).length = s.length + 1 := by rw [List.length_append]; rfl
            rw [lsa] at hi ⊢
            have pre : ∀ i, i < s.length + 1 → (s ++ [a])[i]? = (s ++ [a, b])[i]? := fun i hi => by
              have e : s ++ [a, b] = (s ++ [a]) ++ [b] := by rw [List.append_assoc]; rfl
              rw [e, List.getElem?_append_left (l₁ := s ++ [a]) (by rw [lsa]; exact hi)]
            rw [pre i hi] at hx
            by_cases z : i = s.length
            · subst z
              rw [ga] at hx
              cases hx
              rw [qa, Nat.mod_self, pre 0 (by omega), gf]
            · have m := List.mem_of_getElem? hx
              have xa : x ≠ a := fun e => by
                subst e
                obtain ⟨h3, e3⟩ := List.getElem?_eq_some_iff.mp ga
                obtain ⟨h4, e4⟩ := List.getElem?_eq_some_iff.mp hx
                exact z ((List.getElem_inj ndr).mp (e4.trans e3.symm))
              have xb : x ≠ b := fun e => by
                subst e
                obtain ⟨h3, e3⟩ := List.getElem?_eq_some_iff.mp gb
                obtain ⟨h4, e4⟩ := List.getElem?_eq_some_iff.mp hx
                have := (List.getElem_inj ndr).mp (e4.trans e3.symm)
                omega
              rw [qo x (C.bd x (mem x m)).1 xa xb, T.st i x hx, ls, Nat.mod_eq_of_lt (by omega), Nat.mod_eq_of_lt (by omega), pre _ (by omega)]
          · rcases List.mem_cons.mp h with h | h
            · rw [h]
              refine ⟨Nat.succ_pos _, fun i x hx => ?_⟩
              have hi := (List.getElem?_eq_some_iff.mp hx).1
              have i0 : i = 0 := by
                have hi : i < 1 := hi
                omega
              subst i0
              cases hx
              rw [qb, show (0 + 1) % [b].length = 0 from Nat.mod_self 1]
              rfl
            · have u := uniq r' (List.mem_append_right _ h)
              exact keep r' u.1 u.2
      have le := Nat.le_trans (rows_le C2.tn) (bd_len C2.nd C2.bd)
      rw [lR] at le
      have ih := parity (n - (R.length + 1)) q _ hq C2 (by rw [efl]; exact all) (by rw [lR])
      omega
termination_by k => k
decreasing_by omega
end KL
/-! min of a tuple of ints -/
namespace KL
open PySem PySem.Spec PyProof.Rows L2 GA GxR
theorem min_tupInts {prog : Program} {w : World} {A : Around} {E : Value → Shared → Prop} {s : Shared} {t : Addr} {vs : List Value} {ns : List Int} {Q : Value → Shared → Prop} (calm : A.handled = none) (ht : s.heap.IsTuple t vs.toArray) (vi : IntsAre vs ns) (some_ : 0 < ns.length)
    (q : ∀ (h1 : Heap) (k : Nat) (m : Int) (tm : Tok), (∀ b o, s.heap.get? b = some o → h1.get? b = some o) → m ∈ ns → (∀ y ∈ ns, m ≤ y) → Q (.int m tm) { s with heap := h1, toks := k }) :
    wpAny (model prog w) A (call (.builtin "min") [.ref t]) Q E s := by
  obtain ⟨ps, ep⟩ := IntsAre.allInts vi |>.items
  have en : numsOf (PySem.intItems ps).toList = ns := by
    rw [← ep]
    exact IntsAre.numsOf vi
  rw [nums_intItems] at en
  subst en
  rw [ep] at ht
  have p0 : 0 < ps.size := by simpa using some_
  have tlt : t < s.heap.objs.size := by
    obtain ⟨_, e, _⟩ := ht
    exact Heap.lt_size e
  refine PySem.call_min_walk (wpAny_pyIter_tuple ht ?_)
  refine ⟨_, [_, t], [_], _, _, _, _, rfl, PySem.Walks.tuple (A := A.in1) calm _ t (Nat.ne_of_lt tlt) (PySem.intItems ps), ⟨⟨_, Heap.get?_push_size _ rfl, rfl, rfl⟩, ht.push _⟩, fun c hc => ?_, by simpa [PySem.intItems] using p0, PySem.CmpOf.ints_lt (PySem.numAt ps) (fun _ _ => PySem.intItems_at), fun v h1 k hP hk => ?_⟩
  · show c < (s.heap.push _).objs.size
    rw [Heap.size_push]
    have hc2 : c = s.heap.objs.size ∨ c = t := by simpa using hc
    rcases hc2 with z | z
    · exact z ▸ Nat.lt_succ_self _
    · exact z ▸ Nat.lt_succ_of_lt tlt
  · have hP : (PySem.intItems ps)[_]? = some v := hP
    obtain ⟨tm, rfl⟩ := PySem.intItems_at hP
    obtain ⟨b1, b2⟩ := argBest_lt (PySem.numAt ps) (ps.size - 1)
    have es : (PySem.intItems ps).size = ps.size := by simp [PySem.intItems]
    refine q h1 k _ tm (fun b o e => hk b o (fun hm => ?_) (Heap.get?_push_of_some _ e)) ?_ fun y hy => ?_
    · rw [List.mem_singleton.mp hm] at e
      exact absurd (Heap.lt_size e) (Nat.lt_irrefl _)
    · rw [es, numAt_eq]
      exact PySem.getD_mem (by rw [List.length_map, Array.length_toList]; omega)
    · obtain ⟨j, hj, rfl⟩ := mem_getD hy
      rw [List.length_map, Array.length_toList] at hj
      rw [← numAt_eq, es]
      exact b2 j (by omega)
def rMinT (K : PySem.W.Frag) : List V → Hp → VK → Prop := fun vs H Q => ∃ (a : Addr) (ns : List Int), vs = [V.ref a] ∧ SqT K H a (ns.map V.int) ∧ 0 < ns.length ∧ ∀ m, m ∈ ns → (∀ y ∈ ns, m ≤ y) → Q (.int m) H
theorem cr_minT {X : Cx} {K : PySem.W.Frag} (e : X.K = K) (hc : X.calm = true := by rfl) : CallR X (.builtin "min") (rMinT K) := by
  subst e
  intro pins s σ H vs us Q I r h
  obtain ⟨a, ns, rfl, hs, hne, q⟩ := h
  obtain ⟨its, rv, hl, hz⟩ := I.tuple hs
  rw [Vals.ref1 r]
  exact min_tupInts (I.ok.hd hc) (show s.heap.IsTuple a its.toArray from hl) rv.ints hne fun h1 k m tm kp h1 h2 => ⟨.int m, H, I.kept kp, ⟨_, rfl⟩, q m h1 h2⟩
end KL
/-! rings against cycles -/
namespace KL
open PySem PySem.Spec PyProof.Rows L2 GA GxR
/-- r is the ring of x -/
structure Ring (n : Nat) (p : List Int) (x : Int) (r : List Int) : Prop where
  tn : Turn p r
  nd : r.Nodup
  hd : r[0]? = some x
  bd : ∀ y ∈ r, 0 ≤ y ∧ y < n
theorem ring_dvd {n : Nat} {p : List Int} {x : Int} {r s : List Int} (hp : IsPm n p) (a : Ring n p x r) (b : Ring n p x s) : r.length ∣ s.length := by
  have e1 := a.tn.pw hp a.bd a.hd s.length
  have e2 := b.tn.pw hp b.bd b.hd s.length
  rw [Nat.zero_add] at e1 e2
  rw [Nat.mod_self, b.hd] at e2
  rw [e2, ← a.hd] at e1
  have l := a.tn.ne
  have hm : s.length % r.length < r.length := Nat.mod_lt _ l
  rw [List.getElem?_eq_getElem l, List.getElem?_eq_getElem hm] at e1
  have := (List.getElem_inj a.nd).mp (Option.some.inj e1)
  exact Nat.dvd_of_mod_eq_zero this.symm
theorem ring_same {n : Nat} {p : List Int} {x : Int} {r s : List Int} (hp : IsPm n p) (a : Ring n p x r) (b : Ring n p x s) : r = s := by
  have el := Nat.dvd_antisymm (ring_dvd hp a b) (ring_dvd hp b a)
  refine pm_ext (n := s.length) el rfl fun k hk => ?_
  have e1 := a.tn.pw hp a.bd a.hd k
  have e2 := b.tn.pw hp b.bd b.hd k
  rw [Nat.zero_add, Nat.mod_eq_of_lt (by omega)] at e1 e2
  rw [← e1, e2]
theorem ring_mem {n : Nat} {p : List Int} {x y : Int} {r s : List Int} (hp : IsPm n p) (a : Ring n p x r) (t : Turn p s) (bs : ∀ y ∈ s, 0 ≤ y ∧ y < (n : Int)) (hx : x ∈ s) : y ∈ r ↔ y ∈ s := by
  obtain ⟨i, hi, ei⟩ := List.getElem_of_mem hx
  have gi : s[i]? = some x := by rw [List.getElem?_eq_getElem hi, ei]
  constructor
  · intro hy
    obtain ⟨k, hk, ek⟩ := List.getElem_of_mem hy
    have e1 := a.tn.pw hp a.bd a.hd k
    have e2 := t.pw hp bs gi k
    rw [Nat.zero_add, Nat.mod_eq_of_lt hk, List.getElem?_eq_getElem hk, ek] at e1
    rw [e1] at e2
    exact List.mem_of_getElem? e2.symm
  · intro hy
    obtain ⟨j, hj, ej⟩ := List.getElem_of_mem hy
    have e1 := a.tn.pw hp a.bd a.hd (s.length - i + j)
    have e2 := t.pw hp bs gi (s.length - i + j)
    rw [show i + (s.length - i + j) = j + s.length by omega, Nat.add_mod_right, Nat.mod_eq_of_lt hj, List.getElem?_eq_getElem hj, ej] at e2
    rw [e2] at e1
    exact List.mem_of_getElem? e1.symm
def hd0 (r : List Int) : Int := r.getD 0 0
theorem hd_get {p r : List Int} (t : Turn p r) : r[0]? = some (hd0 r) := by
  have e : r[0]? = some (r[0]'t.ne) := List.getElem?_eq_getElem t.ne
  rw [e]
  unfold hd0
  rw [getD_of e]
theorem Full.ring {n : Nat} {p : List Int} {R : List (List Int)} (F : Full n p R) {r : List Int} (hr : r ∈ R) : Ring n p (hd0 r) r :=
  ⟨F.cyc.tn r hr, nodup_row F.cyc.nd r hr, hd_get (F.cyc.tn r hr), fun y hy => F.cyc.bd y (List.mem_flatten.mpr ⟨r, hr, hy⟩)⟩
theorem filt_step {R : List (List Int)} (so : (R.map hd0).Pairwise (· < ·)) (i : Int) : (R.filter fun r => decide (hd0 r < i + 1)) = (R.filter fun r => decide (hd0 r < i)) ++ R.filter fun r => decide (hd0 r = i) := by
  induction R with
  | nil => rfl
  | cons r R ih =>
    rw [List.map_cons, List.pairwise_cons] at so
    have ih := ih so.2
    by_cases h : hd0 r < i
    · rw [List.filter_cons_of_pos (by rw [decide_eq_true_iff]; omega), List.filter_cons_of_pos (by rw [decide_eq_true_iff]; omega), List.filter_cons_of_neg (by rw [decide_eq_true_iff]; omega), ih]
      rfl
    · have none1 : (R.filter fun r => decide (hd0 r < i)) = [] := List.filter_eq_nil_iff.mpr fun s hs => by
        have := so.1 _ (List.mem_map_of_mem hs)
        rw [decide_eq_true_iff]; omega
      have none2 : (R.filter fun r => decide (hd0 r = i)) = [] := List.filter_eq_nil_iff.mpr fun s hs => by
        have := so.1 _ (List.mem_map_of_mem hs)
        rw [decide_eq_true_iff]; omega
      rw [none1, none2] at ih
      by_cases h2 : hd0 r = i
      · rw [List.filter_cons_of_pos (by rw [decide_eq_true_iff]; omega), List.filter_cons_of_neg (by rw [decide_eq_true_iff]; omega), List.filter_cons_of_pos (by rw [decide_eq_true_iff]; omega), ih, none1, none2]
        rfl
      · rw [List.filter_cons_of_neg (by rw [decide_eq_true_iff]; omega), List.filter_cons_of_neg (by rw [decide_eq_true_iff]; omega), List.filter_cons_of_neg (by rw [decide_eq_true_iff]; omega), ih, none1, none2]
theorem filt_one {R : List (List Int)} (so : (R.map hd0).Pairwise (· < ·)) {r : List Int} (hr : r ∈ R) : (R.filter fun s => decide (hd0 s = hd0 r)) = [r] := by
  induction R with
  | nil => cases hr
  | cons a R ih =>
    rw [List.map_cons, List.pairwise_cons] at so
    rcases List.mem_cons.mp hr with z | z
    · rw [← z] at so ⊢
      rw [List.filter_cons_of_pos (by rw [decide_eq_true_iff]), List.filter_eq_nil_iff.mpr fun s hs => by
        have := so.1 _ (List.mem_map_of_mem hs)
        rw [decide_eq_true_iff]; omega]
    · have := so.1 _ (List.mem_map_of_mem z)
      rw [List.filter_cons_of_neg (by rw [decide_eq_true_iff]; omega), ih so.2 z]
/-- the rows whose least point is below i -/
def fl (R : List (List Int)) (i : Nat) : List (List Int) := R.filter fun r => decide (hd0 r < (i : Int))
theorem fl_zero {n : Nat} {p : List Int} {R : List (List Int)} (F : Full n p R) : fl R 0 = [] := List.filter_eq_nil_iff.mpr fun r hr => by
  have h := (F.ring hr).bd _ (List.mem_of_getElem? (F.ring hr).hd)
  rw [decide_eq_true_iff]
  omega
theorem fl_all {n : Nat} {p : List Int} {R : List (List Int)} (F : Full n p R) : fl R n = R := List.filter_eq_self.mpr fun r hr => by
  have h := (F.ring hr).bd _ (List.mem_of_getElem? (F.ring hr).hd)
  rw [decide_eq_true_iff]
  omega
/-- the test of the law: the ring's least point is the point itself -/
theorem fl_yes {n i : Nat} {p : List Int} {R : List (List Int)} {r : List Int} (hp : IsPm n p) (F : Full n p R) (a : Ring n p i r) (hi : i < n) (m : ∀ y ∈ r, (i : Int) ≤ y) : fl R (i + 1) = fl R i ++ [r] := by
  obtain ⟨s, hs, hx⟩ := List.mem_flatten.mp (F.all (i : Int) (by omega) (by omega))
  have S := F.ring hs
  have h1 : hd0 s ∈ r := (ring_mem hp a S.tn S.bd hx).mpr (List.mem_of_getElem? S.hd)
  have h2 : hd0 s = (i : Int) := by
    have := m _ h1
    have := F.mn s hs _ hx
    show s.getD 0 0 = (i : Int)
    have e : s.getD 0 0 = hd0 s := rfl
    omega
  rw [h2] at S
  have e := ring_same hp a S
  subst e
  have st := filt_step F.so (i : Int)
  have o := filt_one F.so hs
  rw [h2] at o
  unfold fl
  rw [show ((i + 1 : Nat) : Int) = (i : Int) + 1 by omega, st, o]
theorem fl_no {n i : Nat} {p : List Int} {R : List (List Int)} {r : List Int} {m : Int} (hp : IsPm n p) (F : Full n p R) (a : Ring n p i r) (hm : m ∈ r) (ml : m < i) : fl R (i + 1) = fl R i := by
  have st := filt_step F.so (i : Int)
  have z : (R.filter fun s => decide (hd0 s = (i : Int))) = [] := List.filter_eq_nil_iff.mpr fun s hs => by
    rw [decide_eq_true_iff]
    intro h2
    have S := F.ring hs
    have hx : (i : Int) ∈ s := h2 ▸ List.mem_of_getElem? S.hd
    have h3 := F.mn s hs m ((ring_mem hp a S.tn S.bd hx).mp hm)
    have e : s.getD 0 0 = hd0 s := rfl
    omega
  unfold fl
  rw [show ((i + 1 : Nat) : Int) = (i : Int) + 1 by omega, st, z, List.append_nil]
theorem Cyc.unit_of {n N : Nat} {p : List Int} {R : List (List Int)} (hp : IsPm n p) (C : Cyc n p R) (all : ∀ x : Int, 0 ≤ x → x < n → x ∈ R.flatten) (d : ∀ r ∈ R, r.length ∣ N) : pwL n p N = unitL n := by
  refine pm_ext (n := n) (pwL_pm hp N).len (unit_pm n).len fun j hj => ?_
  obtain ⟨r, hr, hx⟩ := List.mem_flatten.mp (all (j : Int) (by omega) (by omega))
  obtain ⟨i, hi, e⟩ := List.getElem_of_mem hx
  have h : r[i]? = some (j : Int) := by rw [List.getElem?_eq_getElem hi, e]
  have k := C.pw hp hr h N
  obtain ⟨t, et⟩ := d r hr
  rw [et, Nat.add_mul_mod_self_left, Nat.mod_eq_of_lt hi, h, show ((j : Nat) : Int).toNat = j by omega] at k
  rw [et, k]
  exact (unitL_get hj).symm
/-- the rings of the points below i, as tuples -/
structure RingsAt (H : Hp) (Cs : List Addr) (n : Nat) (p : List Int) (i : Nat) : Prop where
  len : Cs.length = i
  at_ : ∀ k, k < i → ∃ (a : Addr) (r : List Int), Cs[k]? = some a ∧ H a = some (.tup (r.map V.int)) ∧ Ring n p k r
theorem RingsAt.ex {H H' : Hp} {Cs : List Addr} {n i : Nat} {p : List Int} (x : Ex H H') (h : RingsAt H Cs n p i) : RingsAt H' Cs n p i :=
  ⟨h.len, fun k hk => let ⟨a, r, e1, e2, e3⟩ := h.at_ k hk; ⟨a, r, e1, x.st _ _ e2 trivial, e3⟩⟩
theorem RingsAt.upd {H : Hp} {Cs : List Addr} {n i : Nat} {p : List Int} {q : Addr} {o u : HO} (h : RingsAt H Cs n p i) (e : H q = some u) (nt : ∀ xs, u ≠ .tup xs) : RingsAt (L2.upd H q o) Cs n p i :=
  ⟨h.len, fun k hk => let ⟨a, r, e1, e2, e3⟩ := h.at_ k hk; ⟨a, r, e1, by
    rw [upd_ne (fun z => by rw [z, e] at e2; exact nt _ (Option.some.inj e2))]
    exact e2, e3⟩⟩
theorem RingsAt.more {H : Hp} {Cs : List Addr} {n i : Nat} {p r : List Int} {a : Addr} (h : RingsAt H Cs n p i) (e : H a = some (.tup (r.map V.int))) (hr : Ring n p i r) : RingsAt H (Cs ++ [a]) n p (i + 1) := by
  refine ⟨by rw [List.length_append, h.len]; rfl, fun k hk => ?_⟩
  by_cases hk2 : k < i
  · obtain ⟨b, s, e1, e2, e3⟩ := h.at_ k hk2
    exact ⟨b, s, by rw [List.getElem?_append_left (by rw [h.len]; exact hk2)]; exact e1, e2, e3⟩
  · have ek : k = i := by omega
    subst ek
    exact ⟨a, r, by rw [List.getElem?_append_right (by rw [h.len]; exact Nat.le_refl _), h.len, Nat.sub_self]; rfl, e, hr⟩
def spAlike2 : Sp := fun vs H Q _ => ∃ (a b : Addr) (As Bs : List Addr) (R : List (List Int)), vs = [.ref a, .ref b] ∧ H a = some (.tup (As.map V.ref)) ∧ H b = some (.tup (Bs.map V.ref)) ∧ RowsAt H As R ∧ RowsAt H Bs R ∧ R.length ≤ 1000 ∧ (∀ r ∈ R, r.length ≤ 1000) ∧ ∀ H', Ex H H' → Q (.bl true) H'
theorem srt_same {ns ms ls : List Int} (h1 : ns.Perm ls) (h2 : ms.Perm ls) (s1 : ns.Pairwise (· ≤ ·)) (s2 : ms.Pairwise (· ≤ ·)) : ns = ms := PySem.W.ksm_same (h1.trans h2.symm) s1 s2
end KL
namespace KL
open PySem PySem.Spec PyProof.Rows L2 GA GxR
/-! ### the text -/
def topS (i : Nat) : Stmt := PySem.Challenge.pw_stronggens_k03_whole_orders_and_cycles.main.body.getD i (.Pass ⟨0, 0, 0, 0⟩)
abbrev sis_between : Stmt := topS 6
abbrev sis_tuple_of : Stmt := topS 7
abbrev sis_degree : Stmt := topS 8
abbrev sis_point : Stmt := topS 9
abbrev sare_points : Stmt := topS 10
abbrev sare_distinct_points : Stmt := topS 11
abbrev sis_permutation : Stmt := topS 12
abbrev sis_any_permutation : Stmt := topS 13
abbrev scheck_any_permutation : Stmt := topS 14
abbrev sfull_cycles : Stmt := topS 16
abbrev sall_lengths : Stmt := topS 17
abbrev speriod : Stmt := topS 18
abbrev scycles : Stmt := topS 20
abbrev scycle_lengths : Stmt := topS 21
abbrev selement_order : Stmt := topS 22
abbrev ssign : Stmt := topS 23
abbrev ssupport : Stmt := topS 24
abbrev s_law_taken : Stmt := topS 26
abbrev s_law_alike : Stmt := topS 27
abbrev s_law_unit : Stmt := topS 28
abbrev s_law_mul : Stmt := topS 29
abbrev s_law_inv : Stmt := topS 30
abbrev s_law_conj : Stmt := topS 31
abbrev s_law_perm : Stmt := topS 32
abbrev s_law_ring : Stmt := topS 33
abbrev s_law_least_power : Stmt := topS 34
abbrev s_law_blocks : Stmt := topS 35
abbrev slaw : Stmt := topS 36
theorem scis_between : FnScope ["value", "low", "high"] ["value", "low", "high"] (defScope sis_between) := ⟨rfl, rfl, rfl, by decide +kernel, rfl, by decide +kernel, by decide +kernel⟩
theorem scis_tuple_of : FnScope ["value", "size"] ["value", "size"] (defScope sis_tuple_of) := ⟨rfl, rfl, rfl, by decide +kernel, rfl, by decide +kernel, by decide +kernel⟩
theorem scis_degree : FnScope ["value"] ["value"] (defScope sis_degree) := ⟨rfl, rfl, rfl, by decide +kernel, rfl, by decide +kernel, by decide +kernel⟩
theorem scis_point : FnScope ["degree", "value"] ["degree", "value"] (defScope sis_point) := ⟨rfl, rfl, rfl, by decide +kernel, rfl, by decide +kernel, by decide +kernel⟩
theorem scare_points : FnScope ["degree", "value", "x"] ["degree", "value"] (defScope sare_points) := ⟨rfl, rfl, rfl, by decide +kernel, rfl, by decide +kernel, by decide +kernel⟩
theorem scare_distinct_points : FnScope ["degree", "value"] ["degree", "value"] (defScope sare_distinct_points) := ⟨rfl, rfl, rfl, by decide +kernel, rfl, by decide +kernel, by decide +kernel⟩
theorem scis_permutation : FnScope ["degree", "value"] ["degree", "value"] (defScope sis_permutation) := ⟨rfl, rfl, rfl, by decide +kernel, rfl, by decide +kernel, by decide +kernel⟩
theorem scis_any_permutation : FnScope ["value"] ["value"] (defScope sis_any_permutation) := ⟨rfl, rfl, rfl, by decide +kernel, rfl, by decide +kernel, by decide +kernel⟩
theorem sccheck_any_permutation : FnScope ["value"] ["value"] (defScope scheck_any_permutation) := ⟨rfl, rfl, rfl, by decide +kernel, rfl, by decide +kernel, by decide +kernel⟩
theorem scfull_cycles : FnScope ["p", "rows", "seen", "first", "row", "point"] ["p"] (defScope sfull_cycles) := ⟨rfl, rfl, rfl, by decide +kernel, rfl, by decide +kernel, by decide +kernel⟩
theorem scall_lengths : FnScope ["p", "row"] ["p"] (defScope sall_lengths) := ⟨rfl, rfl, rfl, by decide +kernel, rfl, by decide +kernel, by decide +kernel⟩
theorem scperiod : FnScope ["p", "least", "length"] ["p"] (defScope speriod) := ⟨rfl, rfl, rfl, by decide +kernel, rfl, by decide +kernel, by decide +kernel⟩
theorem sccycles : FnScope ["p", "row"] ["p"] (defScope scycles) := ⟨rfl, rfl, rfl, by decide +kernel, rfl, by decide +kernel, by decide +kernel⟩
theorem sccycle_lengths : FnScope ["p"] ["p"] (defScope scycle_lengths) := ⟨rfl, rfl, rfl, by decide +kernel, rfl, by decide +kernel, by decide +kernel⟩
theorem scelement_order : FnScope ["p"] ["p"] (defScope selement_order) := ⟨rfl, rfl, rfl, by decide +kernel, rfl, by decide +kernel, by decide +kernel⟩
theorem scsign : FnScope ["p"] ["p"] (defScope ssign) := ⟨rfl, rfl, rfl, by decide +kernel, rfl, by decide +kernel, by decide +kernel⟩
theorem scsupport : FnScope ["p", "point", "target"] ["p"] (defScope ssupport) := ⟨rfl, rfl, rfl, by decide +kernel, rfl, by decide +kernel, by decide +kernel⟩
theorem sc_law_taken : FnScope ["row", "many", "cell", "found"] ["row", "many"] (defScope s_law_taken) := ⟨rfl, rfl, rfl, by decide +kernel, rfl, by decide +kernel, by decide +kernel⟩
theorem sc_law_alike : FnScope ["found", "due", "k"] ["found", "due"] (defScope s_law_alike) := ⟨rfl, rfl, rfl, by decide +kernel, rfl, by decide +kernel, by decide +kernel⟩
theorem sc_law_unit : FnScope ["degree"] ["degree"] (defScope s_law_unit) := ⟨rfl, rfl, rfl, by decide +kernel, rfl, by decide +kernel, by decide +kernel⟩
theorem sc_law_mul : FnScope ["p", "q", "image"] ["p", "q"] (defScope s_law_mul) := ⟨rfl, rfl, rfl, by decide +kernel, rfl, by decide +kernel, by decide +kernel⟩
theorem sc_law_inv : FnScope ["p", "found", "point"] ["p"] (defScope s_law_inv) := ⟨rfl, rfl, rfl, by decide +kernel, rfl, by decide +kernel, by decide +kernel⟩
theorem sc_law_conj : FnScope ["p", "g"] ["p", "g"] (defScope s_law_conj) := ⟨rfl, rfl, rfl, by decide +kernel, rfl, by decide +kernel, by decide +kernel⟩
theorem sc_law_perm : FnScope ["row", "degree", "found", "at", "other"] ["row", "degree"] (defScope s_law_perm) := ⟨rfl, rfl, rfl, by decide +kernel, rfl, by decide +kernel, by decide +kernel⟩
theorem sc_law_ring : FnScope ["p", "first", "turn", "found", "point"] ["p", "first"] (defScope s_law_ring) := ⟨rfl, rfl, rfl, by decide +kernel, rfl, by decide +kernel, by decide +kernel⟩
theorem sc_law_least_power : FnScope ["p", "found", "exponent"] ["p"] (defScope s_law_least_power) := ⟨rfl, rfl, rfl, by decide +kernel, rfl, by decide +kernel, by decide +kernel⟩
theorem sc_law_blocks : FnScope ["row", "found", "turn", "size", "begin", "at"] ["row"] (defScope s_law_blocks) := ⟨rfl, rfl, rfl, by decide +kernel, rfl, by decide +kernel, by decide +kernel⟩
theorem sclaw : FnScope ["script", "row", "p", "rings", "whole", "lengths", "least", "pairs", "one", "point", "ring", "size", "other"] ["script"] (defScope slaw) := ⟨rfl, rfl, rfl, by decide +kernel, rfl, by decide +kernel, by decide +kernel⟩
/-! ### the facts -/
structure TX (K : PySem.W.Frag) (mg : Str → Option Value) (base : Heap) : Prop where
  F_is_between : Fun K "is_between" "is_between" sis_between (He.ga K "is_between") (fdK K "is_between")
  b_is_between : Binds K (fdK K "is_between") ["value", "low", "high"] []
  g_is_between : mg "is_between" = some (.ref (He.ga K "is_between"))
  F_is_tuple_of : Fun K "is_tuple_of" "is_tuple_of" sis_tuple_of (He.ga K "is_tuple_of") (fdK K "is_tuple_of")
  b_is_tuple_of : Binds K (fdK K "is_tuple_of") ["value", "size"] []
  g_is_tuple_of : mg "is_tuple_of" = some (.ref (He.ga K "is_tuple_of"))
  F_is_degree : Fun K "is_degree" "is_degree" sis_degree (He.ga K "is_degree") (fdK K "is_degree")
  b_is_degree : Binds K (fdK K "is_degree") ["value"] []
  g_is_degree : mg "is_degree" = some (.ref (He.ga K "is_degree"))
  F_is_point : Fun K "is_point" "is_point" sis_point (He.ga K "is_point") (fdK K "is_point")
  b_is_point : Binds K (fdK K "is_point") ["degree", "value"] []
  g_is_point : mg "is_point" = some (.ref (He.ga K "is_point"))
  F_are_points : Fun K "are_points" "are_points" sare_points (He.ga K "are_points") (fdK K "are_points")
  b_are_points : Binds K (fdK K "are_points") ["degree", "value"] []
  g_are_points : mg "are_points" = some (.ref (He.ga K "are_points"))
  F_are_distinct_points : Fun K "are_distinct_points" "are_distinct_points" sare_distinct_points (He.ga K "are_distinct_points") (fdK K "are_distinct_points")
  b_are_distinct_points : Binds K (fdK K "are_distinct_points") ["degree", "value"] []
  g_are_distinct_points : mg "are_distinct_points" = some (.ref (He.ga K "are_distinct_points"))
  F_is_permutation : Fun K "is_permutation" "is_permutation" sis_permutation (He.ga K "is_permutation") (fdK K "is_permutation")
  b_is_permutation : Binds K (fdK K "is_permutation") ["degree", "value"] []
  g_is_permutation : mg "is_permutation" = some (.ref (He.ga K "is_permutation"))
  F_is_any_permutation : Fun K "is_any_permutation" "is_any_permutation" sis_any_permutation (He.ga K "is_any_permutation") (fdK K "is_any_permutation")
  b_is_any_permutation : Binds K (fdK K "is_any_permutation") ["value"] []
  g_is_any_permutation : mg "is_any_permutation" = some (.ref (He.ga K "is_any_permutation"))
  F_check_any_permutation : Fun K "check_any_permutation" "check_any_permutation" scheck_any_permutation (He.ga K "check_any_permutation") (fdK K "check_any_permutation")
  b_check_any_permutation : Binds K (fdK K "check_any_permutation") ["value"] []
  g_check_any_permutation : mg "check_any_permutation" = some (.ref (He.ga K "check_any_permutation"))
  F_full_cycles : Fun K "full_cycles" "full_cycles" sfull_cycles (He.ga K "full_cycles") (fdK K "full_cycles")
  b_full_cycles : Binds K (fdK K "full_cycles") ["p"] []
  g_full_cycles : mg "full_cycles" = some (.ref (He.ga K "full_cycles"))
  F_all_lengths : Fun K "all_lengths" "all_lengths" sall_lengths (He.ga K "all_lengths") (fdK K "all_lengths")
  b_all_lengths : Binds K (fdK K "all_lengths") ["p"] []
  g_all_lengths : mg "all_lengths" = some (.ref (He.ga K "all_lengths"))
  F_period : Fun K "period" "period" speriod (He.ga K "period") (fdK K "period")
  b_period : Binds K (fdK K "period") ["p"] []
  g_period : mg "period" = some (.ref (He.ga K "period"))
  F_cycles : Fun K "cycles" "cycles" scycles (He.ga K "cycles") (fdK K "cycles")
  b_cycles : Binds K (fdK K "cycles") ["p"] []
  g_cycles : mg "cycles" = some (.ref (He.ga K "cycles"))
  F_cycle_lengths : Fun K "cycle_lengths" "cycle_lengths" scycle_lengths (He.ga K "cycle_lengths") (fdK K "cycle_lengths")
  b_cycle_lengths : Binds K (fdK K "cycle_lengths") ["p"] []
  g_cycle_lengths : mg "cycle_lengths" = some (.ref (He.ga K "cycle_lengths"))
  F_element_order : Fun K "element_order" "element_order" selement_order (He.ga K "element_order") (fdK K "element_order")
  b_element_order : Binds K (fdK K "element_order") ["p"] []
  g_element_order : mg "element_order" = some (.ref (He.ga K "element_order"))
  F_sign : Fun K "sign" "sign" ssign (He.ga K "sign") (fdK K "sign")
  b_sign : Binds K (fdK K "sign") ["p"] []
  g_sign : mg "sign" = some (.ref (He.ga K "sign"))
  F_support : Fun K "support" "support" ssupport (He.ga K "support") (fdK K "support")
  b_support : Binds K (fdK K "support") ["p"] []
  g_support : mg "support" = some (.ref (He.ga K "support"))
  F__law_taken : Fun K "_law_taken" "_law_taken" s_law_taken (He.ga K "_law_taken") (fdK K "_law_taken")
  b__law_taken : Binds K (fdK K "_law_taken") ["row", "many"] []
  g__law_taken : mg "_law_taken" = some (.ref (He.ga K "_law_taken"))
  F__law_alike : Fun K "_law_alike" "_law_alike" s_law_alike (He.ga K "_law_alike") (fdK K "_law_alike")
  b__law_alike : Binds K (fdK K "_law_alike") ["found", "due"] []
  g__law_alike : mg "_law_alike" = some (.ref (He.ga K "_law_alike"))
  F__law_unit : Fun K "_law_unit" "_law_unit" s_law_unit (He.ga K "_law_unit") (fdK K "_law_unit")
  b__law_unit : Binds K (fdK K "_law_unit") ["degree"] []
  g__law_unit : mg "_law_unit" = some (.ref (He.ga K "_law_unit"))
  F__law_mul : Fun K "_law_mul" "_law_mul" s_law_mul (He.ga K "_law_mul") (fdK K "_law_mul")
  b__law_mul : Binds K (fdK K "_law_mul") ["p", "q"] []
  g__law_mul : mg "_law_mul" = some (.ref (He.ga K "_law_mul"))
  F__law_inv : Fun K "_law_inv" "_law_inv" s_law_inv (He.ga K "_law_inv") (fdK K "_law_inv")
  b__law_inv : Binds K (fdK K "_law_inv") ["p"] []
  g__law_inv : mg "_law_inv" = some (.ref (He.ga K "_law_inv"))
  F__law_conj : Fun K "_law_conj" "_law_conj" s_law_conj (He.ga K "_law_conj") (fdK K "_law_conj")
  b__law_conj : Binds K (fdK K "_law_conj") ["p", "g"] []
  g__law_conj : mg "_law_conj" = some (.ref (He.ga K "_law_conj"))
  F__law_perm : Fun K "_law_perm" "_law_perm" s_law_perm (He.ga K "_law_perm") (fdK K "_law_perm")
  b__law_perm : Binds K (fdK K "_law_perm") ["row", "degree"] []
  g__law_perm : mg "_law_perm" = some (.ref (He.ga K "_law_perm"))
  F__law_ring : Fun K "_law_ring" "_law_ring" s_law_ring (He.ga K "_law_ring") (fdK K "_law_ring")
  b__law_ring : Binds K (fdK K "_law_ring") ["p", "first"] []
  g__law_ring : mg "_law_ring" = some (.ref (He.ga K "_law_ring"))
  F__law_least_power : Fun K "_law_least_power" "_law_least_power" s_law_least_power (He.ga K "_law_least_power") (fdK K "_law_least_power")
  b__law_least_power : Binds K (fdK K "_law_least_power") ["p"] []
  g__law_least_power : mg "_law_least_power" = some (.ref (He.ga K "_law_least_power"))
  F__law_blocks : Fun K "_law_blocks" "_law_blocks" s_law_blocks (He.ga K "_law_blocks") (fdK K "_law_blocks")
  b__law_blocks : Binds K (fdK K "_law_blocks") ["row"] []
  g__law_blocks : mg "_law_blocks" = some (.ref (He.ga K "_law_blocks"))
  F_law : Fun K "law" "law" slaw (He.ga K "law") (fdK K "law")
  b_law : Binds K (fdK K "law") ["script"] []
  g_law : mg "law" = some (.ref (He.ga K "law"))
  n_all : mg "all" = none
  n_bool : mg "bool" = none
  n_enumerate : mg "enumerate" = none
  n_int : mg "int" = none
  n_isinstance : mg "isinstance" = none
  n_len : mg "len" = none
  n_list : mg "list" = none
  n_min : mg "min" = none
  n_range : mg "range" = none
  n_set : mg "set" = none
  n_sorted : mg "sorted" = none
  n_str : mg "str" = none
  n_tuple : mg "tuple" = none
  n_type : mg "type" = none
  n_lcm : mg "lcm" = some (.builtin "math.lcm")
  c_MOST_DEGREE : ∃ u, mg "MOST_DEGREE" = some u ∧ RelV (.int 12) u
  tab_are_points : GxR.TabB base mg (He.cT K ("are_points", none)).1 (He.cT K ("are_points", none)).2
def tabL : List Str := ["are_points"]
end KL
namespace KL
open PySem PySem.Spec PyProof.Rows L2 GA GxR
local macro_rules | `(tactic| walk_at "sx") => `(tactic| simp only [L2.start, List.map_cons, List.map_nil, List.length_cons, List.length_nil, Nat.reduceAdd, Nat.reduceSub, List.replicate, List.cons_append, List.nil_append, tRet, tSeq, tNext, tIfS, tAsg, tDrop, gName, gSub, rSetL, gTup, gCons, gNil, tB, tNot, tTest, tAndV, tOrV, tNotV, tAnd, tOr, tIf, tOp, tUn, tThenZ, tThen, r1, kTyp, kTup, tVar, tC, tChain, tCB, tCons, tNil, rI0, rI, rEq, rNe, rRep, rIxT, rIxL, tCall, tTup, tLst, tTupRg, tLstRg, tRg1, tRg2, tPar, List.getElem?_cons_zero, List.getElem?_cons_succ, List.set_cons_zero, List.set_cons_succ, Option.some.injEq, exists_eq_left', exists_eq_left, V.ty.injEq, V.int.injEq, V.bl.injEq, V.ref.injEq, List.cons.injEq, and_true, true_and, wipe, exists_and_left, List.append_nil, reduceCtorEq, false_and, exists_false, false_or, or_false])
section
variable {P : Program} {w : World} {K : PySem.W.Frag} {mg : Str → Option Value} {base : Heap}
theorem ok_is_between (T : TX K mg base) : FnOk P w K mg base CX0 1 (He.ga K "is_between") (fdK K "is_between") ["value", "low", "high"] spBetween := by
  refine T.F_is_between.ok scis_between (fun vs H Q E h => ?_) (fun cdv A outer s H vs Q E hr h => ?_)
  · obtain ⟨v, lo, hi, rfl, _⟩ := h
    rfl
  · obtain ⟨v, lo, hi, rfl, ⟨n, hn⟩, q⟩ := h
    refine ⟨_, (pss_one (ps_ret (pe_and (pe_cmpR op_isTy (pe_typeOf (by rfl) T.n_type (pv 0)) (pe_bltn (v := .ty "int") (by rfl) T.n_int (by decide +kernel) rfl) (nomark _)) (pe_one (pe_chain op_le op_le (pv 1) (pv 0) (pv 2)))))), ?_⟩
    walk_at "sx"
    simp only [hn, Option.some.injEq, exists_eq_left']
    by_cases e : n = "int"
    · subst e
      obtain ⟨i, rfl⟩ := zty_int v H hn
      refine ite2 (fun _ => ⟨i, rfl, ite2 (fun c => ⟨i, rfl, ?_⟩) (fun c => ?_)⟩) (fun z => absurd rfl z)
      · simpa only [btV, c, Bool.true_and] using q
      · simpa only [btV, Bool.eq_false_iff.mpr c, Bool.false_and] using q
    · rw [if_neg (by simpa using e)]
      have eb : btV lo hi v = false := by
        cases v with
        | int i => exact absurd (Option.some.inj hn).symm e
        | _ => rfl
      rw [eb] at q
      exact q
theorem ok_is_tuple_of (T : TX K mg base) : FnOk P w K mg base CX0 1 (He.ga K "is_tuple_of") (fdK K "is_tuple_of") ["value", "size"] spTupleOf := by
  refine T.F_is_tuple_of.ok scis_tuple_of (fun vs H Q E h => ?_) (fun cdv A outer s H vs Q E hr h => ?_)
  · obtain ⟨v, n, rfl, _⟩ := h
    rfl
  · obtain ⟨v, n, rfl, ⟨m, hm⟩, q⟩ := h
    refine ⟨_, (pss_one (ps_ret (pe_and (pe_cmpR op_isTy (pe_typeOf (by rfl) T.n_type (pv 0)) (pe_bltn (v := .ty "tuple") (by rfl) T.n_tuple (by decide +kernel) rfl) (nomark _)) (pe_one (pe_cmpR op_eq (pe_callB (lenS (K := K) rfl) (by rfl) T.n_len PySem.boot_len (pa_cons (pv 0) pa_nil)) (pv 1) (nomark _)))))), ?_⟩
    walk_at "sx"
    simp only [hm, Option.some.injEq, exists_eq_left']
    cases ht : tupOf H v with
    | none =>
      rw [if_neg (by simpa using zty_not v H m hm ht)]
      simpa only [lenB, ht] using q
    | some xs =>
      obtain ⟨a, rfl, ha⟩ := tupOf_some ht
      have em : m = "tuple" := Option.some.inj (hm.symm.trans (zty_tup _ H xs ht))
      rw [if_pos (by simpa using em)]
      refine ⟨a, rfl, xs, .inr (.inl (.inl ha)), rfl, ?_⟩
      simpa only [lenB, ht, V.int.injEq] using q
theorem ok_is_degree (T : TX K mg base) : FnOk P w K mg base CX0 2 (He.ga K "is_degree") (fdK K "is_degree") ["value"] spDegree := by
  refine T.F_is_degree.ok scis_degree (fun vs H Q E h => ?_) (fun cdv A outer s H vs Q E hr h => ?_)
  · obtain ⟨v, rfl, _⟩ := h
    rfl
  · obtain ⟨v, rfl, t, q⟩ := h
    refine ⟨_, (pss_one (ps_ret (pe_call (ok_is_between T) hr (by rfl) T.g_is_between T.F_is_between.kp T.b_is_between .nil pass0 (pa_cons (pv 0) (pa_cons pe_int (pa_cons (C8.pe_gc rfl T.c_MOST_DEGREE) pa_nil)))))), ?_⟩
    walk_at "sx"
    exact ⟨v, 1, 12, rfl, t, q⟩
theorem bd : BtDef sis_between := ⟨⟨_, _, _, _, _, _, _, _, _, _, _, rfl⟩, rfl, rfl, rfl, by decide +kernel, rfl, rfl, rfl, rfl, rfl⟩
theorem pd : PtDef sis_point := ⟨⟨_, _, _, _, _, _, _, _, _, _, rfl⟩, rfl, rfl, rfl, by decide +kernel, rfl, rfl, rfl⟩
theorem ok_are_points (T : TX K mg base) : FnOk P w K mg base CX0 3 (He.ga K "are_points") (fdK K "are_points") ["degree", "value"] (spPoints K) := by
  refine okC T.F_are_points scare_points (fun vs H Q E h => ?_) (fun cdv A outer s H vs Q E hcd hr h => ?_)
  · obtain ⟨v, d, rfl, _⟩ := h
    rfl
  · obtain ⟨v, d, rfl, ⟨⟨m, hm⟩, hit⟩, hT, q⟩ := h
    refine ⟨_, (pss_one (ps_ret (pe_and (pe_cmpR op_isTy (pe_typeOf (by rfl) T.n_type (pv 1)) (pe_bltn (v := .ty "tuple") (by rfl) T.n_tuple (by decide +kernel) rfl) (nomark _)) (pe_one (pe_allT hr (by rfl) T.n_all T.tab_are_points hcd (by exact genS_by rfl rfl (by decide) rfl rfl rfl) (pv 1) (by intro _; rfl) (by decide +kernel)))))), ?_⟩
    walk_at "sx"
    simp only [hm, Option.some.injEq, exists_eq_left', tAllT]
    cases ht : tupOf H v with
    | none =>
      rw [if_neg (by simpa using zty_not v H m hm ht)]
      have q := q H (Ex.refl H)
      simpa only [ptsB, ht] using q
    | some xs =>
      obtain ⟨a, rfl, ha⟩ := tupOf_some ht
      have em : m = "tuple" := Option.some.inj (hm.symm.trans (zty_tup _ H xs ht))
      rw [if_pos (by simpa using em)]
      walk_at "sx"
      refine ⟨xs, .inl (.inl ha), hT, btV 0 (d - 1), fun pins s1 I => ?_, fun H2 hTb => ?_⟩
      · exact elt_point (i := 0) (k := 0) I hT (by exact genS_by rfl rfl (by decide) rfl rfl rfl) ⟨rfl, rfl, rfl, rfl⟩ rfl rfl rfl T.F_is_point pd T.b_is_point T.g_is_point T.F_is_between bd T.b_is_between T.g_is_between T.n_type T.n_int hr (hit xs ht).2 (base_ne I hT)
      · have q := q H2 (Ex.tabbed hT hTb)
        simpa only [ptsB, ht] using q
theorem ok_are_distinct_points (T : TX K mg base) : FnOk P w K mg base CX0 4 (He.ga K "are_distinct_points") (fdK K "are_distinct_points") ["degree", "value"] (spDistinct K) := by
  refine T.F_are_distinct_points.ok scare_distinct_points (fun vs H Q E h => ?_) (fun cdv A outer s H vs Q E hr h => ?_)
  · obtain ⟨v, d, rfl, _⟩ := h
    rfl
  · obtain ⟨v, d, rfl, g, hT, q⟩ := h
    refine ⟨_, (pss_one (ps_ret (pe_and (pe_call (ok_are_points T) hr (by rfl) T.g_are_points T.F_are_points.kp T.b_are_points .nil pass0 (pa_cons (pv 0) (pa_cons (pv 1) pa_nil))) (pe_one (pe_cmpR op_eq (pe_lenSetT (by rfl) T.n_len (by rfl) T.n_set (pv 1)) (pe_callB (lenS (K := K) rfl) (by rfl) T.n_len PySem.boot_len (pa_cons (pv 1) pa_nil)) (nomark _)))))), ?_⟩
    walk_at "sx"
    refine ⟨v, d, rfl, g, hT, fun H' x => ⟨_, rfl, ?_⟩⟩
    cases ht : tupOf H v with
    | none =>
      have e : ptsB H d v = false := by unfold ptsB; rw [ht]
      rw [e]
      refine iteF ?_
      have q := q H' x
      simpa only [dstB, ht] using q
    | some xs =>
      obtain ⟨a, rfl, ha⟩ := tupOf_some ht
      have e : ptsB H d (.ref a) = xs.all (btV 0 (d - 1)) := by unfold ptsB; rw [ht]
      have e2 : dstB H d (.ref a) = (xs.all (btV 0 (d - 1)) && decide xs.Nodup) := by unfold dstB; rw [ht]
      rw [e]
      rw [e2] at q
      cases hall : xs.all (btV 0 (d - 1)) with
      | false =>
        rw [hall] at q
        exact iteF (q H' x)
      | true =>
        rw [hall, Bool.true_and] at q
        obtain ⟨ns, rfl, hns⟩ := all_ints hall
        refine iteT ?_
        have ha' : H' a = some (.tup (ns.map V.int)) := x.st _ _ ha trivial
        have hlen := (g.it _ ht).1
        rw [List.length_map] at hlen
        unfold tLenSetT
        walk_at "sx"
        refine ⟨ns, .inl (.inl ha'), hlen, fun ks hk hm => ⟨ns.map V.int, .inr (.inl (.inl ha')), rfl, ?_⟩⟩
        have eb : decide (((ks.length : Nat) : Int) = (((ns.map V.int).length : Nat) : Int)) = decide (ns.map V.int).Nodup := by
          rw [List.length_map, decide_eq_decide, nodup_map_int]
          constructor
          · intro z
            exact nodup_of_len hk hm (by omega)
          · intro z
            rw [len_nodup hk hm z]
        rw [eb]
        exact q H' x
theorem ok_is_permutation (T : TX K mg base) : FnOk P w K mg base CX0 5 (He.ga K "is_permutation") (fdK K "is_permutation") ["degree", "value"] (spPerm K) := by
  refine T.F_is_permutation.ok scis_permutation (fun vs H Q E h => ?_) (fun cdv A outer s H vs Q E hr h => ?_)
  · obtain ⟨v, d, rfl, _⟩ := h
    rfl
  · obtain ⟨v, d, rfl, g, hT, q⟩ := h
    refine ⟨_, (pss_one (ps_ret (pe_and (pe_call (ok_is_tuple_of T) (hr.mono (by decide)) (by rfl) T.g_is_tuple_of T.F_is_tuple_of.kp T.b_is_tuple_of .nil pass0 (pa_cons (pv 1) (pa_cons (pv 0) pa_nil))) (pe_one (pe_call (ok_are_distinct_points T) hr (by rfl) T.g_are_distinct_points T.F_are_distinct_points.kp T.b_are_distinct_points .nil pass0 (pa_cons (pv 0) (pa_cons (pv 1) pa_nil))))))), ?_⟩
    walk_at "sx"
    refine ⟨v, d, rfl, g.ty, _, rfl, ?_⟩
    unfold permB at q
    cases e : lenB H d v with
    | false =>
      rw [e] at q
      exact iteF (q H (Ex.refl H))
    | true =>
      rw [e, Bool.true_and] at q
      exact iteT ⟨v, d, rfl, g, hT, q⟩
theorem ok_is_any_permutation (T : TX K mg base) : FnOk P w K mg base CX0 6 (He.ga K "is_any_permutation") (fdK K "is_any_permutation") ["value"] (spAny K) := by
  refine T.F_is_any_permutation.ok scis_any_permutation (fun vs H Q E h => ?_) (fun cdv A outer s H vs Q E hr h => ?_)
  · obtain ⟨v, rfl, _⟩ := h
    rfl
  · obtain ⟨v, rfl, g, hT, q⟩ := h
    obtain ⟨m, hm⟩ := g.ty
    refine ⟨_, (pss_one (ps_ret (pe_and (pe_cmpR op_isTy (pe_typeOf (by rfl) T.n_type (pv 0)) (pe_bltn (v := .ty "tuple") (by rfl) T.n_tuple (by decide +kernel) rfl) (nomark _)) (pe_and (pe_call (ok_is_degree T) (hr.mono (by decide)) (by rfl) T.g_is_degree T.F_is_degree.kp T.b_is_degree .nil pass0 (pa_cons (pe_callB (lenS (K := K) rfl) (by rfl) T.n_len PySem.boot_len (pa_cons (pv 0) pa_nil)) pa_nil)) (pe_one (pe_call (ok_is_permutation T) hr (by rfl) T.g_is_permutation T.F_is_permutation.kp T.b_is_permutation .nil pass0 (pa_cons (pe_callB (lenS (K := K) rfl) (by rfl) T.n_len PySem.boot_len (pa_cons (pv 0) pa_nil)) (pa_cons (pv 0) pa_nil)))))))), ?_⟩
    walk_at "sx"
    simp only [hm, Option.some.injEq, exists_eq_left']
    cases ht : tupOf H v with
    | none =>
      rw [if_neg (by simpa using zty_not v H m hm ht)]
      have q := q H (Ex.refl H)
      simpa only [anyB, ht] using q
    | some xs =>
      obtain ⟨a, rfl, ha⟩ := tupOf_some ht
      have em : m = "tuple" := Option.some.inj (hm.symm.trans (zty_tup _ H xs ht))
      rw [if_pos (by simpa using em)]
      have e : anyB H (.ref a) = (btV 1 12 (.int xs.length) && permB H xs.length (.ref a)) := by unfold anyB; rw [ht]
      rw [e] at q
      have hs : SqL K H a xs ∨ SqT K H a xs := .inr (.inl (.inl ha))
      refine ⟨a, rfl, xs, hs, .int xs.length, rfl, ⟨_, rfl⟩, _, rfl, ?_⟩
      cases hb : btV 1 12 (.int xs.length) with
      | false =>
        rw [hb] at q
        exact iteF (q H (Ex.refl H))
      | true =>
        rw [hb, Bool.true_and] at q
        exact iteT ⟨a, rfl, xs, hs, .ref a, xs.length, rfl, g, hT, q⟩
theorem ok_check_any_permutation (T : TX K mg base) : FnOk P w K mg base CX0 7 (He.ga K "check_any_permutation") (fdK K "check_any_permutation") ["value"] (spCkAny K) := by
  refine T.F_check_any_permutation.ok sccheck_any_permutation (fun vs H Q E h => ?_) (fun cdv A outer s H vs Q E hr h => ?_)
  · obtain ⟨v, rfl, _⟩ := h
    rfl
  · obtain ⟨v, rfl, g, hT, hb, q⟩ := h
    refine ⟨_, (pss_one (ps_if (pt_not (pt_val (pe_call (ok_is_any_permutation T) hr (by rfl) T.g_is_any_permutation T.F_is_any_permutation.kp T.b_is_any_permutation .nil pass0 (pa_cons (pv 0) pa_nil)))) pss_never pss_nil)), ?_⟩
    walk_at "sx"
    refine ⟨v, rfl, g, hT, fun H' x => ⟨_, rfl, ?_⟩⟩
    rw [hb]
    exact iteF (q H' x)
theorem ok_full_cycles (T : TX K mg base) : FnOk P w K mg base CX0 1 (He.ga K "full_cycles") (fdK K "full_cycles") ["p"] spFullCycles := by
  refine T.F_full_cycles.ok scfull_cycles (fun vs H Q E h => ?_) (fun cdv A outer s H vs Q E hr h => ?_)
  · obtain ⟨a, n, p, rfl, _⟩ := h
    rfl
  · obtain ⟨a, n, p, rfl, hp, hn, z⟩ := h
    refine ⟨_, (pss_cons (ps_set (i := 1) scfull_cycles.nd rfl (.inl rfl) (pe_lst pa_nil))
      (pss_cons (ps_set (i := 2) scfull_cycles.nd rfl (.inl rfl) (pe_callTy0 cr_set0 (by rfl) T.n_set (by decide +kernel)))
      (pss_cons (ps_for PassesOwn.never rfl (pi_range1 (by rfl) T.n_range (pa_cons (pe_callB (lenS (K := K) rfl) (by rfl) T.n_len PySem.boot_len (pa_cons (pv 0) pa_nil)) pa_nil)) (pg_name (i := 3) scfull_cycles.nd rfl (.inl rfl)) (pss_one (ps_if (pt_cmpR or_snotin (pv 3) (pv 2) (by rfl)) (pss_cons (ps_set (i := 4) scfull_cycles.nd rfl (.inl rfl) (pe_lst pa_nil))
      (pss_cons (ps_set (i := 5) scfull_cycles.nd rfl (.inl rfl) (pv 3))
      (pss_cons (ps_while PassesOwn.never (pt_cmpR or_snotin (pv 5) (pv 2) (by rfl)) (pss_cons (ps_expr (pe_sadd (pv 2) (pa_cons (pv 5) pa_nil)))
      (pss_cons (ps_expr (pe_bm PySem.F.plainAttrs_list PySem.F.slot_list_append PySem.F.type_list_append mt_append (pv 4) (pa_cons (pv 5) pa_nil)))
      (pss_one (ps_set (i := 5) scfull_cycles.nd rfl (.inl rfl) (pe_ix (ixT (K := K) rfl) (pv 0) (pv 5) (fun _ _ => rfl)))))))
      (pss_one (ps_expr (pe_bm PySem.F.plainAttrs_list PySem.F.slot_list_append PySem.F.type_list_append mt_append (pv 1) (pa_cons (pe_tupK (K := K) rfl (by rfl) T.n_tuple (pv 4)) pa_nil))))))) pss_nil)))
      (pss_one (ps_ret (pv 1)))))), ?_⟩
    walk_at "sx"
    refine ⟨Nat.zero_le _, fun l nl => ⟨rfl, fun sA nS => ?_⟩⟩
    have xl : Ex H (upd H l (.lst [])) := Ex.new nl
    have nS0 := xl.no _ nS
    have xs : Ex H (upd (upd H l (.lst [])) sA (SetO w sA (fun _ => false) 0)) := xl.trans (Ex.new nS)
    have hlp : (p.map V.int).length = n := by rw [List.length_map, hp.is.len]
    have F0 : FC w H (upd (upd H l (.lst [])) sA (SetO w sA (fun _ => false) 0)) l sA n p [] [] [] := ⟨xs, by rw [upd_ne (fun z => by rw [z] at nS; rw [upd_same] at nS; cases nS)]; exact upd_same, .nil, upd_same, .nil, .nil, (fun _ h => by cases h), (fun _ h => by cases h), .nil⟩
    refine ⟨.ref a, rfl, a, rfl, p.map V.int, .inr (xs.t (.inl (.inl hp.at_))), (n : Int), by rw [hlp], by omega, by omega, for_it walk_range (fun i σ H1 => ∃ y3 y4 y5 R As, σ = [some (.ref a), some (.ref l), some (.ref sA), y3, y4, y5] ∧ FC w H H1 l sA n p As R R.flatten ∧ (∀ x : Int, 0 ≤ x → x < i → x ∈ R.flatten) ∧ ∀ r ∈ R, r.getD 0 0 < (i : Int))
      ⟨none, none, none, [], [], rfl, F0, (fun x _ _ => by omega), (fun _ h => by cases h)⟩ (fun _ _ _ _ _ => trivial) (fun i x σ H1 H2 hi ⟨y3, y4, y5, R, As, es, F, hA, hLo⟩ ⟨e, ex⟩ => ?_) (fun σ H1 ⟨y3, y4, y5, R, As, es, F, hA, hLo⟩ => ?_)⟩
    · subst es e ex
      rw [show ((n : Nat) : Int).toNat = n by omega] at hi
      walk_at "sx"
      obtain ⟨f, ef⟩ : ∃ f : Int, 0 + (i : Int) = f := ⟨_, rfl⟩
      rw [ef]
      refine ⟨f, sA, _, _, rfl, rfl, F.seen, ⟨_, rfl, ite2 (fun c => ?_) (fun c => ?_)⟩⟩
      · have hf : f ∉ R.flatten := fun z => by
          rw [decide_eq_true z] at c
          cases c
        refine ⟨Nat.zero_le _, fun rA nR => ?_⟩
        have rl : rA ≠ l := fun z => by rw [z, F.hl] at nR; cases nR
        have nR0 := F.ex.no _ nR
        refine ⟨fun m σ H3 => ∃ L pt, m = n - L.length ∧ σ = [some (.ref a), some (.ref l), some (.ref sA), some (.int f), some (.ref rA), some (.int pt)] ∧ FC w H H3 l sA n p As R (R.flatten ++ L) ∧ H3 rA = some (.lst (L.map V.int)) ∧ Chain p f L pt ∧ 0 ≤ pt ∧ pt < n,
          ⟨n, [], f, rfl, rfl, by rw [List.append_nil]; exact F.new nR, upd_same, .start, by omega, by omega⟩, fun m σ H3 ⟨L, pt, em, es, F3, hL, C, p0, pb⟩ => ?_⟩
        subst em es
        walk_at "sx"
        refine ⟨pt, sA, _, _, rfl, rfl, F3.seen, ⟨_, rfl, ite2 (fun c => ?_) (fun c => ?_)⟩⟩
        · have hpt : pt ∉ R.flatten ++ L := fun z => by
            rw [decide_eq_true z] at c
            cases c
          have nd4 := nd_more F3.nd hpt
          have bd4 := bd_more F3.bd p0 pb
          have lt4 := bd_len nd4 bd4
          rw [List.length_append, List.length_append] at lt4
          have lt4 : R.flatten.length + L.length + 1 ≤ n := lt4
          refine ⟨fun σ' H' => ∃ L' pt', L'.length = L.length + 1 ∧ σ' = [some (.ref a), some (.ref l), some (.ref sA), some (.int f), some (.ref rA), some (.int pt')] ∧ FC w H H' l sA n p As R (R.flatten ++ L') ∧ H' rA = some (.lst (L'.map V.int)) ∧ Chain p f L' pt' ∧ 0 ≤ pt' ∧ pt' < n, fun σ' H' ⟨L', pt', el, h⟩ => ⟨n - L'.length, by omega, L', rfl, pt', h⟩, ?_⟩
          simp only [tSAdd, tBM, rSAdd, rAppend]
          walk_at "sx"
          obtain ⟨nx, hnx, n0, nb⟩ := hp.is.get (i := pt.toNat) (by omega)
          refine ⟨⟨_, _, F3.seen⟩, _, _, F3.seen, by show (R.flatten ++ L).length + 1 < 4096; rw [List.length_append]; omega, ?_⟩
          rw [setO_more hpt]
          have hL4 : upd H3 sA (SetO w sA (fun j => decide (j ∈ R.flatten ++ L ++ [pt])) (R.flatten ++ L ++ [pt]).length) rA = some (.lst (L.map V.int)) := kp hL F3.seen (fun z => by cases z)
          have x5 := (F3.ex.own (o := SetO w sA (fun j => decide (j ∈ R.flatten ++ L ++ [pt])) (R.flatten ++ L ++ [pt]).length) nS0).own (o := .lst (L.map V.int ++ [V.int pt])) nR0
          refine ⟨.inl ⟨rfl, _, sl_at hL4⟩, _, hL4, by rw [List.length_map]; exact small1000 (by omega), p.map V.int, x5.t (.inl (.inl hp.at_)), .int nx, at_int p0 hnx, L ++ [pt], List.length_append, nx, rfl, ⟨x5, ?_, ?_, ?_, F3.cyc, ?_, ?_, F3.mn, F3.so⟩, ?_, C.step hnx, n0, nb⟩
          · rw [upd_ne (Ne.symm rl)]
            exact kp F3.hl F3.seen (fun z => by cases z)
          · exact (F3.rows.upd F3.seen (fun _ z => by cases z)).upd hL4 (fun _ z => by cases z)
          · rw [← List.append_assoc]
            exact kp upd_same hL4 (fun z => by cases z)
          · rw [← List.append_assoc]; exact nd4
          · rw [← List.append_assoc]; exact bd4
          · rw [upd_same, List.map_append]
            rfl
        · simp only [tSAdd, tBM, rSAdd, rAppend]
          walk_at "sx"
          have hm : pt ∈ R.flatten ++ L := by
            apply Classical.byContradiction
            intro z
            exact c (by rw [decide_eq_false z]; rfl)
          have tn := C.close hp.is F3.cyc F3.nd (fun x hx => F3.bd x (List.mem_append_right _ hx)) hf hm
          refine ⟨.inl ⟨rfl, _, sl_at F3.hl⟩, .inl ⟨L.map V.int, sl_at hL, fun q nq => ?_⟩⟩
          have hl4 : upd H3 q (.tup (L.map V.int)) l = some (.lst (As.map V.ref)) := by rw [upd_ne (ne_of_none F3.hl nq)]; exact F3.hl
          have F4 := F3.new (o := .tup (L.map V.int)) nq
          have ef2 : (R ++ [L]).flatten = R.flatten ++ L := by rw [List.flatten_append, List.flatten_cons, List.flatten_nil, List.append_nil]
          have x5 : Ex H (upd (upd H3 q (.tup (L.map V.int))) l (.lst (As.map V.ref ++ [V.ref q]))) := F4.ex.own nl
          have lq : l ≠ q := ne_of_none F3.hl nq
          have ln := bd_len F3.nd F3.bd
          rw [List.length_append] at ln
          have R5 : RowsAt (upd (upd H3 q (.tup (L.map V.int))) l (.lst (As.map V.ref ++ [V.ref q]))) (As ++ [q]) (R ++ [L]) := (F4.rows.upd hl4 (fun _ z => by cases z)).more (by rw [upd_ne (Ne.symm lq)]; exact upd_same)
          have C5 := F3.cyc.more tn F3.nd (fun x hx => F3.bd x (List.mem_append_right _ hx))
          have lenR : As.length ≤ n := by
            have := rows_le F3.cyc.tn
            rw [F3.rows.len]
            omega
          have hd0 : L.getD 0 0 = f := by
            have hd := C.hd
            rw [List.getElem?_append_left tn.ne] at hd
            exact getD_of hd
          have mnL : ∀ x ∈ L, L.getD 0 0 ≤ x := fun x hx => by
            rw [hd0]
            apply Classical.byContradiction
            intro g
            have hb := F3.bd x (List.mem_append_right _ hx)
            exact absurd rfl ((List.nodup_append.mp F3.nd).2.2 x (hA x hb.1 (by omega)) x hx)
          refine ⟨_, hl4, by rw [List.length_map]; exact small1000 (by omega), _, _, _, ⟨rfl, rfl, rfl⟩, R ++ [L], As ++ [q], ⟨x5, ?_, R5, ?_, C5, ?_, ?_, ?_, ?_⟩, fun x x0 xi => ?_, fun r hr => ?_⟩
          · rw [upd_same, List.map_append]
            rfl
          · rw [ef2]
            exact kp F4.seen hl4 (fun z => by cases z)
          · rw [ef2]; exact F3.nd
          · rw [ef2]; exact F3.bd
          · intro r hr
            rcases List.mem_append.mp hr with z | z
            · exact F3.mn r z
            · rw [List.mem_singleton.mp z]; exact mnL
          · rw [List.map_append, List.pairwise_append]
            refine ⟨F3.so, List.pairwise_singleton .., fun x hx y hy => ?_⟩
            obtain ⟨r, hr, rfl⟩ := List.mem_map.mp hx
            rw [List.map_cons, List.map_nil, List.mem_singleton] at hy
            rw [hy, hd0]
            have := hLo r hr
            omega
          · rw [ef2]
            by_cases hx : x < i
            · exact List.mem_append_left _ (hA x x0 hx)
            · have e : x = f := by omega
              rw [e]
              have hd := C.hd
              rw [List.getElem?_append_left tn.ne] at hd
              exact List.mem_append_right _ (List.mem_of_getElem? hd)
          · rcases List.mem_append.mp hr with z | z
            · have := hLo r z
              omega
            · rw [List.mem_singleton.mp z, hd0]
              omega
      · refine ⟨_, _, _, ⟨rfl, rfl, rfl⟩, R, As, F, fun x x0 xi => ?_, fun r hr => by have := hLo r hr; omega⟩
        by_cases hx : x < i
        · exact hA x x0 hx
        · have e : x = f := by omega
          rw [e]
          apply Classical.byContradiction
          intro hn
          exact c (by rw [decide_eq_false hn]; rfl)
    · subst es
      walk_at "sx"
      exact z l As R H1 F.ex F.hl F.rows ⟨F.cyc, fun x x0 xn => hA x x0 (by omega), F.mn, F.so⟩
theorem ok_all_lengths (T : TX K mg base) : FnOk P w K mg base CX0 2 (He.ga K "all_lengths") (fdK K "all_lengths") ["p"] spLens := by
  refine T.F_all_lengths.ok scall_lengths (fun vs H Q E h => ?_) (fun cdv A outer s H vs Q E hr h => ?_)
  · obtain ⟨a, n, p, rfl, _⟩ := h
    rfl
  · obtain ⟨a, n, p, rfl, hp, h12, z⟩ := h
    refine ⟨_, (pss_one (ps_ret (pe_tupK (K := K) rfl (by rfl) T.n_tuple (pe_callB (srtL (K := K) rfl) (by rfl) T.n_sorted (by decide +kernel) (pa_cons (pe_lc (own := [("row", 1)]) (g := gName 1) (tt := tYes) rfl scall_lengths.nd (piL (K := K) rfl (pe_call (ok_full_cycles T) hr (by rfl) T.g_full_cycles T.F_full_cycles.kp T.b_full_cycles .nil pass0 (pa_cons (pv 0) pa_nil))) (blkOk_by (N := ["p", "row"]) (sc := defScope sall_lengths) (by decide +kernel)) (fun _ _ _ _ _ => (pg_name (i := 1) scall_lengths.nd rfl (.inl rfl))) (fun _ _ _ _ _ => pts_nil) (fun _ _ _ _ _ => (pe_callB (lenS (K := K) rfl) (by rfl) T.n_len PySem.boot_len (pa_cons (pv 1) pa_nil)))) pa_nil))))), ?_⟩
    walk_at "sx"
    refine ⟨.ref a, rfl, a, n, p, rfl, hp, h12, fun c As R H1 x1 hc hRA hF => ⟨c, rfl, ⟨_, sl_at hc⟩, fun D nD => ?_⟩⟩
    have hAl : (As.map V.ref).length = R.length := by rw [List.length_map, hRA.len]
    have le : R.length ≤ n := Nat.le_trans (rows_le hF.cyc.tn) (bd_len hF.cyc.nd hF.cyc.bd)
    have lL : (lensL R).length = R.length := List.length_map ..
    refine lc_it (walk_list (xs := As.map V.ref)) (fun i H2 => Ex H1 H2 ∧ H2 D = some (.lst (((lensL R).take i).map V.int))) ⟨Ex.new nD, upd_same⟩ (fun i H2 _ h => sl_at (h.1.st _ _ hc refs_norow)) (fun i x H2 H3 hi ⟨x2, hD⟩ ⟨e, hx⟩ => ?_) (fun H2 ⟨x2, hD⟩ => ?_)
    · subst e
      rw [hAl] at hi
      have hr : R[i]? = some R[i] := List.getElem?_eq_getElem hi
      obtain ⟨b, hb, hbt⟩ := (hRA.ex x2).at_ i _ hr
      generalize hri : R[i] = r at hr hbt
      have eb : x = .ref b := by
        rw [List.getElem?_map, hb] at hx
        exact (Option.some.inj hx).symm
      subst eb
      refine ⟨rfl, yesI ?_⟩
      walk_at "sx"
      refine ⟨r.map V.int, .inr (.inl (.inl hbt)), _, hD, ?_, x2.own nD, ?_⟩
      · rw [List.length_map, List.length_take]
        exact small1000 (by omega)
      · have e1 : (lensL R)[i]? = some (r.length : Int) := by unfold lensL; rw [List.getElem?_map, hr]; rfl
        rw [upd_same, List.take_add_one, e1, List.length_map, List.map_append]
        rfl
    · rw [hAl, ← lL, List.take_length] at hD
      exact ⟨D, lensL R, rfl, sl_at hD, fun ns q hq hs nq => .inl ⟨q, rfl, ns.map V.int, sl_new, fun d nd => z d _ R ns (((x1.trans x2).trans (Ex.new nq)).trans (Ex.new nd)) hF hq hs upd_same⟩⟩
theorem ok_period (T : TX K mg base) : FnOk P w K mg base CX0 3 (He.ga K "period") (fdK K "period") ["p"] spPeriod := by
  refine T.F_period.ok scperiod (fun vs H Q E h => ?_) (fun cdv A outer s H vs Q E hr h => ?_)
  · obtain ⟨a, n, p, rfl, _⟩ := h
    rfl
  · obtain ⟨a, n, p, rfl, hp, h12, z⟩ := h
    refine ⟨_, (pss_cons (ps_set (i := 1) scperiod.nd rfl (.inl rfl) pe_int)
      (pss_cons (ps_for PassesOwn.never rfl (piT (K := K) rfl (pe_call (ok_all_lengths T) hr (by rfl) T.g_all_lengths T.F_all_lengths.kp T.b_all_lengths .nil pass0 (pa_cons (pv 0) pa_nil))) (pg_name (i := 2) scperiod.nd rfl (.inl rfl)) (pss_one (ps_set (i := 1) scperiod.nd rfl (.inl rfl) (pe_callBfun cr_lcm (by rfl) T.n_lcm (pa_cons (pv 1) (pa_cons (pv 2) pa_nil))))))
      (pss_one (ps_ret (pv 1))))), ?_⟩
    walk_at "sx"
    refine ⟨.ref a, rfl, a, n, p, rfl, hp, h12, fun c H2 R ns x2 hF hq hs hc => ⟨c, rfl, ⟨_, .inl (.inl hc)⟩, ?_⟩⟩
    have nsm : ∀ y ∈ ns, ∃ r ∈ R, y = (r.length : Int) := fun y hy => by
      obtain ⟨r, hr, e⟩ := List.mem_map.mp (hq.mem_iff.mp hy)
      exact ⟨r, hr, e.symm⟩
    obtain ⟨N0, n1, n60, hN0⟩ := hF.cyc.period hp.is hF.all h12
    have dv0 : ∀ r ∈ R, r.length ∣ N0 := fun r hr => hF.cyc.dvd hp.is hr hN0
    refine for_it (walk_tup (xs := ns.map V.int)) (fun i σ H3 => ∃ (o : Nat) (y2 : Option V), σ = [some (.ref a), some (.int o), y2] ∧ Ex H2 H3 ∧ 1 ≤ o ∧ (∀ y ∈ ns.take i, y ∣ (o : Int)) ∧ ∀ m : Nat, (∀ r ∈ R, r.length ∣ m) → o ∣ m)
      ⟨1, none, rfl, .refl _, by omega, (fun y hy => by cases hy), fun m _ => Nat.one_dvd m⟩ (fun i σ H3 _ ⟨_, _, _, x, _⟩ => x.t (.inl (.inl hc))) (fun i x σ H3 H4 hi ⟨o, y2, es, x3, o1, hy, hm⟩ ⟨e, hx⟩ => ?_) (fun σ H3 ⟨o, y2, es, x3, o1, hy, hm⟩ => ?_)
    · subst es e
      rw [List.length_map] at hi
      have hv : ns[i]? = some ns[i] := List.getElem?_eq_getElem hi
      generalize hvi : ns[i] = v at hv
      have ev : x = .int v := by
        rw [List.getElem?_map, hv] at hx
        exact (Option.some.inj hx).symm
      obtain ⟨r, hr, er⟩ := nsm v (List.mem_of_getElem? hv)
      subst ev er
      have o60 : o ≤ 60 := Nat.le_trans (Nat.le_of_dvd (by omega) (hm N0 dv0)) n60
      have l1 := (hF.cyc.tn r hr).ne
      have l60 : r.length ≤ 60 := Nat.le_trans (Nat.le_of_dvd (by omega) (dv0 r hr)) n60
      walk_at "sx"
      refine ⟨o, r.length, rfl, by omega, by omega, Nat.lcm o r.length, _, ⟨rfl, rfl⟩, x3, Nat.lcm_pos o1 l1, fun y hy2 => ?_, fun m hm2 => Nat.lcm_dvd (hm m hm2) (hm2 r hr)⟩
      rw [List.take_add_one, hv] at hy2
      rcases List.mem_append.mp hy2 with h | h
      · exact Int.dvd_trans (hy y h) (Int.natCast_dvd_natCast.mpr (Nat.dvd_lcm_left ..))
      · have : y = (r.length : Int) := by simpa using h
        rw [this]
        exact Int.natCast_dvd_natCast.mpr (Nat.dvd_lcm_right ..)
    · subst es
      rw [List.length_map, List.take_length] at hy
      walk_at "sx"
      exact z o H3 R (x2.trans x3) hF o1 (fun r hr => Int.natCast_dvd_natCast.mp (hy _ (hq.mem_iff.mpr (List.mem_map.mpr ⟨r, hr, rfl⟩)))) hm
theorem ok_cycles (T : TX K mg base) : FnOk P w K mg base CX0 8 (He.ga K "cycles") (fdK K "cycles") ["p"] (spCycles K) := by
  refine T.F_cycles.ok sccycles (fun vs H Q E h => ?_) (fun cdv A outer s H vs Q E hr h => ?_)
  · obtain ⟨a, n, p, rfl, _⟩ := h
    rfl
  · obtain ⟨a, n, p, rfl, hp, h1, h12, hT, z⟩ := h
    refine ⟨_, (pss_cons (ps_expr (pe_call (ok_check_any_permutation T) hr (by rfl) T.g_check_any_permutation T.F_check_any_permutation.kp T.b_check_any_permutation .nil pass0 (pa_cons (pv 0) pa_nil)))
      (pss_one (ps_ret (pe_tupK (K := K) rfl (by rfl) T.n_tuple (pe_lc (own := [("row", 1)]) (g := gName 1)  rfl sccycles.nd (piL (K := K) rfl (pe_call (ok_full_cycles T) (hr.mono (by decide)) (by rfl) T.g_full_cycles T.F_full_cycles.kp T.b_full_cycles .nil pass0 (pa_cons (pv 0) pa_nil))) (blkOk_by (N := ["p", "row"]) (sc := defScope scycles) (by decide +kernel)) (fun _ _ _ _ _ => (pg_name (i := 1) sccycles.nd rfl (.inl rfl))) (fun _ _ _ _ _ => (pts_one (pt_cmpR op_gt (pe_callB (lenS (K := K) rfl) (by rfl) T.n_len PySem.boot_len (pa_cons (pv 1) pa_nil)) pe_int (nomark _)))) (fun _ _ _ _ _ => (pv 1))))))), ?_⟩
    walk_at "sx"
    refine ⟨.ref a, rfl, hp.good h12, hT, hp.anyB h1 h12, fun H1 x1 => ?_⟩
    refine ⟨.ref a, rfl, a, n, p, rfl, hp.ex x1, h12, fun c As R H2 x2 hc hRA hF => ⟨c, rfl, ⟨_, sl_at hc⟩, fun D nD => ?_⟩⟩
    have hAl : (As.map V.ref).length = R.length := by rw [List.length_map, hRA.len]
    have le : R.length ≤ n := Nat.le_trans (rows_le hF.cyc.tn) (bd_len hF.cyc.nd hF.cyc.bd)
    refine lc_it (walk_list (xs := As.map V.ref)) (fun i H3 => ∃ Bs : List Addr, Ex H2 H3 ∧ H3 D = some (.lst (Bs.map V.ref)) ∧ RowsAt H3 Bs ((R.take i).filter fun r => decide (1 < r.length))) ⟨[], Ex.new nD, upd_same, .nil⟩ (fun i H3 _ ⟨_, h, _⟩ => sl_at (h.st _ _ hc refs_norow)) (fun i x H3 H4 hi ⟨Bs, x3, hD, hB⟩ ⟨e, hx⟩ => ?_) (fun H3 ⟨Bs, x3, hD, hB⟩ => ?_)
    · subst e
      rw [hAl] at hi
      have hr : R[i]? = some R[i] := List.getElem?_eq_getElem hi
      obtain ⟨b, hb, hbt⟩ := (hRA.ex x3).at_ i _ hr
      generalize hri : R[i] = r at hr hbt
      have eb : x = .ref b := by
        rw [List.getElem?_map, hb] at hx
        exact (Option.some.inj hx).symm
      subst eb
      refine ⟨rfl, ?_⟩
      have et : R.take (i + 1) = R.take i ++ [r] := by rw [List.take_add_one, hr]; rfl
      walk_at "sx"
      refine ⟨r.map V.int, .inr (.inl (.inl hbt)), ?_⟩
      rw [List.length_map, et]
      have lB : Bs.length ≤ R.length := by
        rw [hB.len]
        exact Nat.le_trans (List.length_filter_le ..) (by rw [List.length_take]; omega)
      refine ite2 (fun d => ?_) (fun d => ?_)
      · have d : 1 < r.length := by have := of_decide_eq_true d; omega
        refine ⟨_, hD, by rw [List.length_map]; exact small1000 (by omega), x3.own nD, Bs ++ [b], by rw [upd_same, List.map_append]; rfl, ?_⟩
        rw [List.filter_append, List.filter_cons_of_pos (by rw [decide_eq_true d]), List.filter_nil]
        exact (hB.upd hD (fun _ z => by cases z)).more (by rw [upd_ne (fun z => by rw [z, hD] at hbt; cases hbt)]; exact hbt)
      · have d : ¬ 1 < r.length := fun h => d (decide_eq_true (by omega))
        refine ⟨x3, Bs, hD, ?_⟩
        rw [List.filter_append, List.filter_cons_of_neg (by rw [decide_eq_false d]; exact Bool.false_ne_true), List.filter_nil, List.append_nil]
        exact hB
    · rw [hAl, List.take_length] at hB
      exact .inl ⟨D, rfl, _, sl_at hD, fun q nq => z q _ R Bs ((x1.trans (x2.trans x3)).trans (Ex.new nq)) hF (hB.new nq) upd_same⟩
theorem ok_cycle_lengths (T : TX K mg base) : FnOk P w K mg base CX0 8 (He.ga K "cycle_lengths") (fdK K "cycle_lengths") ["p"] (spCycleLengths K) := by
  refine T.F_cycle_lengths.ok sccycle_lengths (fun vs H Q E h => ?_) (fun cdv A outer s H vs Q E hr h => ?_)
  · obtain ⟨a, n, p, rfl, _⟩ := h
    rfl
  · obtain ⟨a, n, p, rfl, hp, h1, h12, hT, z⟩ := h
    refine ⟨_, (pss_cons (ps_expr (pe_call (ok_check_any_permutation T) hr (by rfl) T.g_check_any_permutation T.F_check_any_permutation.kp T.b_check_any_permutation .nil pass0 (pa_cons (pv 0) pa_nil)))
      (pss_one (ps_ret (pe_call (ok_all_lengths T) (hr.mono (by decide)) (by rfl) T.g_all_lengths T.F_all_lengths.kp T.b_all_lengths .nil pass0 (pa_cons (pv 0) pa_nil))))), ?_⟩
    walk_at "sx"
    refine ⟨.ref a, rfl, hp.good h12, hT, hp.anyB h1 h12, fun H1 x1 => ?_⟩
    exact ⟨a, n, p, rfl, hp.ex x1, h12, fun c H2 R ns x2 hF hq hs hc => z c H2 R ns (x1.trans x2) hF hq hs hc⟩
theorem ok_element_order (T : TX K mg base) : FnOk P w K mg base CX0 8 (He.ga K "element_order") (fdK K "element_order") ["p"] (spOrd K) := by
  refine T.F_element_order.ok scelement_order (fun vs H Q E h => ?_) (fun cdv A outer s H vs Q E hr h => ?_)
  · obtain ⟨a, n, p, rfl, _⟩ := h
    rfl
  · obtain ⟨a, n, p, rfl, hp, h1, h12, hT, z⟩ := h
    refine ⟨_, (pss_cons (ps_expr (pe_call (ok_check_any_permutation T) hr (by rfl) T.g_check_any_permutation T.F_check_any_permutation.kp T.b_check_any_permutation .nil pass0 (pa_cons (pv 0) pa_nil)))
      (pss_one (ps_ret (pe_call (ok_period T) (hr.mono (by decide)) (by rfl) T.g_period T.F_period.kp T.b_period .nil pass0 (pa_cons (pv 0) pa_nil))))), ?_⟩
    walk_at "sx"
    refine ⟨.ref a, rfl, hp.good h12, hT, hp.anyB h1 h12, fun H1 x1 => ?_⟩
    exact ⟨a, n, p, rfl, hp.ex x1, h12, fun o H2 R x2 hF o1 hd hm => z o H2 R (x1.trans x2) hF o1 hd hm⟩
theorem ok_sign (T : TX K mg base) : FnOk P w K mg base CX0 8 (He.ga K "sign") (fdK K "sign") ["p"] (spSign K) := by
  refine T.F_sign.ok scsign (fun vs H Q E h => ?_) (fun cdv A outer s H vs Q E hr h => ?_)
  · obtain ⟨a, n, p, rfl, _⟩ := h
    rfl
  · obtain ⟨a, n, p, rfl, hp, h1, h12, hT, z⟩ := h
    refine ⟨_, (pss_cons (ps_expr (pe_call (ok_check_any_permutation T) hr (by rfl) T.g_check_any_permutation T.F_check_any_permutation.kp T.b_check_any_permutation .nil pass0 (pa_cons (pv 0) pa_nil)))
      (pss_one (ps_ret (pe_ifExp (pt_cmpR op_eq (pe_op op_mod (pe_op op_sub (pe_callB (lenS (K := K) rfl) (by rfl) T.n_len PySem.boot_len (pa_cons (pv 0) pa_nil)) (pe_callB (lenS (K := K) rfl) (by rfl) T.n_len PySem.boot_len (pa_cons (pe_call (ok_full_cycles T) (hr.mono (by decide)) (by rfl) T.g_full_cycles T.F_full_cycles.kp T.b_full_cycles .nil pass0 (pa_cons (pv 0) pa_nil)) pa_nil))) pe_int) pe_int (nomark _)) pe_int (pe_un un_neg pe_int))))), ?_⟩
    walk_at "sx"
    refine ⟨.ref a, rfl, hp.good h12, hT, hp.anyB h1 h12, fun H1 x1 => ?_⟩
    have hlp : (p.map V.int).length = n := by rw [List.length_map, hp.is.len]
    refine ⟨p.map V.int, .inr (x1.t (.inl (.inl hp.at_))), a, n, p, rfl, hp.ex x1, h12, fun c As R H2 x2 hc hRA hF => ?_⟩
    have hl : (As.map V.ref).length = R.length := by rw [List.length_map, hRA.len]
    have le : R.length ≤ n := Nat.le_trans (rows_le hF.cyc.tn) (bd_len hF.cyc.nd hF.cyc.bd)
    refine ⟨c, rfl, As.map V.ref, .inl (sl_at hc), by omega, rfl, ?_⟩
    rw [hlp, hl]
    have q := z H2 R (x1.trans x2) hF
    have e : (((n : Int) - (R.length : Int)) % 2 = 0) ↔ ((n - R.length) % 2 = 0) := by omega
    refine ite2 (fun d => ?_) (fun d => ?_)
    · have d := e.mp (of_decide_eq_true d)
      rwa [if_pos d] at q
    · have d : ¬ ((n - R.length) % 2 = 0) := fun h => d (decide_eq_true (e.mpr h))
      rw [if_neg d] at q
      exact ⟨1, rfl, q⟩
theorem ok_support (T : TX K mg base) : FnOk P w K mg base CX0 8 (He.ga K "support") (fdK K "support") ["p"] (spSupport K) := by
  refine T.F_support.ok scsupport (fun vs H Q E h => ?_) (fun cdv A outer s H vs Q E hr h => ?_)
  · obtain ⟨a, n, p, rfl, _⟩ := h
    rfl
  · obtain ⟨a, n, p, rfl, hp, h1, h12, hT, z⟩ := h
    refine ⟨_, (pss_cons (ps_expr (pe_call (ok_check_any_permutation T) hr (by rfl) T.g_check_any_permutation T.F_check_any_permutation.kp T.b_check_any_permutation .nil pass0 (pa_cons (pv 0) pa_nil)))
      (pss_one (ps_ret (pe_tupK (K := K) rfl (by rfl) T.n_tuple (pe_lc (own := [("point", 1), ("target", 2)]) (g := gTup _ 2 (gCons (gName 1) (gCons (gName 2) gNil)))  rfl scsupport.nd (pi_enumT (by rfl) T.n_enumerate (pa_cons (pv 0) pa_nil)) (blkOk_by (N := ["p", "point", "target"]) (sc := defScope ssupport) (by decide +kernel)) (fun _ _ _ _ _ => (pg_tup rfl (pgs_cons (pg_name (i := 1) scsupport.nd rfl (.inl rfl)) (pgs_cons (pg_name (i := 2) scsupport.nd rfl (.inl rfl)) pgs_nil)))) (fun _ _ _ _ _ => (pts_one (pt_cmpR op_ne (pv 1) (pv 2) (nomark _)))) (fun _ _ _ _ _ => (pv 1))))))), ?_⟩
    walk_at "sx"
    refine ⟨.ref a, rfl, hp.good h12, hT, hp.anyB h1 h12, fun H1 x1 => ?_⟩
    have hp1 := hp.ex x1
    have hlp : (p.map V.int).length = n := by rw [List.length_map, hp.is.len]
    refine ⟨.ref a, rfl, a, p.map V.int, rfl, .inl (.inl hp1.at_), fun D nD => ?_⟩
    refine lc_it (walk_enumT (xs := p.map V.int)) (fun i H2 => Ex H1 H2 ∧ H2 D = some (.lst ((suppI p i).map V.int))) ⟨Ex.new nD, upd_same⟩ (fun i H2 _ h => h.1.t (.inl (.inl hp1.at_))) (fun i x H2 H3 hi ⟨x2, hD⟩ ⟨T, u, v, e1, nT, e2, hu, hv⟩ => ?_) (fun H2 ⟨x2, hD⟩ => ?_)
    · subst e1 e2
      rw [hlp] at hi
      obtain ⟨y, hy, h0, hb⟩ := hp.is.get hi
      have hv : (p.map V.int)[i]? = some v := hv
      have ev : v = .int y := by
        rw [List.getElem?_map, hy] at hv
        exact (Option.some.inj hv).symm
      have eu : u = .int i := (Option.some.inj hu).symm
      subst ev eu
      refine ⟨T, [.int i, .int y], rfl, sq_new, rfl, .int i, [.int y], rfl, .int y, [], rfl, rfl, rfl, ?_⟩
      have hD3 : upd H2 T (.tup [.int i, .int y]) D = some (.lst ((suppI p i).map V.int)) := by rw [upd_ne (ne_of_none hD nT)]; exact hD
      have x3 := x2.trans (Ex.new (o := .tup [.int i, .int y]) nT)
      have es := suppI_succ (p := p) (i := i)
      rw [getD_of hy] at es
      walk_at "sx"
      refine ⟨rfl, ite2 (fun d => ?_) (fun d => ?_)⟩
      · have d : (i : Int) ≠ y := fun h => by
          rw [decide_eq_true h] at d
          cases d
        rw [if_pos d] at es
        refine ⟨_, hD3, by rw [List.length_map]; exact small1000 (Nat.le_trans suppI_len (by omega)), x3.own nD, ?_⟩
        rw [upd_same, es, List.map_append]
        rfl
      · have d : ¬ ((i : Int) ≠ y) := fun h => d (by rw [decide_eq_false h]; rfl)
        rw [if_neg d, List.append_nil] at es
        rw [es]
        exact ⟨x3, hD3⟩
    · rw [hlp] at hD
      exact .inl ⟨D, rfl, _, sl_at hD, fun q nq => z q _ ((x1.trans x2).trans (Ex.new nq)) upd_same⟩
theorem ok__law_taken (T : TX K mg base) : FnOk P w K mg base CX0 1 (He.ga K "_law_taken") (fdK K "_law_taken") ["row", "many"] (spTaken K) := by
  refine T.F__law_taken.ok sc_law_taken (fun vs H Q E h => ?_) (fun cdv A outer s H vs Q E hr h => ?_)
  · obtain ⟨r, s, m, ns, rfl, _⟩ := h
    rfl
  · obtain ⟨r, s0, m, ns, rfl, hR, hS, h1, h2, q⟩ := h
    obtain ⟨i, j, k, hrow, hi, hj, hj2, hk⟩ := id hR
    refine ⟨_, (pss_cons (ps_if (pt_cmpR op_gt (pe_ix (ixL (K := K) rfl) (pv 0) pe_int (fun _ _ => rfl)) pe_int (nomark _)) (pss_cons (ps_set (i := 3) sc_law_taken.nd rfl (.inl rfl) (pe_op op_mod (pe_callTy call_int1 (by rfl) T.n_int boot_int (pa_cons (pe_ix (ixL (K := K) rfl) (pv 0) pe_int (fun _ _ => rfl)) pa_nil)) (pv 1)))
      (pss_cons (ps_asg (pe_op op_fdivW (pe_ix (ixL (K := K) rfl) (pv 0) pe_int (fun _ _ => rfl)) (pv 1)) (pg_sub (pv 0) pe_int set_list (by intro _; rfl)))
      (pss_one (ps_ret (pv 3))))) pss_nil)
      (pss_cons (ps_asg (pe_op op_add (pe_ix (ixL (K := K) rfl) (pv 0) pe_int (fun _ _ => rfl)) pe_int) (pg_sub (pv 0) pe_int set_list (by intro _; rfl)))
      (pss_cons (ps_if (pt_cmpR op_gt (pe_ix (ixL (K := K) rfl) (pv 0) pe_int (fun _ _ => rfl)) (pe_callB (lenS (K := K) rfl) (by rfl) T.n_len PySem.boot_len (pa_cons (pe_ix (ixL (K := K) rfl) (pv 0) pe_int (fun _ _ => rfl)) pa_nil)) (nomark _)) (pss_cons (ps_asg (pe_op op_mod (pe_callTy call_int1 (by rfl) T.n_int boot_int (pa_cons (pe_op op_add (pe_op op_mul (pe_ix (ixL (K := K) rfl) (pv 0) pe_int (fun _ _ => rfl)) pe_int) pe_int) pa_nil)) pe_int) (pg_sub (pv 0) pe_int set_list (by intro _; rfl)))
      (pss_one (ps_ret (pe_op op_mod (pe_callTy call_int1 (by rfl) T.n_int boot_int (pa_cons (pe_op op_fdivW (pe_ix (ixL (K := K) rfl) (pv 0) pe_int (fun _ _ => rfl)) pe_int) pa_nil)) (pv 1))))) pss_nil)
      (pss_cons (ps_set (i := 2) sc_law_taken.nd rfl (.inl rfl) (pe_ix (ixL (K := K) rfl) (pe_ix (ixL (K := K) rfl) (pv 0) pe_int (fun _ _ => rfl)) (pe_op op_sub (pe_ix (ixL (K := K) rfl) (pv 0) pe_int (fun _ _ => rfl)) pe_int) (fun _ _ => rfl)))
      (pss_cons (ps_asg (pe_op op_mod (pe_callTy call_int1 (by rfl) T.n_int boot_int (pa_cons (pe_op op_add (pe_op op_add (pe_op op_mul (pe_ix (ixL (K := K) rfl) (pv 0) pe_int (fun _ _ => rfl)) pe_int) (pv 2)) pe_int) pa_nil)) pe_int) (pg_sub (pv 0) pe_int set_list (by intro _; rfl)))
      (pss_cons (ps_if (pt_cmpR op_ge (pv 2) (pe_op op_pow pe_int pe_int) (nomark _)) (pss_one (ps_asg (pe_op op_fdivW (pv 2) (pv 1)) (pg_sub (pv 0) pe_int set_list (by intro _; rfl)))) pss_nil)
      (pss_one (ps_ret (pe_op op_mod (pe_callTy call_int1 (by rfl) T.n_int boot_int (pa_cons (pv 2) pa_nil)) (pv 1)))))))))), ?_⟩
    have nat : ∀ (x : Int) (H' : Hp), Ex H H' → 0 ≤ x → x < m → Q (.int x) H' := fun x H' e g0 g1 => by
      have := q x.toNat H' e (by omega)
      rwa [Int.toNat_of_nonneg g0] at this
    have md : ∀ x : Int, 0 ≤ x % (m : Int) ∧ x % (m : Int) < m := fun x => ⟨Int.emod_nonneg _ (by omega), Int.emod_lt_of_pos _ (by omega)⟩
    have m31 : ∀ x : Int, 0 ≤ x % 2147483647 ∧ x % 2147483647 < 2147483648 := fun x => ⟨Int.emod_nonneg _ (by omega), by have := Int.emod_lt_of_pos x (show (0 : Int) < 2147483647 by omega); omega⟩
    have dm : ∀ x : Int, CDivW x (m : Int) := fun x => wide_div (b := 64) (by omega) (by omega) (by omega) (by omega)
    have lt10 : (4 : Nat) ≤ sizeLine := by decide
    walk_at "sx"
    refine ⟨_, sl_at hrow, _, rfl, k, rfl, ite2 (fun c => ?_) (fun c => ?_)⟩
    · have c := of_decide_eq_true c
      exact ⟨_, sl_at hrow, _, rfl, .inl ⟨k, rfl, by omega, _, sl_at hrow, _, rfl, k, rfl, dm k, _, hrow, 3, rfl, nat _ _ (Ex.draw hR hi hj hj2 (Int.ediv_nonneg hk (by omega))) (md k).1 (md k).2⟩⟩
    · refine ⟨_, sl_at hrow, _, rfl, i, rfl, _, hrow, 1, rfl, ?_⟩
      have x1 : Ex H (upd H r (.lst [.ref s0, .int (i + 1), .int j, .int k])) := Ex.draw hR (by omega) hj hj2 hk
      have e1 : (upd H r (.lst [.ref s0, .int (i + 1), .int j, .int k])) r = some (.lst [.ref s0, .int (i + 1), .int j, .int k]) := upd_same
      have R1 : RowAt (upd H r (.lst [.ref s0, .int (i + 1), .int j, .int k])) r s0 := ⟨_, _, _, e1, by omega, hj, hj2, hk⟩
      have hS1 := x1.l ints_norow hS
      refine ⟨_, sl_at e1, _, rfl, _, sl_at e1, _, rfl, s0, rfl, ns.map V.int, .inl hS1, i + 1, rfl, ite2 (fun c2 => ?_) (fun c2 => ?_)⟩
      · have e2 : (upd (upd H r (.lst [.ref s0, .int (i + 1), .int j, .int k])) r (.lst [.ref s0, .int (i + 1), .int ((j * 48271 + 11) % 2147483647), .int k])) r = some (.lst [.ref s0, .int (i + 1), .int ((j * 48271 + 11) % 2147483647), .int k]) := upd_same
        have x2 := x1.trans (Ex.draw R1 (show 0 ≤ i + 1 by omega) (m31 (j * 48271 + 11)).1 (m31 (j * 48271 + 11)).2 hk)
        refine ⟨_, sl_at e1, _, rfl, j, rfl, .inl ⟨by omega, by omega⟩, by omega, _, e1, 2, rfl, _, sl_at e2, _, rfl, _, rfl, ⟨by omega, by decide⟩, by omega, ?_⟩
        exact nat _ _ x2 (md _).1 (md _).2
      · have c2 : ¬ (((ns.map V.int).length : Int) < i + 1) := fun z => c2 (decide_eq_true z)
        have hil : i.toNat < ns.length := by rw [List.length_map] at c2; omega
        obtain ⟨cell, hc⟩ : ∃ cell, ns[i.toNat]? = some cell := ⟨_, List.getElem?_eq_getElem hil⟩
        refine ⟨_, sl_at e1, _, rfl, _, sl_at e1, _, rfl, i + 1, rfl, s0, rfl, ns.map V.int, hS1, .int cell, ?_, ?_⟩
        · rw [Int.add_sub_cancel]
          exact at_int hi hc
        have x2 := x1.trans (Ex.draw R1 (show 0 ≤ i + 1 by omega) (m31 (j * 48271 + cell + 11)).1 (m31 (j * 48271 + cell + 11)).2 hk)
        have e2 : (upd (upd H r (.lst [.ref s0, .int (i + 1), .int j, .int k])) r (.lst [.ref s0, .int (i + 1), .int ((j * 48271 + cell + 11) % 2147483647), .int k])) r = some (.lst [.ref s0, .int (i + 1), .int ((j * 48271 + cell + 11) % 2147483647), .int k]) := upd_same
        refine ⟨_, sl_at e1, _, rfl, j, rfl, .inl ⟨by omega, by omega⟩, ?_⟩
        have R2 : RowAt (upd (upd H r (.lst [.ref s0, .int (i + 1), .int j, .int k])) r (.lst [.ref s0, .int (i + 1), .int ((j * 48271 + cell + 11) % 2147483647), .int k])) r s0 := ⟨_, _, _, e2, by omega, (m31 _).1, (m31 _).2, hk⟩
        refine ⟨cell, rfl, by omega, _, e1, 2, rfl, ⟨by omega, by omega, by decide⟩, cell, rfl, ite2 (fun c3 => ?_) (fun c3 => ?_)⟩
        · have c3 := of_decide_eq_true c3
          have c0 : 0 ≤ cell := Int.le_trans (by decide) c3
          exact ⟨cell, rfl, dm _, _, e2, 3, rfl, .inl ⟨cell, rfl, by omega, nat _ _ (x2.trans (Ex.draw R2 (by omega) (m31 _).1 (m31 _).2 (Int.ediv_nonneg c0 (by omega)))) (md _).1 (md _).2⟩⟩
        · exact .inl ⟨cell, rfl, by omega, nat _ _ x2 (md _).1 (md _).2⟩
theorem ok__law_alike0 (T : TX K mg base) : FnOk P w K mg base CX0 1 (He.ga K "_law_alike") (fdK K "_law_alike") ["found", "due"] spAlike0 := by
  refine T.F__law_alike.ok sc_law_alike (fun vs H Q E h => ?_) (fun cdv A outer s H vs Q E hr h => ?_)
  · obtain ⟨x, y, rfl, _⟩ := h
    rfl
  · obtain ⟨x, y, rfl, q⟩ := h
    refine ⟨_, (pss_cons (ps_if (pt_val (pe_callB (isiTK (K := K) rfl) (by rfl) T.n_isinstance (by decide +kernel) (pa_cons (pv 1) (pa_cons (pe_tup (pa_cons (pe_bltn (v := .ty "tuple") (by rfl) T.n_tuple (by decide +kernel) rfl) (pa_cons (pe_bltn (v := .ty "list") (by rfl) T.n_list (by decide +kernel) rfl) pa_nil))) pa_nil)))) pss_never pss_nil)
      (pss_cons (ps_if (PW.pt (pw_or (pt_cmpR op_isN (pv 1) pe_non (nomark _)) (pw_or1 (pt_val (pe_callB (isiK (K := K) rfl) (by rfl) T.n_isinstance (by decide +kernel) (pa_cons (pv 1) (pa_cons (pe_bltn (v := .ty "str") (by rfl) T.n_str (by decide +kernel) rfl) pa_nil))))))) (pss_one (ps_ret (pe_and (pe_cmpR (eqD (K := K) rfl hr) (pv 0) (pv 1) (nomark _)) (pe_one (pe_cmpR op_eq (pe_callB (isiK (K := K) rfl) (by rfl) T.n_isinstance (by decide +kernel) (pa_cons (pv 0) (pa_cons (pe_bltn (v := .ty "str") (by rfl) T.n_str (by decide +kernel) rfl) pa_nil))) (pe_callB (isiK (K := K) rfl) (by rfl) T.n_isinstance (by decide +kernel) (pa_cons (pv 1) (pa_cons (pe_bltn (v := .ty "str") (by rfl) T.n_str (by decide +kernel) rfl) pa_nil))) (nomark _)))))) pss_nil)
      (pss_one (ps_ret (pe_and (pe_callB (isiK (K := K) rfl) (by rfl) T.n_isinstance (by decide +kernel) (pa_cons (pv 0) (pa_cons (pe_bltn (v := .ty "int") (by rfl) T.n_int (by decide +kernel) rfl) pa_nil))) (pe_and (pe_cmpR op_eq (pe_callB (isiK (K := K) rfl) (by rfl) T.n_isinstance (by decide +kernel) (pa_cons (pv 0) (pa_cons (pe_bltn (v := .ty "bool") (by rfl) T.n_bool (by decide +kernel) rfl) pa_nil))) (pe_callB (isiK (K := K) rfl) (by rfl) T.n_isinstance (by decide +kernel) (pa_cons (pv 1) (pa_cons (pe_bltn (v := .ty "bool") (by rfl) T.n_bool (by decide +kernel) rfl) pa_nil))) (nomark _)) (pe_one (pe_cmpR (eqD (K := K) rfl hr) (pv 0) (pv 1) (nomark _))))))))), ?_⟩
    walk_at "sx"
    refine ⟨by show 2 ≤ sizeLine; decide, fun t nt => ?_⟩
    have e : PyData.eqv (.int x) (.int y) = decide (x = y) := by rfl
    refine isit_q (b := false) (c := false) (tyx_int y) upd_same (by decide +kernel) (by decide +kernel) ⟨_, rfl, iteF ?_⟩
    refine iteF (isi_q (b := false) (tyx_int y) (by decide +kernel) ⟨_, rfl, iteF ?_⟩)
    refine isi_q (b := true) (tyx_int x) (by decide +kernel) ⟨_, rfl, iteT ?_⟩
    refine isi_q (b := false) (tyx_int x) (by decide +kernel) (isi_q (b := false) (tyx_int y) (by decide +kernel) ⟨rfl, ?_⟩)
    refine iteT ⟨.int x, .int y, .int x, .int y, rfl, rfl, ?_⟩
    rw [e]
    exact q _ (Ex.new nt)
theorem ok__law_alike (T : TX K mg base) : FnOk P w K mg base CX0 2 (He.ga K "_law_alike") (fdK K "_law_alike") ["found", "due"] spAlike := by
  refine T.F__law_alike.ok sc_law_alike (fun vs H Q E h => ?_) (fun cdv A outer s H vs Q E hr h => ?_)
  · obtain ⟨x, y, _, rfl, _⟩ := h
    rfl
  · obtain ⟨a, b, ns, rfl, ha, hb, hn, q⟩ := h
    refine ⟨_, (pss_cons (ps_if (pt_val (pe_callB (isiTK (K := K) rfl) (by rfl) T.n_isinstance (by decide +kernel) (pa_cons (pv 1) (pa_cons (pe_tup (pa_cons (pe_bltn (v := .ty "tuple") (by rfl) T.n_tuple (by decide +kernel) rfl) (pa_cons (pe_bltn (v := .ty "list") (by rfl) T.n_list (by decide +kernel) rfl) pa_nil))) pa_nil)))) (pss_cons (ps_if (PW.pt (pw_or (pt_not (pt_val (pe_callB (isiTK (K := K) rfl) (by rfl) T.n_isinstance (by decide +kernel) (pa_cons (pv 0) (pa_cons (pe_tup (pa_cons (pe_bltn (v := .ty "tuple") (by rfl) T.n_tuple (by decide +kernel) rfl) (pa_cons (pe_bltn (v := .ty "list") (by rfl) T.n_list (by decide +kernel) rfl) pa_nil))) pa_nil))))) (pw_or1 (pt_cmpR op_ne (pe_callB (isiK (K := K) rfl) (by rfl) T.n_isinstance (by decide +kernel) (pa_cons (pv 0) (pa_cons (pe_bltn (v := .ty "list") (by rfl) T.n_list (by decide +kernel) rfl) pa_nil))) (pe_callB (isiK (K := K) rfl) (by rfl) T.n_isinstance (by decide +kernel) (pa_cons (pv 1) (pa_cons (pe_bltn (v := .ty "list") (by rfl) T.n_list (by decide +kernel) rfl) pa_nil))) (nomark _))))) (pss_one (ps_ret pe_bl)) pss_nil)
      (pss_cons (ps_if (pt_cmpR op_ne (pe_callB (lenS (K := K) rfl) (by rfl) T.n_len PySem.boot_len (pa_cons (pv 0) pa_nil)) (pe_callB (lenS (K := K) rfl) (by rfl) T.n_len PySem.boot_len (pa_cons (pv 1) pa_nil)) (nomark _)) (pss_one (ps_ret pe_bl)) pss_nil)
      (pss_one (ps_ret (pe_cmpR (eqD (K := K) rfl hr) (pe_lc (own := [("k", 2)]) (g := gName 2)  rfl sc_law_alike.nd (pi_range1 (by rfl) T.n_range (pa_cons (pe_callB (lenS (K := K) rfl) (by rfl) T.n_len PySem.boot_len (pa_cons (pv 1) pa_nil)) pa_nil)) (blkOk_by (N := ["found", "due", "k"]) (sc := defScope s_law_alike) (by decide +kernel)) (fun _ _ _ _ _ => (pg_name (i := 2) sc_law_alike.nd rfl (.inl rfl))) (fun _ _ _ _ _ => (pts_one (pt_not (pt_val (pe_call (ok__law_alike0 T) hr (by rfl) T.g__law_alike T.F__law_alike.kp T.b__law_alike .nil pass0 (pa_cons (pe_ix (ixT (K := K) rfl) (pv 0) (pv 2) (fun _ _ => rfl)) (pa_cons (pe_ix (ixT (K := K) rfl) (pv 1) (pv 2) (fun _ _ => rfl)) pa_nil))))))) (fun _ _ _ _ _ => (pv 2))) (pe_lst pa_nil) (nomark _)))))) pss_nil)
      pss_never), ?_⟩
    walk_at "sx"
    refine ⟨by show 2 ≤ sizeLine; decide, fun t nt => ?_⟩
    have x1 : Ex H (upd H t (.tup [.ty "tuple", .ty "list"])) := Ex.new nt
    refine isit_q (b := true) (c := false) (tyx_tup (x1.st _ _ hb trivial)) upd_same (by decide +kernel) (by decide +kernel) ⟨_, rfl, iteT ?_⟩
    refine ⟨by show 2 ≤ sizeLine; decide, fun t2 nt2 => ?_⟩
    have x2 := x1.trans (Ex.new (o := .tup [.ty "tuple", .ty "list"]) nt2)
    have ha2 := x2.st _ _ ha trivial
    have hb2 := x2.st _ _ hb trivial
    refine isit_q (b := true) (c := false) (tyx_tup ha2) upd_same (by decide +kernel) (by decide +kernel) ⟨_, rfl, iteF ?_⟩
    refine isi_q (b := false) (tyx_tup ha2) (by decide +kernel) (isi_q (b := false) (tyx_tup hb2) (by decide +kernel) ⟨rfl, iteF ?_⟩)
    have hlen : (ns.map V.int).length = ns.length := List.length_map ..
    refine ⟨ns.map V.int, .inr (.inl (.inl ha2)), ns.map V.int, .inr (.inl (.inl hb2)), rfl, ?_⟩
    rw [decide_eq_true rfl]
    refine iteF ⟨.ref b, rfl, b, rfl, ns.map V.int, .inr (.inl (.inl hb2)), ((ns.map V.int).length : Int), rfl, by omega, by omega, fun D nD => ?_⟩
    have eln : (((ns.map V.int).length : Nat) : Int).toNat = ns.length := by omega
    refine lc_it walk_range (fun i H1 => Ex H H1 ∧ H1 D = some (.lst [])) ⟨x2.trans (Ex.new nD), upd_same⟩ (fun _ _ _ _ => trivial) (fun i x H1 H2 hi ⟨x3, hD⟩ ⟨e, ex⟩ => ?_) (fun H1 ⟨x3, hD⟩ => ?_)
    · subst e ex
      rw [eln] at hi
      have ei : (0 + (i : Int)).toNat = i := by omega
      have hv : ns[i]? = some ns[i] := List.getElem?_eq_getElem hi
      have hat : atI (ns.map V.int) (0 + (i : Int)) = some (.int ns[i]) := at_int (by omega) (by rw [ei]; exact hv)
      refine ⟨rfl, .ref a, rfl, .int (0 + (i : Int)), rfl, a, _, _, .int ns[i], rfl, rfl, x3.t (.inl (.inl ha)), hat, .ref b, rfl, .int (0 + (i : Int)), rfl, b, _, _, .int ns[i], rfl, rfl, x3.t (.inl (.inl hb)), hat, ns[i], ns[i], rfl, fun H' x4 => ⟨_, rfl, ?_⟩⟩
      rw [decide_eq_true rfl]
      exact iteF ⟨x3.trans x4, x4.st _ _ hD nil_norow⟩
    · refine ⟨Nat.zero_le _, fun p np => ⟨.list [], .list [], dp_nil (by rw [upd_ne (ne_of_none hD np)]; exact hD), dp_nil upd_same, rfl, rfl, q _ (x3.trans (Ex.new np))⟩⟩
theorem ok__law_alike2 (T : TX K mg base) : FnOk P w K mg base CX0 3 (He.ga K "_law_alike") (fdK K "_law_alike") ["found", "due"] spAlike2 := by
  refine T.F__law_alike.ok sc_law_alike (fun vs H Q E h => ?_) (fun cdv A outer s H vs Q E hr h => ?_)
  · obtain ⟨x, y, _, _, _, rfl, _⟩ := h
    rfl
  · obtain ⟨a, b, As, Bs, R, rfl, ha, hb, hA, hB, hn, hl, q⟩ := h
    refine ⟨_, (pss_cons (ps_if (pt_val (pe_callB (isiTK (K := K) rfl) (by rfl) T.n_isinstance (by decide +kernel) (pa_cons (pv 1) (pa_cons (pe_tup (pa_cons (pe_bltn (v := .ty "tuple") (by rfl) T.n_tuple (by decide +kernel) rfl) (pa_cons (pe_bltn (v := .ty "list") (by rfl) T.n_list (by decide +kernel) rfl) pa_nil))) pa_nil)))) (pss_cons (ps_if (PW.pt (pw_or (pt_not (pt_val (pe_callB (isiTK (K := K) rfl) (by rfl) T.n_isinstance (by decide +kernel) (pa_cons (pv 0) (pa_cons (pe_tup (pa_cons (pe_bltn (v := .ty "tuple") (by rfl) T.n_tuple (by decide +kernel) rfl) (pa_cons (pe_bltn (v := .ty "list") (by rfl) T.n_list (by decide +kernel) rfl) pa_nil))) pa_nil))))) (pw_or1 (pt_cmpR op_ne (pe_callB (isiK (K := K) rfl) (by rfl) T.n_isinstance (by decide +kernel) (pa_cons (pv 0) (pa_cons (pe_bltn (v := .ty "list") (by rfl) T.n_list (by decide +kernel) rfl) pa_nil))) (pe_callB (isiK (K := K) rfl) (by rfl) T.n_isinstance (by decide +kernel) (pa_cons (pv 1) (pa_cons (pe_bltn (v := .ty "list") (by rfl) T.n_list (by decide +kernel) rfl) pa_nil))) (nomark _))))) (pss_one (ps_ret pe_bl)) pss_nil)
      (pss_cons (ps_if (pt_cmpR op_ne (pe_callB (lenS (K := K) rfl) (by rfl) T.n_len PySem.boot_len (pa_cons (pv 0) pa_nil)) (pe_callB (lenS (K := K) rfl) (by rfl) T.n_len PySem.boot_len (pa_cons (pv 1) pa_nil)) (nomark _)) (pss_one (ps_ret pe_bl)) pss_nil)
      (pss_one (ps_ret (pe_cmpR (eqD (K := K) rfl hr) (pe_lc (own := [("k", 2)]) (g := gName 2)  rfl sc_law_alike.nd (pi_range1 (by rfl) T.n_range (pa_cons (pe_callB (lenS (K := K) rfl) (by rfl) T.n_len PySem.boot_len (pa_cons (pv 1) pa_nil)) pa_nil)) (blkOk_by (N := ["found", "due", "k"]) (sc := defScope s_law_alike) (by decide +kernel)) (fun _ _ _ _ _ => (pg_name (i := 2) sc_law_alike.nd rfl (.inl rfl))) (fun _ _ _ _ _ => (pts_one (pt_not (pt_val (pe_call (ok__law_alike T) hr (by rfl) T.g__law_alike T.F__law_alike.kp T.b__law_alike .nil pass0 (pa_cons (pe_ix (ixT (K := K) rfl) (pv 0) (pv 2) (fun _ _ => rfl)) (pa_cons (pe_ix (ixT (K := K) rfl) (pv 1) (pv 2) (fun _ _ => rfl)) pa_nil))))))) (fun _ _ _ _ _ => (pv 2))) (pe_lst pa_nil) (nomark _)))))) pss_nil)
      pss_never), ?_⟩
    walk_at "sx"
    refine ⟨by show 2 ≤ sizeLine; decide, fun t nt => ?_⟩
    have x1 : Ex H (upd H t (.tup [.ty "tuple", .ty "list"])) := Ex.new nt
    refine isit_q (b := true) (c := false) (tyx_tup (x1.st _ _ hb trivial)) upd_same (by decide +kernel) (by decide +kernel) ⟨_, rfl, iteT ?_⟩
    refine ⟨by show 2 ≤ sizeLine; decide, fun t2 nt2 => ?_⟩
    have x2 := x1.trans (Ex.new (o := .tup [.ty "tuple", .ty "list"]) nt2)
    have ha2 := x2.st _ _ ha trivial
    have hb2 := x2.st _ _ hb trivial
    refine isit_q (b := true) (c := false) (tyx_tup ha2) upd_same (by decide +kernel) (by decide +kernel) ⟨_, rfl, iteF ?_⟩
    refine isi_q (b := false) (tyx_tup ha2) (by decide +kernel) (isi_q (b := false) (tyx_tup hb2) (by decide +kernel) ⟨rfl, iteF ?_⟩)
    have hlA : (As.map V.ref).length = R.length := by rw [List.length_map, hA.len]
    have hlB : (Bs.map V.ref).length = R.length := by rw [List.length_map, hB.len]
    refine ⟨As.map V.ref, .inr (.inl (.inl ha2)), Bs.map V.ref, .inr (.inl (.inl hb2)), rfl, ?_⟩
    rw [decide_eq_true (by rw [hlA, hlB])]
    refine iteF ⟨.ref b, rfl, b, rfl, Bs.map V.ref, .inr (.inl (.inl hb2)), (R.length : Int), by rw [hlB], by omega, by omega, fun D nD => ?_⟩
    have eln : ((R.length : Nat) : Int).toNat = R.length := by omega
    refine lc_it walk_range (fun i H1 => Ex H H1 ∧ H1 D = some (.lst [])) ⟨x2.trans (Ex.new nD), upd_same⟩ (fun _ _ _ _ => trivial) (fun i x H1 H2 hi ⟨x3, hD⟩ ⟨e, ex⟩ => ?_) (fun H1 ⟨x3, hD⟩ => ?_)
    · subst e ex
      rw [eln] at hi
      have hr : R[i]? = some R[i] := List.getElem?_eq_getElem hi
      have hr2 : R[i].length ≤ 1000 := hl _ (List.getElem_mem hi)
      generalize R[i] = r at hr hr2
      obtain ⟨u, hu, hut⟩ := (hA.ex x3).at_ i r hr
      obtain ⟨v, hv, hvt⟩ := (hB.ex x3).at_ i r hr
      have ga : atI (As.map V.ref) (0 + (i : Int)) = some (.ref u) := by
        rw [Int.zero_add]
        exact atI_nat (by rw [List.getElem?_map, hu]; rfl)
      have gb : atI (Bs.map V.ref) (0 + (i : Int)) = some (.ref v) := by
        rw [Int.zero_add]
        exact atI_nat (by rw [List.getElem?_map, hv]; rfl)
      refine ⟨rfl, .ref a, rfl, .int (0 + (i : Int)), rfl, a, _, _, .ref u, rfl, rfl, x3.t (.inl (.inl ha)), ga, .ref b, rfl, .int (0 + (i : Int)), rfl, b, _, _, .ref v, rfl, rfl, x3.t (.inl (.inl hb)), gb, u, v, r, rfl, hut, hvt, hr2, fun H' x4 => ⟨true, rfl, iteF ⟨x3.trans x4, x4.st _ _ hD nil_norow⟩⟩⟩
    · refine ⟨Nat.zero_le _, fun p np => ⟨.list [], .list [], dp_nil (by rw [upd_ne (ne_of_none hD np)]; exact hD), dp_nil upd_same, rfl, rfl, q _ (x3.trans (Ex.new np))⟩⟩
theorem ok__law_unit (T : TX K mg base) : FnOk P w K mg base CX0 1 (He.ga K "_law_unit") (fdK K "_law_unit") ["degree"] spLawUnit := by
  refine T.F__law_unit.ok sc_law_unit (fun vs H Q E h => ?_) (fun cdv A outer s H vs Q E hr h => ?_)
  · obtain ⟨n, rfl, _⟩ := h
    rfl
  · obtain ⟨n, rfl, hn, q⟩ := h
    refine ⟨_, (pss_one (ps_ret (pe_tupRg rfl (by rfl) T.n_tuple (prg_1 (by rfl) T.n_range (pv 0))))), ?_⟩
    walk_at "sx"
    refine ⟨.of_le (by omega) (by omega) (by omega) (by omega), fun a na => ?_⟩
    exact q a _ (Ex.new na) ⟨by rw [upd_same, rg_ints]; rfl, unit_pm n⟩
theorem ok__law_mul (T : TX K mg base) : FnOk P w K mg base CX0 1 (He.ga K "_law_mul") (fdK K "_law_mul") ["p", "q"] spLawMul := by
  refine T.F__law_mul.ok sc_law_mul (fun vs H Q E h => ?_) (fun cdv A outer s H vs Q E hr h => ?_)
  · obtain ⟨a, b, n, p, q, rfl, _⟩ := h
    rfl
  · obtain ⟨a, b, n, p, q, rfl, hp, hq, hn, z⟩ := h
    refine ⟨_, (pss_one (ps_ret (pe_tupK (K := K) rfl (by rfl) T.n_tuple (pe_lc (own := [("image", 2)]) (g := gName 2) (tt := tYes) rfl sc_law_mul.nd (piT (K := K) rfl (pv 0)) (blkOk_by (N := ["p", "q", "image"]) (sc := defScope s_law_mul) (by decide +kernel)) (fun _ _ _ _ _ => (pg_name (i := 2) sc_law_mul.nd rfl (.inl rfl))) (fun _ _ _ _ _ => pts_nil) (fun _ _ _ _ _ => (pe_ix (ixT (K := K) rfl) (pv 1) (pv 2) (fun _ _ => rfl))))))), ?_⟩
    walk_at "sx"
    refine ⟨.ref a, rfl, a, rfl, ⟨_, .inl (.inl hp.at_)⟩, fun D nD => ?_⟩
    have hl : (p.map V.int).length = n := by rw [List.length_map, hp.is.len]
    refine lc_it (walk_tup (xs := p.map V.int)) (fun i H1 => Ex H H1 ∧ H1 D = some (.lst (((mulL p q).take i).map V.int))) ⟨Ex.new nD, upd_same⟩ (fun i H1 _ h => h.1.t (.inl (.inl hp.at_))) (fun i x H1 H2 hi ⟨x1, hD⟩ ⟨e, hx⟩ => ?_) (fun H1 ⟨x1, hD⟩ => ?_)
    · subst e
      rw [hl] at hi
      obtain ⟨y, hy, h0, hb⟩ := hp.is.get hi
      have ex : x = .int y := by
        rw [List.getElem?_map, hy] at hx
        exact (Option.some.inj hx).symm
      subst ex
      obtain ⟨u, hu, _⟩ := hq.is.get (i := y.toNat) (by omega)
      refine ⟨rfl, yesI ⟨.ref b, rfl, .int y, rfl, b, _, y, .int u, rfl, rfl, x1.t (.inl (.inl hq.at_)), at_int h0 hu, _, hD, ?_, x1.own nD, ?_⟩⟩
      · rw [List.length_map, List.length_take]
        have : (mulL p q).length = n := by unfold mulL; rw [List.length_map, hp.is.len]
        exact small1000 (by omega)
      · rw [upd_same, mul_take hy, getD_of hu, List.map_append]
        rfl
    · have hml : (mulL p q).length = n := by unfold mulL; rw [List.length_map, hp.is.len]
      rw [hl, List.take_of_length_le (by omega)] at hD
      refine .inl ⟨D, rfl, _, sl_at hD, fun c nc => z c _ (x1.trans (Ex.new nc)) ⟨upd_same, mulL_pm hp.is hq.is⟩⟩
theorem ok__law_inv (T : TX K mg base) : FnOk P w K mg base CX0 1 (He.ga K "_law_inv") (fdK K "_law_inv") ["p"] spLawInv := by
  refine T.F__law_inv.ok sc_law_inv (fun vs H Q E h => ?_) (fun cdv A outer s H vs Q E hr h => ?_)
  · obtain ⟨a, n, p, rfl, _⟩ := h
    rfl
  · obtain ⟨a, n, p, rfl, hp, hn, z⟩ := h
    refine ⟨_, (pss_cons (ps_set (i := 1) sc_law_inv.nd rfl (.inl rfl) (pe_op op_rep (pe_lst (pa_cons pe_int pa_nil)) (pe_callB (lenS (K := K) rfl) (by rfl) T.n_len PySem.boot_len (pa_cons (pv 0) pa_nil))))
      (pss_cons (ps_for PassesOwn.never rfl (pi_range1 (by rfl) T.n_range (pa_cons (pe_callB (lenS (K := K) rfl) (by rfl) T.n_len PySem.boot_len (pa_cons (pv 0) pa_nil)) pa_nil)) (pg_name (i := 2) sc_law_inv.nd rfl (.inl rfl)) (pss_one (ps_asg (pv 2) (pg_sub (pv 1) (pe_ix (ixT (K := K) rfl) (pv 0) (pv 2) (fun _ _ => rfl)) set_list (by intro _; rfl)))))
      (pss_one (ps_ret (pe_tupK (K := K) rfl (by rfl) T.n_tuple (pv 1)))))), ?_⟩
    walk_at "sx"
    have hlp : (p.map V.int).length = n := by rw [List.length_map, hp.is.len]
    refine ⟨by show 1 ≤ sizeLine; decide, fun l nl => ?_⟩
    have xl : Ex H (upd H l (.lst [V.int 0])) := Ex.new nl
    have hA : SqT K (upd H l (.lst [V.int 0])) a (p.map V.int) := xl.t (.inl (.inl hp.at_))
    refine ⟨p.map V.int, .inr hA, [V.int 0], upd_same, by omega, by omega, by rw [hlp]; exact Nat.le_of_lt (small1000 (by show 1 * ((n : Nat) : Int).toNat ≤ 1000; omega)), fun o no => ?_⟩
    have no0 := xl.no _ no
    have xo : Ex H (upd (upd H l (.lst [V.int 0])) o (.lst (List.replicate ((p.map V.int).length : Int).toNat [V.int 0]).flatten)) := xl.trans (Ex.new no)
    have en : ((n : Nat) : Int).toNat = n := by omega
    refine ⟨.ref a, rfl, a, rfl, p.map V.int, .inr (xo.t (.inl (.inl hp.at_))), (n : Int), by rw [hlp], by omega, by omega, for_it walk_range (fun i σ H1 => ∃ y2 L, σ = [some (.ref a), some (.ref o), y2] ∧ Ex H H1 ∧ H1 o = some (.lst (L.map V.int)) ∧ Filled n p (fun j => (j : Int)) i L)
      ⟨none, List.replicate n 0, rfl, xo, ?_, Filled.start⟩ (fun _ _ _ _ _ => trivial) (fun i x σ H1 H2 hi ⟨y2, L, es, x1, hO, hF⟩ ⟨e, ex⟩ => ?_) (fun σ H1 ⟨y2, L, es, x1, hO, hF⟩ => ?_)⟩
    · rw [upd_same, hlp, en, rep_flat]
    · subst es e ex
      rw [en] at hi
      obtain ⟨y, hy, h0, hb⟩ := hp.is.get hi
      have ei : (0 + (i : Int)).toNat = i := by omega
      refine ⟨.int (0 + (i : Int)), rfl, .ref o, rfl, .ref a, rfl, .int (0 + (i : Int)), rfl, a, _, _, .int y, rfl, rfl, x1.t (.inl (.inl hp.at_)), at_int (by omega) (by rw [ei]; exact hy), o, _, y, y.toNat, rfl, rfl, hO, ixN_of h0 (by rw [List.length_map, hF.len]; exact hb), ?_⟩
      refine ⟨some (.int (0 + (i : Int))), L.set y.toNat i, rfl, x1.own no0, ?_, hF.step hp.is hy⟩
      rw [upd_same, Int.zero_add, set_map]
    · subst es
      rw [en] at hF
      have eL : L = invL p := hF.uniq hp.is (invL_filled hp.is)
      subst eL
      exact ⟨.ref o, rfl, .inl ⟨o, _, rfl, sl_at hO, fun c nc => z c _ (x1.trans (Ex.new nc)) ⟨upd_same, invL_pm hp.is⟩⟩⟩
theorem ok__law_conj (T : TX K mg base) : FnOk P w K mg base CX0 2 (He.ga K "_law_conj") (fdK K "_law_conj") ["p", "g"] spLawConj := by
  refine T.F__law_conj.ok sc_law_conj (fun vs H Q E h => ?_) (fun cdv A outer s H vs Q E hr h => ?_)
  · obtain ⟨a, b, n, p, q, rfl, _⟩ := h
    rfl
  · obtain ⟨a, b, n, p, g, rfl, hp, hg, hn, z⟩ := h
    refine ⟨_, (pss_one (ps_ret (pe_call (ok__law_mul T) hr (by rfl) T.g__law_mul T.F__law_mul.kp T.b__law_mul .nil pass0 (pa_cons (pe_call (ok__law_mul T) hr (by rfl) T.g__law_mul T.F__law_mul.kp T.b__law_mul .nil pass0 (pa_cons (pe_call (ok__law_inv T) hr (by rfl) T.g__law_inv T.F__law_inv.kp T.b__law_inv .nil pass0 (pa_cons (pv 1) pa_nil)) (pa_cons (pv 0) pa_nil))) (pa_cons (pv 1) pa_nil))))), ?_⟩
    walk_at "sx"
    refine ⟨b, n, g, rfl, hg, hn, fun c H1 x1 e1 => ?_⟩
    refine ⟨c, a, n, _, p, rfl, e1, hp.ex x1, hn, fun d H2 x2 e2 => ?_⟩
    exact ⟨d, b, n, _, g, rfl, e2, hg.ex (x1.trans x2), hn, fun f H3 x3 e3 => z f H3 _ ((x1.trans x2).trans x3) e3 rfl⟩
theorem ok__law_perm (T : TX K mg base) : FnOk P w K mg base CX0 2 (He.ga K "_law_perm") (fdK K "_law_perm") ["row", "degree"] (spLawPerm K) := by
  refine T.F__law_perm.ok sc_law_perm (fun vs H Q E h => ?_) (fun cdv A outer s H vs Q E hr h => ?_)
  · obtain ⟨r, s, m, ns, rfl, _⟩ := h
    rfl
  · obtain ⟨r, s0, n, ns, rfl, hR, hS, h1, h2, z⟩ := h
    refine ⟨_, (pss_cons (ps_set (i := 2) sc_law_perm.nd rfl (.inl rfl) (pe_listRg rfl (by rfl) T.n_list (prg_1 (by rfl) T.n_range (pv 1))))
      (pss_cons (ps_for PassesOwn.never rfl (pi_range1 (by rfl) T.n_range (pa_cons (pe_op op_sub (pv 1) pe_int) pa_nil)) (pg_name (i := 3) sc_law_perm.nd rfl (.inl rfl)) (pss_cons (ps_set (i := 4) sc_law_perm.nd rfl (.inl rfl) (pe_op op_add (pv 3) (pe_call (ok__law_taken T) hr (by rfl) T.g__law_taken T.F__law_taken.kp T.b__law_taken .nil pass0 (pa_cons (pv 0) (pa_cons (pe_op op_sub (pv 1) (pv 3)) pa_nil)))))
      (pss_one (ps_asg (pe_tup (pa_cons (pe_ix (ixL (K := K) rfl) (pv 2) (pv 4) (fun _ _ => rfl)) (pa_cons (pe_ix (ixL (K := K) rfl) (pv 2) (pv 3) (fun _ _ => rfl)) pa_nil))) (pg_tup rfl (pgs_cons (pg_sub (pv 2) (pv 3) set_list (by intro _; rfl)) (pgs_cons (pg_sub (pv 2) (pv 4) set_list (by intro _; rfl)) pgs_nil)))))))
      (pss_one (ps_ret (pe_tupK (K := K) rfl (by rfl) T.n_tuple (pv 2)))))), ?_⟩
    walk_at "sx"
    refine ⟨.of_le (by omega) (by omega) (by omega) (by omega), fun l nl => ?_⟩
    rw [rg_ints]
    have xl : Ex H (upd H l (.lst ((unitL n).map V.int))) := Ex.new nl
    refine ⟨.int n, rfl, n, 1, rfl, rfl, (n : Int) - 1, rfl, by omega, by omega, for_it walk_range (fun i σ H1 => ∃ y3 y4 L, σ = [some (.ref r), some (.int n), some (.ref l), y3, y4] ∧ Ex H H1 ∧ H1 l = some (.lst (L.map V.int)) ∧ IsPm n L)
      ⟨none, none, unitL n, rfl, xl, upd_same, unit_pm n⟩ (fun _ _ _ _ _ => trivial) (fun i x σ H1 H2 hi ⟨y3, y4, L, es, x1, hL, hP⟩ ⟨e, ex⟩ => ?_) (fun σ H1 ⟨y3, y4, L, es, x1, hL, hP⟩ => ?_)⟩
    · subst es e ex
      have hi' : i + 1 < n := by omega
      obtain ⟨u, hu, _⟩ := hP.get (i := i) (by omega)
      walk_at "sx"
      refine ⟨r, s0, n - i, ns, ?_, x1.row _ _ hR, x1.l ints_norow hS, by omega, by omega, fun j H3 x3 hj => ?_⟩
      · simp only [List.cons.injEq, V.int.injEq, and_true, true_and]
        omega
      have hL3 := x3.i hL
      obtain ⟨v, hv, _⟩ := hP.get (i := i + j) (by omega)
      have eij : (0 + (i : Int) + (j : Int)).toNat = i + j := by omega
      have ei : (0 + (i : Int)).toNat = i := by omega
      have x4 := x1.trans x3
      refine ⟨j, rfl, _, sl_at hL3, .int v, at_int (by omega) (by rw [eij]; exact hv), _, sl_at hL3, .int u, at_int (by omega) (by rw [ei]; exact hu), by decide, fun T nT => ?_⟩
      have hL4 : (upd H3 T (.tup [.int v, .int u])) l = some (.lst (L.map V.int)) := by
        rw [upd_ne (ne_of_none hL3 nT)]
        exact hL3
      refine ⟨[.int v, .int u], sq_new, rfl, .int v, [.int u], rfl, _, hL4, i, ?_, .int u, [], rfl, _, upd_same, i + j, ?_, rfl, some (.int (0 + (i : Int))), some (.int (0 + (i : Int) + j)), ⟨rfl, rfl⟩, ((x4.trans (Ex.new nT)).own nl).own nl, (L.set i v).set (i + j) u, ?_, hP.swap hu hv⟩
      · rw [ixN_of (by omega) (by rw [List.length_map, hP.len]; omega), ei]
      · rw [ixN_of (by omega) (by rw [List.length_set, List.length_map, hP.len]; omega), eij]
      · rw [upd_same, set_map, set_map]
    · subst es
      exact ⟨.ref l, rfl, .inl ⟨l, _, rfl, sl_at hL, fun c nc => z c _ L (x1.trans (Ex.new nc)) ⟨upd_same, hP⟩⟩⟩
theorem ok__law_ring (T : TX K mg base) : FnOk P w K mg base CX0 1 (He.ga K "_law_ring") (fdK K "_law_ring") ["p", "first"] spRing := by
  refine T.F__law_ring.ok sc_law_ring (fun vs H Q E h => ?_) (fun cdv A outer s H vs Q E hr h => ?_)
  · obtain ⟨a, n, p, x, rfl, _⟩ := h
    rfl
  · obtain ⟨a, n, p, x, rfl, hp, h12, x0, xb, z⟩ := h
    refine ⟨_, (pss_cons (ps_par (i := 3) (j := 4) rfl sc_law_ring.nd rfl rfl (by decide) rfl rfl (pa_cons (pe_lst (pa_cons (pv 1) pa_nil)) (pa_cons (pe_ix (ixT (K := K) rfl) (pv 0) (pv 1) (fun _ _ => rfl)) pa_nil)) (by with_unfolding_all rfl))
      (pss_cons (ps_for PassesOwn.never rfl (pi_range1 (by rfl) T.n_range (pa_cons (pe_callB (lenS (K := K) rfl) (by rfl) T.n_len PySem.boot_len (pa_cons (pv 0) pa_nil)) pa_nil)) (pg_name (i := 2) sc_law_ring.nd rfl (.inl rfl)) (pss_one (ps_if (pt_cmpR op_ne (pv 4) (pv 1) (nomark _)) (pss_cons (ps_expr (pe_bm PySem.F.plainAttrs_list PySem.F.slot_list_append PySem.F.type_list_append mt_append (pv 3) (pa_cons (pv 4) pa_nil)))
      (pss_one (ps_set (i := 4) sc_law_ring.nd rfl (.inl rfl) (pe_ix (ixT (K := K) rfl) (pv 0) (pv 4) (fun _ _ => rfl))))) pss_nil)))
      (pss_one (ps_ret (pe_tupK (K := K) rfl (by rfl) T.n_tuple (pv 3)))))), ?_⟩
    walk_at "sx"
    have hlp : (p.map V.int).length = n := by rw [List.length_map, hp.is.len]
    obtain ⟨y, hy, y0, yb⟩ := hp.is.get (i := x.toNat) (by omega)
    refine ⟨by show 1 ≤ sizeLine; decide, fun l nl => ?_⟩
    have xl : Ex H (upd H l (.lst [V.int x])) := Ex.new nl
    refine ⟨p.map V.int, xl.t (.inl (.inl hp.at_)), .int y, at_int x0 hy, _, _, ⟨rfl, rfl⟩, .ref a, rfl, a, rfl, p.map V.int, .inr (xl.t (.inl (.inl hp.at_))), (n : Int), by rw [hlp], by omega, by omega,
      for_it walk_range (fun k σ H1 => ∃ y2 L pt, σ = [some (.ref a), some (.int x), y2, some (.ref l), some (.int pt)] ∧ Ex H H1 ∧ H1 l = some (.lst (L.map V.int)) ∧ Chain p x L pt ∧ L.Nodup ∧ (∀ y ∈ L, 0 ≤ y ∧ y < (n : Int)) ∧ 0 ≤ pt ∧ pt < n ∧ 0 < L.length ∧ (pt ≠ x → L.length = k + 1))
      ⟨none, [x], y, rfl, xl, upd_same, Chain.start.step hy, List.nodup_cons.mpr ⟨(fun z => by cases z), List.nodup_nil⟩, (fun z hz => by rw [List.mem_singleton.mp hz]; omega), y0, yb, by show 0 < 1; omega, fun _ => rfl⟩ (fun _ _ _ _ _ => trivial) (fun k u σ H1 H2 hk ⟨y2, L, pt, es, x1, hL, c, nd, bd, p0, pb, l0, lk⟩ ⟨e, ex⟩ => ?_) (fun σ H1 ⟨y2, L, pt, es, x1, hL, c, nd, bd, p0, pb, l0, lk⟩ => ?_)⟩
    · subst es e ex
      obtain ⟨nx, hnx, n0, nb⟩ := hp.is.get (i := pt.toNat) (by omega)
      have ll := bd_len nd bd
      walk_at "sx"
      refine ⟨rfl, ite2 (fun d => ?_) (fun d => ?_)⟩
      · have d : pt ≠ x := fun h => by
          rw [decide_eq_true h] at d
          cases d
        have hm : pt ∉ L := fun h => d (c.back hp.is nd bd h)
        have l1 := lk d
        simp only [tBM, rAppend]
        walk_at "sx"
        refine ⟨.inl ⟨rfl, _, sl_at hL⟩, _, hL, by rw [List.length_map]; exact small1000 (by omega), p.map V.int, (x1.own nl).t (.inl (.inl hp.at_)), .int nx, at_int p0 hnx, _, L ++ [pt], nx, ⟨rfl, rfl⟩, x1.own nl, by rw [upd_same, List.map_append]; rfl, c.step hnx, nd_more nd hm, bd_more bd p0 pb, n0, nb, by rw [List.length_append]; omega, fun _ => by rw [List.length_append, l1]; rfl⟩
      · have d : pt = x := by
          apply Classical.byContradiction
          intro h
          exact d (by rw [decide_eq_false h]; rfl)
        exact ⟨_, L, pt, ⟨rfl, rfl⟩, x1, hL, c, nd, bd, p0, pb, l0, fun h => absurd d h⟩
    · subst es
      have e : pt = x := by
        apply Classical.byContradiction
        intro g
        have l1 := lk g
        by_cases hm : pt ∈ L
        · exact g (c.back hp.is nd bd hm)
        · have l2 := bd_len (nd_more nd hm) (bd_more bd p0 pb)
          rw [List.length_append] at l2
          have l2 : L.length + 1 ≤ n := l2
          omega
      subst e
      have hd := c.hd
      rw [List.getElem?_append_left l0] at hd
      walk_at "sx"
      exact .inl ⟨_, sl_at hL, fun q nq => z q _ L (x1.trans (Ex.new nq)) (c.turn l0) nd hd bd upd_same⟩
theorem ok__law_least_power (T : TX K mg base) : FnOk P w K mg base CX0 2 (He.ga K "_law_least_power") (fdK K "_law_least_power") ["p"] spLeast := by
  refine T.F__law_least_power.ok sc_law_least_power (fun vs H Q E h => ?_) (fun cdv A outer s H vs Q E hr h => ?_)
  · obtain ⟨a, n, p, rfl, _⟩ := h
    rfl
  · obtain ⟨a, n, p, rfl, hp, hn, z⟩ := h
    refine ⟨_, (pss_cons (ps_set (i := 1) sc_law_least_power.nd rfl (.inl rfl) (pv 0))
      (pss_cons (ps_for PassesOwn.never rfl (pi_range2 (by rfl) T.n_range (pa_cons pe_int (pa_cons pe_int pa_nil))) (pg_name (i := 2) sc_law_least_power.nd rfl (.inl rfl)) (pss_cons (ps_if (pt_cmpR (eqD (K := K) rfl hr) (pv 1) (pe_call (ok__law_unit T) hr (by rfl) T.g__law_unit T.F__law_unit.kp T.b__law_unit .nil pass0 (pa_cons (pe_callB (lenS (K := K) rfl) (by rfl) T.n_len PySem.boot_len (pa_cons (pv 0) pa_nil)) pa_nil)) (nomark _)) (pss_one (ps_ret (pv 2))) pss_nil)
      (pss_one (ps_set (i := 1) sc_law_least_power.nd rfl (.inl rfl) (pe_call (ok__law_mul T) hr (by rfl) T.g__law_mul T.F__law_mul.kp T.b__law_mul .nil pass0 (pa_cons (pv 1) (pa_cons (pv 0) pa_nil)))))))
      (pss_one (ps_ret pe_int)))), ?_⟩
    walk_at "sx"
    have hlp : (p.map V.int).length = n := by rw [List.length_map, hp.is.len]
    refine ⟨1, 61, rfl, by omega, for_it walk_range (fun i σ H2 => ∃ c y2, σ = [some (.ref a), some (.ref c), y2] ∧ Ex H H2 ∧ Pm H2 c n (pwL n p (i + 1)) ∧ ∀ N, 1 ≤ N → N ≤ i → pwL n p N ≠ unitL n)
      ⟨a, none, rfl, .refl H, by rw [pwL_one hp.is]; exact hp, fun N a b => by omega⟩ (fun _ _ _ _ _ => trivial) (fun i x σ H2 H3 hi ⟨c, y2, es, x2, hc, hN⟩ ⟨e, ex⟩ => ?_) (fun σ H2 ⟨c, y2, es, x2, hc, hN⟩ => ?_)⟩
    · subst es e ex
      have hi : i < 60 := hi
      walk_at "sx"
      refine ⟨p.map V.int, .inr (x2.t (.inl (.inl hp.at_))), n, by rw [hlp], hn, fun u H4 x4 hu => ?_⟩
      refine ⟨_, _, dpT_ints (hc.ex x4).at_, dpT_ints hu.at_, shapedT_ints _, shapedT_ints _, ⟨_, rfl, ?_⟩⟩
      rw [eqvT_ints]
      refine ite2 (fun d => ?_) (fun d => ?_)
      · have d := of_decide_eq_true d
        have q := z (i + 1) H4 (x2.trans x4) (.inl ⟨by omega, by omega, d, fun N a b => hN N a (by omega)⟩)
        rwa [show (((i + 1 : Nat)) : Int) = 1 + (i : Int) by omega] at q
      · have d : pwL n p (i + 1) ≠ unitL n := fun h => d (decide_eq_true h)
        refine ⟨c, a, n, pwL n p (i + 1), p, rfl, hc.ex x4, hp.ex (x2.trans x4), hn, fun m H5 x5 hm => ?_⟩
        refine ⟨m, _, ⟨rfl, rfl⟩, (x2.trans x4).trans x5, hm, fun N a b => ?_⟩
        by_cases hNi : N ≤ i
        · exact hN N a hNi
        · rw [show N = i + 1 by omega]; exact d
    · subst es
      walk_at "sx"
      exact z 0 H2 x2 (.inr fun N a b => hN N a b)
theorem ok__law_blocks (T : TX K mg base) : FnOk P w K mg base CX0 3 (He.ga K "_law_blocks") (fdK K "_law_blocks") ["row"] (spBlocks K) := by
  refine T.F__law_blocks.ok sc_law_blocks (fun vs H Q E h => ?_) (fun cdv A outer s H vs Q E hr h => ?_)
  · obtain ⟨r, s, ns, rfl, _⟩ := h
    rfl
  · obtain ⟨r, s0, ns, rfl, hR, hS, z⟩ := h
    refine ⟨_, (pss_cons (ps_set (i := 1) sc_law_blocks.nd rfl (.inl rfl) (pe_lst pa_nil))
      (pss_cons (ps_for PassesOwn.never rfl (pi_range1 (by rfl) T.n_range (pa_cons pe_int pa_nil)) (pg_name (i := 2) sc_law_blocks.nd rfl (.inl rfl)) (pss_cons (ps_set (i := 3) sc_law_blocks.nd rfl (.inr rfl) (pe_op op_add pe_int (pe_call (ok__law_taken T) (hr.mono (by decide)) (by rfl) T.g__law_taken T.F__law_taken.kp T.b__law_taken .nil pass0 (pa_cons (pv 0) (pa_cons pe_int pa_nil)))))
      (pss_one (ps_if (pt_cmpR op_le (pe_op op_add (pe_callB (lenS (K := K) rfl) (by rfl) T.n_len PySem.boot_len (pa_cons (pv 1) pa_nil)) (pv 3)) pe_int (nomark _)) (pss_cons (ps_set (i := 4) sc_law_blocks.nd rfl (.inr rfl) (pe_callB (lenS (K := K) rfl) (by rfl) T.n_len PySem.boot_len (pa_cons (pv 1) pa_nil)))
      (pss_one (ps_set (i := 1) sc_law_blocks.nd rfl (.inl rfl) (pe_op op_cat (pv 1) (pe_lc (own := [("at", 5)]) (g := gName 5) (tt := tYes) rfl sc_law_blocks.nd (pi_range1 (by rfl) T.n_range (pa_cons (pv 3) pa_nil)) (blkOk_by (N := ["row", "found", "turn", "size", "begin", "at"]) (sc := defScope s_law_blocks) (by decide +kernel)) (fun _ _ _ _ _ => (pg_name (i := 5) sc_law_blocks.nd rfl (.inl rfl))) (fun _ _ _ _ _ => pts_nil) (fun _ _ _ _ _ => (pe_op op_add (pv 4) (pe_op op_mod (pe_op op_add (pv 5) pe_int) (pv 3))))))))) pss_nil))))
      (pss_one (ps_ret (pe_call (ok__law_conj T) hr (by rfl) T.g__law_conj T.F__law_conj.kp T.b__law_conj .nil pass0 (pa_cons (pe_tupK (K := K) rfl (by rfl) T.n_tuple (pv 1)) (pa_cons (pe_call (ok__law_perm T) hr (by rfl) T.g__law_perm T.F__law_perm.kp T.b__law_perm .nil pass0 (pa_cons (pv 0) (pa_cons (pe_callB (lenS (K := K) rfl) (by rfl) T.n_len PySem.boot_len (pa_cons (pv 1) pa_nil)) pa_nil))) pa_nil))))))), ?_⟩
    walk_at "sx"
    refine ⟨Nat.zero_le _, fun l nl => ?_⟩
    have xl : Ex H (upd H l (.lst [])) := Ex.new nl
    refine ⟨4, rfl, by omega, by omega, for_it walk_range (fun i σ H1 => ∃ y2 y3 y4 y5 f L m, σ = [some (.ref r), some (.ref f), y2, y3, y4, y5] ∧ Ex H H1 ∧ H1 f = some (.lst (L.map V.int)) ∧ IsPm m L ∧ m ≤ 12 ∧ (1 ≤ i → 1 ≤ m))
      ⟨none, none, none, none, l, [], 0, rfl, xl, upd_same, ⟨rfl, List.nodup_nil, (fun _ h => by cases h)⟩, by omega, by omega⟩ (fun _ _ _ _ _ => trivial) (fun i x σ H1 H2 hi ⟨y2, y3, y4, y5, f, L, m, es, x1, hf, hP, m12, mi⟩ ⟨e, ex⟩ => ?_) (fun σ H1 ⟨y2, y3, y4, y5, f, L, m, es, x1, hf, hP, m12, mi⟩ => ?_)⟩
    · subst es e ex
      have hlf : (L.map V.int).length = m := by rw [List.length_map, hP.len]
      walk_at "sx"
      refine ⟨r, s0, 7, ns, rfl, x1.row _ _ hR, x1.l ints_norow hS, by omega, by omega, fun j H3 x3 hj => ⟨j, rfl, ?_⟩⟩
      have x13 := x1.trans x3
      have hf3 := x3.i hf
      obtain ⟨s, es, s1, s7⟩ : ∃ s : Nat, 1 + (j : Int) = s ∧ 1 ≤ s ∧ s ≤ 7 := ⟨1 + j, by omega, by omega, by omega⟩
      rw [es]
      refine ⟨L.map V.int, .inl (sl_at hf3), ?_⟩
      rw [hlf]
      refine ite2 (fun d => ?_) (fun d => ?_)
      · have d := of_decide_eq_true d
        refine ⟨L.map V.int, .inl (sl_at hf3), ?_⟩
        rw [hlf]
        refine ⟨.int s, rfl, s, rfl, by omega, by omega, fun D nD => ?_⟩
        have ens : ((s : Nat) : Int).toNat = s := by omega
        refine lc_it walk_range (fun k H4 => Ex H3 H4 ∧ H4 D = some (.lst ((blockI m s k).map V.int))) ⟨Ex.new nD, upd_same⟩ (fun _ _ _ _ => trivial) (fun k x H4 H5 hk ⟨x4, hD⟩ ⟨e, ex⟩ => ?_) (fun H4 ⟨x4, hD⟩ => ?_)
        · subst e ex
          rw [ens] at hk
          refine ⟨rfl, yesI ?_⟩
          walk_at "sx"
          refine ⟨by omega, _, hD, ?_, x4.own nD, ?_⟩
          · unfold blockI
            rw [List.length_map, List.length_map, List.length_range]
            exact small1000 (by omega)
          · have ev : (m : Int) + (0 + (k : Int) + 1) % (s : Int) = ((m + (k + 1) % s : Nat) : Int) := by
              rw [Int.natCast_add, Int.natCast_emod, Int.natCast_add, Int.zero_add]
              rfl
            rw [upd_same, ev]
            unfold blockI
            rw [List.range_succ, List.map_append, List.map_append]
            rfl
        · rw [ens] at hD
          have hP2 := block_pm hP s1
          have l2 := hP2.len
          rw [List.length_append] at l2
          refine ⟨f, D, L.map V.int, (blockI m s s).map V.int, rfl, rfl, x4.i hf3, hD, by rw [List.length_map, List.length_map]; exact Nat.le_of_lt (small1000 (by omega)), fun g ng => ?_⟩
          exact ⟨_, _, _, _, g, ⟨rfl, rfl, rfl, rfl, rfl⟩, (x13.trans x4).trans (Ex.new ng), L ++ blockI m s s, by rw [upd_same, List.map_append], m + s, hP2, by omega, fun _ => by omega⟩
      · exact ⟨_, _, _, _, f, ⟨rfl, rfl, rfl, rfl, rfl⟩, x13, L, hf3, m, hP, m12, fun _ => by
          have d : ¬ ((m : Int) + s ≤ 12) := fun h => d (decide_eq_true h)
          omega⟩
    · subst es
      have m1 := mi (by decide)
      have hlf : (L.map V.int).length = m := by rw [List.length_map, hP.len]
      walk_at "sx"
      refine .inl ⟨_, sl_at hf, fun q nq => ?_⟩
      have xq := x1.trans (Ex.new (o := .tup (L.map V.int)) nq)
      refine ⟨L.map V.int, .inl (sl_at (by rw [upd_ne (ne_of_none hf nq)]; exact hf)), r, s0, m, ns, by rw [hlf], xq.row _ _ hR, xq.l ints_norow hS, m1, by omega, fun g H2 pg x2 hg => ?_⟩
      have hq : Pm H2 q m L := ⟨x2.st _ _ upd_same trivial, hP⟩
      exact ⟨q, g, m, L, pg, rfl, hq, hg, by omega, fun c H3 u x3 hu _ => z c H3 m u ((xq.trans x2).trans x3) m1 m12 hu⟩
end
end KL
namespace KL
open PySem PySem.Spec PyProof.Rows L2 GA GxR
local macro_rules | `(tactic| walk_at "sx") => `(tactic| simp only [L2.start, List.map_cons, List.map_nil, List.length_cons, List.length_nil, Nat.reduceAdd, Nat.reduceSub, List.replicate, List.cons_append, List.nil_append, tRet, tSeq, tNext, tIfS, tAsg, tDrop, gName, gSub, rSetL, gTup, gCons, gNil, tB, tNot, tTest, tAndV, tOrV, tNotV, tAnd, tOr, tIf, tOp, tUn, tThenZ, tThen, r1, kTyp, kTup, tVar, tC, tChain, tCB, tCons, tNil, rI0, rI, rEq, rNe, rRep, rIxT, rIxL, tCall, tTup, tLst, tTupRg, tLstRg, tRg1, tRg2, tPar, List.getElem?_cons_zero, List.getElem?_cons_succ, List.set_cons_zero, List.set_cons_succ, Option.some.injEq, exists_eq_left', exists_eq_left, V.ty.injEq, V.int.injEq, V.bl.injEq, V.ref.injEq, List.cons.injEq, and_true, true_and, wipe, exists_and_left, List.append_nil, reduceCtorEq, false_and, exists_false, false_or, or_false])
section
variable {P : Program} {w : World} {K : PySem.W.Frag} {mg : Str → Option Value} {base : Heap}
def spLaw (K : PySem.W.Frag) : Sp := fun vs H Q _ => ∃ (a : Addr) (ns : List Int), vs = [.ref a] ∧ SqL K H a (ns.map V.int) ∧ TabG H (PP K) ∧ ∀ H', Q (.bl true) H'
theorem two {G : Addr → Hp → Prop} {A : Prop} {H : Hp} (rest : ∀ (ap : Addr) (H2 : Hp) (n : Nat) (p : List Int), Ex H H2 → 1 ≤ n → n ≤ 12 → Pm H2 ap n p → G ap H2) (k : (∀ (ap : Addr) (H2 : Hp) (n : Nat) (p : List Int), Ex H H2 → 1 ≤ n → n ≤ 12 → Pm H2 ap n p → G ap H2) → A) : A := k rest
theorem fin1 {sg e : Int} {A B : Prop} (h : sg = e) (r : B) : if (!decide (sg = e)) = true then A else B := by rw [decide_eq_true h]; exact iteF r
theorem two2 {G : Hp → Prop} {A : Prop} {H : Hp} (rest : ∀ H2 : Hp, Ex H H2 → G H2) (k : (∀ H2 : Hp, Ex H H2 → G H2) → A) : A := k rest
theorem ok_law (T : TX K mg base) : FnOk P w K mg base CX0 9 (He.ga K "law") (fdK K "law") ["script"] (spLaw K) := by
  refine T.F_law.ok sclaw (fun vs H Q E h => ?_) (fun cdv A outer s H vs Q E hr h => ?_)
  · obtain ⟨a, ns, rfl, _⟩ := h
    rfl
  · obtain ⟨a, ns, rfl, hS, hT, q⟩ := h
    refine ⟨_, (pss_cons (ps_set (i := 1) sclaw.nd rfl (.inl rfl) (pe_lst (pa_cons (pv 0) (pa_cons pe_int (pa_cons pe_int (pa_cons pe_int pa_nil))))))
      (pss_cons (ps_set (i := 2) sclaw.nd rfl (.inr rfl) (pe_ifExp (pt_cmpR op_eq (pe_call (ok__law_taken T) (hr.mono (by decide)) (by rfl) T.g__law_taken T.F__law_taken.kp T.b__law_taken .nil pass0 (pa_cons (pv 1) (pa_cons pe_int pa_nil))) pe_int (nomark _)) (pe_call (ok__law_blocks T) (hr.mono (by decide)) (by rfl) T.g__law_blocks T.F__law_blocks.kp T.b__law_blocks .nil pass0 (pa_cons (pv 1) pa_nil)) (pe_call (ok__law_perm T) (hr.mono (by decide)) (by rfl) T.g__law_perm T.F__law_perm.kp T.b__law_perm .nil pass0 (pa_cons (pv 1) (pa_cons (pe_op op_add pe_int (pe_call (ok__law_taken T) (hr.mono (by decide)) (by rfl) T.g__law_taken T.F__law_taken.kp T.b__law_taken .nil pass0 (pa_cons (pv 1) (pa_cons pe_int pa_nil)))) pa_nil)))))
      (pss_cons (ps_set (i := 3) sclaw.nd rfl (.inr rfl) (pe_lc (own := [("point", 9)]) (g := gName 9) (tt := tYes) rfl sclaw.nd (pi_range1 (by rfl) T.n_range (pa_cons (pe_callB (lenS (K := K) rfl) (by rfl) T.n_len PySem.boot_len (pa_cons (pv 2) pa_nil)) pa_nil)) (blkOk_by (N := ["script", "row", "p", "rings", "whole", "lengths", "least", "pairs", "one", "point", "ring", "size", "other"]) (sc := defScope slaw) (by decide +kernel)) (fun _ _ _ _ _ => (pg_name (i := 9) sclaw.nd rfl (.inl rfl))) (fun _ _ _ _ _ => pts_nil) (fun _ _ _ _ _ => (pe_call (ok__law_ring T) (hr.mono (by decide)) (by rfl) T.g__law_ring T.F__law_ring.kp T.b__law_ring .nil pass0 (pa_cons (pv 2) (pa_cons (pv 9) pa_nil))))))
      (pss_cons (ps_setLc (i := 4) (own := [("point", 9)]) (g := gName 9)  rfl sclaw.nd rfl rfl (sw_true rfl rfl rfl (by decide +kernel)) (pi_range1 (by rfl) T.n_range (pa_cons (pe_callB (lenS (K := K) rfl) (by rfl) T.n_len PySem.boot_len (pa_cons (pv 2) pa_nil)) pa_nil)) (blkOk_by (N := ["script", "row", "p", "rings", "whole", "lengths", "least", "pairs", "one", "point", "ring", "size", "other"]) (sc := defScope slaw) (by decide +kernel)) (fun _ _ _ _ _ => (pg_name (i := 9) sclaw.nd rfl (.inl rfl))) (fun _ _ _ _ _ => (pts_one (pt_cmpR op_eq (pe_callB (cr_minT (K := K) rfl) (by rfl) T.n_min (by decide +kernel) (pa_cons (pe_ix (ixL (K := K) rfl) (pv 3) (pv 9) (fun _ _ => rfl)) pa_nil)) (pv 9) (nomark _)))) (fun _ _ _ _ _ => (pe_ix (ixL (K := K) rfl) (pv 3) (pv 9) (fun _ _ => rfl))))
      (pss_cons (ps_if (pt_not (pt_val (pe_call (ok__law_alike2 T) (hr.mono (by decide)) (by rfl) T.g__law_alike T.F__law_alike.kp T.b__law_alike .nil pass0 (pa_cons (pe_call (ok_cycles T) hr (by rfl) T.g_cycles T.F_cycles.kp T.b_cycles .nil pass0 (pa_cons (pv 2) pa_nil)) (pa_cons (pe_tupK (K := K) rfl (by rfl) T.n_tuple (pe_lc (own := [("ring", 10)]) (g := gName 10)  rfl sclaw.nd (piL (K := K) rfl (pv 4)) (blkOk_by (N := ["script", "row", "p", "rings", "whole", "lengths", "least", "pairs", "one", "point", "ring", "size", "other"]) (sc := defScope slaw) (by decide +kernel)) (fun _ _ _ _ _ => (pg_name (i := 10) sclaw.nd rfl (.inl rfl))) (fun _ _ _ _ _ => (pts_one (pt_cmpR op_gt (pe_callB (lenS (K := K) rfl) (by rfl) T.n_len PySem.boot_len (pa_cons (pv 10) pa_nil)) pe_int (nomark _)))) (fun _ _ _ _ _ => (pv 10)))) pa_nil))))) (pss_one (ps_ret pe_bl)) pss_nil)
      (pss_cons (ps_set (i := 5) sclaw.nd rfl (.inl rfl) (pe_callB (srtL (K := K) rfl) (by rfl) T.n_sorted (by decide +kernel) (pa_cons (pe_lc (own := [("ring", 10)]) (g := gName 10) (tt := tYes) rfl sclaw.nd (piL (K := K) rfl (pv 4)) (blkOk_by (N := ["script", "row", "p", "rings", "whole", "lengths", "least", "pairs", "one", "point", "ring", "size", "other"]) (sc := defScope slaw) (by decide +kernel)) (fun _ _ _ _ _ => (pg_name (i := 10) sclaw.nd rfl (.inl rfl))) (fun _ _ _ _ _ => pts_nil) (fun _ _ _ _ _ => (pe_callB (lenS (K := K) rfl) (by rfl) T.n_len PySem.boot_len (pa_cons (pv 10) pa_nil)))) pa_nil)))
      (pss_cons (ps_if (pt_not (pt_val (pe_call (ok__law_alike T) (hr.mono (by decide)) (by rfl) T.g__law_alike T.F__law_alike.kp T.b__law_alike .nil pass0 (pa_cons (pe_call (ok_cycle_lengths T) hr (by rfl) T.g_cycle_lengths T.F_cycle_lengths.kp T.b_cycle_lengths .nil pass0 (pa_cons (pv 2) pa_nil)) (pa_cons (pe_tupK (K := K) rfl (by rfl) T.n_tuple (pv 5)) pa_nil))))) (pss_one (ps_ret pe_bl)) pss_nil)
      (pss_cons (ps_set (i := 6) sclaw.nd rfl (.inr rfl) (pe_call (ok__law_least_power T) (hr.mono (by decide)) (by rfl) T.g__law_least_power T.F__law_least_power.kp T.b__law_least_power .nil pass0 (pa_cons (pv 2) pa_nil)))
      (pss_cons (ps_if (PW.pt (pw_or (pt_not (pt_val (pe_call (ok__law_alike0 T) (hr.mono (by decide)) (by rfl) T.g__law_alike T.F__law_alike.kp T.b__law_alike .nil pass0 (pa_cons (pe_call (ok_element_order T) hr (by rfl) T.g_element_order T.F_element_order.kp T.b_element_order .nil pass0 (pa_cons (pv 2) pa_nil)) (pa_cons (pv 6) pa_nil))))) (pw_or1 (pt_cmpR (neD (K := K) rfl hr) (pe_lc (own := [("size", 11)]) (g := gName 11)  rfl sclaw.nd (piL (K := K) rfl (pv 5)) (blkOk_by (N := ["script", "row", "p", "rings", "whole", "lengths", "least", "pairs", "one", "point", "ring", "size", "other"]) (sc := defScope slaw) (by decide +kernel)) (fun _ _ _ _ _ => (pg_name (i := 11) sclaw.nd rfl (.inl rfl))) (fun _ _ _ _ _ => (pts_one (pt_cmpR op_ne (pe_op op_mod (pv 6) (pv 11)) pe_int (nomark _)))) (fun _ _ _ _ _ => (pv 11))) (pe_lst pa_nil) (nomark _))))) (pss_one (ps_ret pe_bl)) pss_nil)
      (pss_cons (ps_set (i := 7) sclaw.nd rfl (.inl rfl) pe_int)
      (pss_cons (ps_for PassesOwn.never rfl (pi_range1 (by rfl) T.n_range (pa_cons (pe_callB (lenS (K := K) rfl) (by rfl) T.n_len PySem.boot_len (pa_cons (pv 2) pa_nil)) pa_nil)) (pg_name (i := 8) sclaw.nd rfl (.inr rfl)) (pss_one (ps_set (i := 7) sclaw.nd rfl (.inl rfl) (pe_op op_add (pv 7) (pe_callB (lenS (K := K) rfl) (by rfl) T.n_len PySem.boot_len (pa_cons (pe_lc (own := [("other", 12)]) (g := gName 12)  rfl sclaw.nd (pi_range1 (by rfl) T.n_range (pa_cons (pv 8) pa_nil)) (blkOk_by (N := ["script", "row", "p", "rings", "whole", "lengths", "least", "pairs", "one", "point", "ring", "size", "other"]) (sc := defScope slaw) (by decide +kernel)) (fun _ _ _ _ _ => (pg_name (i := 12) sclaw.nd rfl (.inl rfl))) (fun _ _ _ _ _ => (pts_one (pt_cmpR op_gt (pe_ix (ixT (K := K) rfl) (pv 2) (pv 12) (fun _ _ => rfl)) (pe_ix (ixT (K := K) rfl) (pv 2) (pv 8) (fun _ _ => rfl)) (nomark _)))) (fun _ _ _ _ _ => (pv 12))) pa_nil))))))
      (pss_cons (ps_if (pt_not (pt_val (pe_call (ok__law_alike0 T) (hr.mono (by decide)) (by rfl) T.g__law_alike T.F__law_alike.kp T.b__law_alike .nil pass0 (pa_cons (pe_call (ok_sign T) hr (by rfl) T.g_sign T.F_sign.kp T.b_sign .nil pass0 (pa_cons (pv 2) pa_nil)) (pa_cons (pe_ifExp (pt_cmpR op_eq (pe_op op_mod (pv 7) pe_int) pe_int (nomark _)) pe_int (pe_un un_neg pe_int)) pa_nil))))) (pss_one (ps_ret pe_bl)) pss_nil)
      (pss_one (ps_ret (pe_call (ok__law_alike T) (hr.mono (by decide)) (by rfl) T.g__law_alike T.F__law_alike.kp T.b__law_alike .nil pass0 (pa_cons (pe_call (ok_support T) hr (by rfl) T.g_support T.F_support.kp T.b_support .nil pass0 (pa_cons (pv 2) pa_nil)) (pa_cons (pe_tupK (K := K) rfl (by rfl) T.n_tuple (pe_lc (own := [("point", 9)]) (g := gName 9)  rfl sclaw.nd (pi_range1 (by rfl) T.n_range (pa_cons (pe_callB (lenS (K := K) rfl) (by rfl) T.n_len PySem.boot_len (pa_cons (pv 2) pa_nil)) pa_nil)) (blkOk_by (N := ["script", "row", "p", "rings", "whole", "lengths", "least", "pairs", "one", "point", "ring", "size", "other"]) (sc := defScope slaw) (by decide +kernel)) (fun _ _ _ _ _ => (pg_name (i := 9) sclaw.nd rfl (.inl rfl))) (fun _ _ _ _ _ => (pts_one (pt_cmpR op_ne (pe_ix (ixT (K := K) rfl) (pv 2) (pv 9) (fun _ _ => rfl)) (pv 9) (nomark _)))) (fun _ _ _ _ _ => (pv 9)))) pa_nil))))))))))))))))), ?_⟩
    walk_at "sx"
    refine ⟨by show 4 ≤ sizeLine; decide, fun r nr => ?_⟩
    have xr : Ex H (upd H r (.lst [.ref a, .int 0, .int 3003, .int 0])) := Ex.new nr
    have R0 : RowAt (upd H r (.lst [.ref a, .int 0, .int 3003, .int 0])) r a := ⟨_, _, _, upd_same, by omega, by omega, by omega, by omega⟩
    have S0 := xr.l ints_norow hS
    refine ⟨r, a, 2, ns, rfl, R0, S0, by omega, by omega, fun j H1 x1 hj => ⟨rfl, ?_⟩⟩
    have xr1 := xr.trans x1
    refine two (H := H1) ?_ (fun rest => ite2 (fun c => ⟨r, a, ns, rfl, x1.row _ _ R0, xr1.l ints_norow hS, fun c H2 n p x2 h1 h12 hp => rest c H2 n p x2 h1 h12 hp⟩) (fun c => ⟨r, a, 12, ns, rfl, x1.row _ _ R0, xr1.l ints_norow hS, by omega, by omega, fun j2 H2 x2 hj2 => ?_⟩))
    · intro ap H2 n p x2 h1 h12 hp2
      have xx2 := xr1.trans x2
      have hlp : (p.map V.int).length = n := by rw [List.length_map, hp2.is.len]
      have enn : ((n : Nat) : Int).toNat = n := by omega
      refine ⟨.ref ap, rfl, ap, rfl, p.map V.int, .inr (.inl (.inl hp2.at_)), (n : Int), by rw [hlp], by omega, by omega, fun D nD => ?_⟩
      refine lc_it walk_range (fun i H3 => Ex H2 H3 ∧ ∃ Cs : List Addr, H3 D = some (.lst (Cs.map V.ref)) ∧ RingsAt H3 Cs n p i) ⟨Ex.new nD, [], upd_same, rfl, fun k hk => absurd hk (Nat.not_lt_zero k)⟩ (fun _ _ _ _ => trivial) (fun i x H3 H4 hi ⟨x3, Cs, hD, hC⟩ ⟨e, ex⟩ => ?_) (fun H3 ⟨x3, Cs, hD, hC⟩ => ?_)
      · subst e ex
        rw [enn] at hi
        refine ⟨rfl, yesI ?_⟩
        walk_at "sx"
        refine ⟨ap, n, p, 0 + (i : Int), rfl, hp2.ex x3, h12, by omega, by omega, fun c H4 s x4 t nd hd bd hc => ?_⟩
        have hD4 := x4.st _ _ hD refs_norow
        have hs : Ring n p i s := ⟨t, nd, by rw [hd, Int.zero_add], bd⟩
        refine ⟨_, hD4, by rw [List.length_map, hC.len]; exact small1000 (by omega), (x3.trans x4).own nD, Cs ++ [c], by rw [upd_same, List.map_append]; rfl, ?_⟩
        exact ((hC.ex x4).upd hD4 (fun _ z => by cases z)).more (by rw [upd_ne (fun z => by rw [z, hD4] at hc; cases hc)]; exact hc) hs
      rw [enn] at hC
      have hp3 := hp2.ex x3
      have xx3 := xx2.trans x3
      refine ⟨.ref ap, rfl, ap, rfl, p.map V.int, .inr (.inl (.inl hp3.at_)), (n : Int), by rw [hlp], by omega, by omega, fun D2 nD2 => ?_⟩
      refine lc_it walk_range (fun i H4 => Ex H3 H4 ∧ ∃ (Bs : List Addr) (W : List (List Int)), H4 D2 = some (.lst (Bs.map V.ref)) ∧ RowsAt H4 Bs W ∧ (∀ R, Full n p R → W = fl R i) ∧ W.length ≤ i) ⟨Ex.new nD2, [], [], upd_same, .nil, (fun R F => (fl_zero F).symm), Nat.le_refl _⟩ (fun _ _ _ _ => trivial) (fun i x H4 H5 hi ⟨x4, Bs, W, hD2, hB, hW, lW⟩ ⟨e, ex⟩ => ?_) (fun H4 ⟨x4, Bs, W, hD2, hB, hW, lW⟩ => ?_)
      · subst e ex
        rw [enn] at hi
        refine ⟨rfl, ?_⟩
        obtain ⟨c, s, hc, hct, hs⟩ := (hC.ex x4).at_ i hi
        have sne := hs.tn.ne
        have hat : atI (Cs.map V.ref) (0 + (i : Int)) = some (.ref c) := by
          rw [Int.zero_add]
          exact atI_nat (by rw [List.getElem?_map, hc]; rfl)
        have hD4 := x4.st _ _ hD refs_norow
        walk_at "sx"
        refine ⟨Cs.map V.ref, sl_at hD4, .ref c, hat, c, s, rfl, .inl (.inl hct), sne, fun m hm hmin => ⟨rfl, ite2 (fun d => ?_) (fun d => ?_)⟩⟩
        · have em : m = 0 + (i : Int) := V.int.inj (of_decide_eq_true d)
          refine ⟨Cs.map V.ref, sl_at hD4, .ref c, hat, _, hD2, by rw [List.length_map, hB.len]; exact small1000 (by omega), x4.own nD2, Bs ++ [c], by rw [upd_same, List.map_append]; rfl, W ++ [s], ?_, fun R F => ?_, by rw [List.length_append]; exact Nat.succ_le_succ lW⟩
          · exact (hB.upd hD2 (fun _ z => by cases z)).more (by rw [upd_ne (fun z => by rw [z, hD2] at hct; cases hct)]; exact hct)
          · rw [fl_yes hp2.is F hs hi (fun y hy => by have := hmin y hy; omega), ← hW R F]
        · have em : m ≠ i := fun z => d (decide_eq_true (by rw [z, Int.zero_add]))
          have mi := hmin _ (List.mem_of_getElem? hs.hd)
          exact ⟨x4, Bs, hD2, W, hB, fun R F => by rw [fl_no hp2.is F hs hm (by omega), hW R F], by omega⟩
      rw [enn] at hW lW
      have hp4 := hp3.ex x4
      have xx4 := xx3.trans x4
      refine ⟨ap, n, p, rfl, hp4, h1, h12, xx4.tab _ hT, fun cc H5 R1 A1 x5 F1 hR1 hcc => ?_⟩
      have eW1 : W = R1 := by rw [hW R1 F1, fl_all F1]
      subst eW1
      have rl : ∀ s ∈ W, s.length ≤ n := fun s hs => bd_len (F1.ring hs).nd (F1.ring hs).bd
      have hD25 := x5.st _ _ hD2 refs_norow
      have lBW : (Bs.map V.ref).length = W.length := by rw [List.length_map, hB.len]
      have xx5 := xx4.trans x5
      refine ⟨.ref D2, rfl, D2, rfl, ⟨_, sl_at hD25⟩, fun D3 nD3 => ?_⟩
      refine lc_it (walk_list (xs := Bs.map V.ref)) (fun i H6 => ∃ Es : List Addr, Ex H5 H6 ∧ H6 D3 = some (.lst (Es.map V.ref)) ∧ RowsAt H6 Es ((W.take i).filter fun r => decide (1 < r.length))) ⟨[], Ex.new nD3, upd_same, .nil⟩ (fun i H6 _ ⟨_, h, _⟩ => sl_at (h.st _ _ hD25 refs_norow)) (fun i x H6 H7 hi ⟨Es, x6, hD3, hE⟩ ⟨e, hx⟩ => ?_) (fun H6 ⟨Es, x6, hD3, hE⟩ => ?_)
      · subst e
        rw [lBW] at hi
        have hr : W[i]? = some W[i] := List.getElem?_eq_getElem hi
        obtain ⟨b, hb, hbt⟩ := (hB.ex (x5.trans x6)).at_ i _ hr
        generalize hri : W[i] = s at hr hbt
        have eb : x = .ref b := by
          rw [List.getElem?_map, hb] at hx
          exact (Option.some.inj hx).symm
        subst eb
        refine ⟨rfl, ?_⟩
        have et : W.take (i + 1) = W.take i ++ [s] := by rw [List.take_add_one, hr]; rfl
        walk_at "sx"
        refine ⟨s.map V.int, .inr (.inl (.inl hbt)), ?_⟩
        rw [List.length_map, et]
        have lE : Es.length ≤ W.length := by
          rw [hE.len]
          exact Nat.le_trans (List.length_filter_le ..) (by rw [List.length_take]; omega)
        refine ite2 (fun d => ?_) (fun d => ?_)
        · have d : 1 < s.length := by have := of_decide_eq_true d; omega
          refine ⟨_, hD3, by rw [List.length_map]; exact small1000 (by omega), x6.own nD3, Es ++ [b], by rw [upd_same, List.map_append]; rfl, ?_⟩
          rw [List.filter_append, List.filter_cons_of_pos (by rw [decide_eq_true d]), List.filter_nil]
          exact (hE.upd hD3 (fun _ z => by cases z)).more (by rw [upd_ne (fun z => by rw [z, hD3] at hbt; cases hbt)]; exact hbt)
        · have d : ¬ 1 < s.length := fun h => d (decide_eq_true (by omega))
          refine ⟨x6, Es, hD3, ?_⟩
          rw [List.filter_append, List.filter_cons_of_neg (by rw [decide_eq_false d]; exact Bool.false_ne_true), List.filter_nil, List.append_nil]
          exact hE
      rw [lBW, List.take_length] at hE
      refine .inl ⟨D3, rfl, _, sl_at hD3, fun q1 nq1 => ?_⟩
      have x6' := x6.trans (Ex.new (o := .tup (Es.map V.ref)) nq1)
      refine ⟨cc, q1, A1, Es, _, rfl, x6'.st _ _ hcc trivial, upd_same, hR1.ex x6', hE.new nq1, Nat.le_trans (List.length_filter_le ..) (by omega), fun s hs => Nat.le_trans (rl s (List.mem_filter.mp hs).1) (by omega), fun H7 x7 => ⟨true, rfl, iteF ?_⟩⟩
      have x57 := x6'.trans x7
      have xx7 := xx5.trans x57
      have hp7 := (hp4.ex x5).ex x57
      have hB7 := hB.ex (x5.trans x57)
      have hD27 := x57.st _ _ hD25 refs_norow
      have lL : (lensL W).length = W.length := List.length_map ..
      refine ⟨.ref D2, rfl, D2, rfl, ⟨_, sl_at hD27⟩, fun D4 nD4 => ?_⟩
      refine lc_it (walk_list (xs := Bs.map V.ref)) (fun i H8 => Ex H7 H8 ∧ H8 D4 = some (.lst (((lensL W).take i).map V.int))) ⟨Ex.new nD4, upd_same⟩ (fun i H8 _ h => sl_at (h.1.st _ _ hD27 refs_norow)) (fun i x H8 H9 hi ⟨x8, hD4⟩ ⟨e, hx⟩ => ?_) (fun H8 ⟨x8, hD4⟩ => ?_)
      · subst e
        rw [lBW] at hi
        have hr : W[i]? = some W[i] := List.getElem?_eq_getElem hi
        obtain ⟨b, hb, hbt⟩ := (hB7.ex x8).at_ i _ hr
        generalize hri : W[i] = s at hr hbt
        have eb : x = .ref b := by
          rw [List.getElem?_map, hb] at hx
          exact (Option.some.inj hx).symm
        subst eb
        refine ⟨rfl, yesI ?_⟩
        walk_at "sx"
        refine ⟨s.map V.int, .inr (.inl (.inl hbt)), _, hD4, ?_, x8.own nD4, ?_⟩
        · rw [List.length_map, List.length_take]
          exact small1000 (by omega)
        · have e1 : (lensL W)[i]? = some (s.length : Int) := by unfold lensL; rw [List.getElem?_map, hr]; rfl
          rw [upd_same, List.take_add_one, e1, List.length_map, List.map_append]
          rfl
      rw [lBW, ← lL, List.take_length] at hD4
      refine ⟨D4, lensL W, rfl, sl_at hD4, fun ls q4 hq4 hs4 nq4 => ?_⟩
      have x8' := x8.trans (Ex.new (o := .lst (ls.map V.int)) nq4)
      have lls : ls.length = W.length := by rw [hq4.length_eq, lL]
      have xx8 := xx7.trans x8'
      refine ⟨ap, n, p, rfl, hp7.ex x8', h1, h12, xx8.tab _ hT, fun c5 H9 R2 ms x9 F2 hq5 hs5 hc5 => .inl ⟨q4, rfl, ls.map V.int, sl_at (x9.i upd_same), fun q5 nq5 => ?_⟩⟩
      have eW2 : W = R2 := by rw [hW R2 F2, fl_all F2]
      subst eW2
      have els := srt_same hq5 hq4 hs5 hs4
      subst els
      have x9' := x9.trans (Ex.new (o := .tup (ms.map V.int)) nq5)
      refine ⟨c5, q5, ms, rfl, (Ex.new nq5).st _ _ hc5 trivial, upd_same, by omega, fun H10 x10 => ⟨true, rfl, iteF ?_⟩⟩
      have x710 := (x8'.trans x9').trans x10
      have hp10 := hp7.ex x710
      have xx10 := xx7.trans x710
      have hls : H10 q4 = some (.lst (ms.map V.int)) := (x9'.trans x10).i upd_same
      refine ⟨ap, n, p, rfl, hp10, by omega, fun o H11 x11 ho => ?_⟩
      have hp11 := hp10.ex x11
      have xx11 := xx10.trans x11
      refine ⟨ap, n, p, rfl, hp11, h1, h12, xx11.tab _ hT, fun o2 H12 R3 x12 F3 o21 od om => ?_⟩
      have eW3 : W = R3 := by rw [hW R3 F3, fl_all F3]
      subst eW3
      have eo : o2 = o ∧ 1 ≤ o := by
        have un := F3.cyc.unit_of hp2.is F3.all od
        obtain ⟨N0, n1, n60, hN0⟩ := F3.cyc.period hp2.is F3.all h12
        rcases ho with ⟨a1, a2, a3, a4⟩ | g
        · have dv := Nat.le_of_dvd (by omega) (om o fun s hs => F3.cyc.dvd hp2.is hs a3)
          exact ⟨Nat.le_antisymm dv (Nat.le_of_not_lt fun z => a4 o2 o21 z un), a1⟩
        · exact absurd hN0 (g N0 n1 n60)
      obtain ⟨eo, o1⟩ := eo
      subst eo
      refine ⟨o2, o2, rfl, fun H13 x13 => ⟨_, rfl, ?_⟩⟩
      have xx13 := (xx11.trans x12).trans x13
      have hp13 := (hp11.ex x12).ex x13
      have hls13 := (x11.trans (x12.trans x13)).i hls
      rw [decide_eq_true rfl]
      refine iteF ⟨.ref q4, rfl, q4, rfl, ⟨_, sl_at hls13⟩, fun D5 nD5 => ?_⟩
      refine lc_it (walk_list (xs := ms.map V.int)) (fun i H14 => Ex H13 H14 ∧ H14 D5 = some (.lst [])) ⟨Ex.new nD5, upd_same⟩ (fun i H14 _ h => sl_at (h.1.i hls13)) (fun i x H14 H15 hi ⟨x14, hD5⟩ ⟨e, hx⟩ => ?_) (fun H14 ⟨x14, hD5⟩ => ?_)
      · subst e
        rw [List.length_map] at hi
        have hv : ms[i]? = some ms[i] := List.getElem?_eq_getElem hi
        generalize ms[i] = v at hv
        have ev : x = .int v := by
          rw [List.getElem?_map, hv] at hx
          exact (Option.some.inj hx).symm
        obtain ⟨s, hs, es⟩ := List.mem_map.mp (hq4.mem_iff.mp (List.mem_of_getElem? hv))
        subst ev es
        have s0 := (F3.cyc.tn s hs).ne
        have dz : (o2 : Int) % (s.length : Int) = 0 := Int.emod_eq_zero_of_dvd (Int.natCast_dvd_natCast.mpr (od s hs))
        refine ⟨rfl, ?_⟩
        walk_at "sx"
        refine ⟨by omega, rfl, ?_⟩
        rw [decide_eq_true dz]
        exact iteF ⟨x14, hD5⟩
      refine ⟨Nat.zero_le _, fun u nu => ⟨.list [], .list [], dp_nil (by rw [upd_ne (ne_of_none hD5 nu)]; exact hD5), dp_nil upd_same, rfl, rfl, _, rfl, ?_⟩⟩
      have ee : PyData.eqv (.list []) (.list []) = true := by rfl
      rw [ee]
      have x15 := x14.trans (Ex.new (o := .lst []) nu)
      have hp15 := hp13.ex x15
      have xx15 := xx13.trans x15
      refine iteF ⟨.ref ap, rfl, ap, rfl, p.map V.int, .inr (.inl (.inl hp15.at_)), (n : Int), by rw [hlp], by omega, by omega, for_it walk_range (fun i σ H16 => ∃ y8, σ = [some (.ref a), some (.ref r), some (.ref ap), some (.ref D), some (.ref D2), some (.ref q4), some (.int o2), some (.int (invN (p.take i))), y8, none, none, none, none] ∧ Ex (upd H14 u (.lst [])) H16)
        ⟨none, rfl, .refl _⟩ (fun _ _ _ _ _ => trivial) (fun i x σ H16 H17 hi ⟨y8, es, x16⟩ ⟨e, ex⟩ => ?_) (fun σ H16 ⟨y8, es, x16⟩ => ?_)⟩
      · subst es e ex
        rw [enn] at hi
        have hp16 := hp15.ex x16
        obtain ⟨v, hv, _⟩ := hp2.is.get hi
        walk_at "sx"
        refine ⟨.int (0 + (i : Int)), rfl, 0 + (i : Int), rfl, by omega, by omega, fun D6 nD6 => ?_⟩
        have ei : (0 + (i : Int)).toNat = i := by omega
        refine lc_it walk_range (fun k H18 => Ex H17 H18 ∧ ∃ L : List Int, H18 D6 = some (.lst (L.map V.int)) ∧ L.length = cntGt v (p.take k)) ⟨Ex.new nD6, [], upd_same, rfl⟩ (fun _ _ _ _ => trivial) (fun k x H18 H19 hk ⟨x18, L, hD6, hL⟩ ⟨e, ex⟩ => ?_) (fun H18 ⟨x18, L, hD6, hL⟩ => ?_)
        · subst e ex
          rw [ei] at hk
          obtain ⟨y, hy, _⟩ := hp2.is.get (i := k) (by omega)
          have ek : (0 + (k : Int)).toNat = k := by omega
          have gy : atI (p.map V.int) (0 + (k : Int)) = some (.int y) := at_int (by omega) (by rw [ek]; exact hy)
          have gv : atI (p.map V.int) (0 + (i : Int)) = some (.int v) := at_int (by omega) (by rw [ei]; exact hv)
          have cs : cntGt v (p.take (k + 1)) = cntGt v (p.take k) + if v < y then 1 else 0 := by
            unfold cntGt
            rw [List.take_add_one, hy, List.countP_append]
            show _ + List.countP _ [y] = _
            rw [List.countP_cons, List.countP_nil, Nat.zero_add]
            by_cases z : v < y
            · rw [if_pos z, if_pos (decide_eq_true z)]
            · rw [if_neg z, if_neg (by rw [decide_eq_true_iff]; exact z)]
          have lk : L.length ≤ k := by
            rw [hL]
            exact Nat.le_trans List.countP_le_length (by rw [List.length_take]; omega)
          refine ⟨rfl, ?_⟩
          walk_at "sx"
          have at19 := ((hp16.ex x18).at_)
          refine ⟨p.map V.int, .inl (.inl at19), .int y, gy, p.map V.int, .inl (.inl at19), .int v, gv, y, rfl, v, rfl, ite2 (fun d => ?_) (fun d => ?_)⟩
          · have d := of_decide_eq_true d
            rw [if_pos d] at cs
            refine ⟨_, hD6, by rw [List.length_map]; exact small1000 (by omega), x18.own nD6, L ++ [(k : Int)], by rw [upd_same, List.map_append, Int.zero_add]; rfl, by rw [List.length_append, hL, cs]; rfl⟩
          · rw [if_neg (fun h => d (decide_eq_true h))] at cs
            exact ⟨x18, L, hD6, by rw [hL, cs, Nat.add_zero]⟩
        · rw [ei] at hL
          have tk : invN (p.take (i + 1)) = invN (p.take i) + cntGt v (p.take i) := by
            rw [List.take_add_one, hv]
            exact invN_snoc v _
          refine ⟨D6, rfl, L.map V.int, .inl (sl_at hD6), _, ⟨by rw [List.length_map, hL, tk]; omega, rfl⟩, x16.trans x18⟩
      · subst es
        rw [enn, List.take_of_length_le (by rw [hp2.is.len]; exact Nat.le_refl _)]
        have hp16 := hp15.ex x16
        have xx16 := xx15.trans x16
        walk_at "sx"
        refine ⟨ap, n, p, rfl, hp16, h1, h12, xx16.tab _ hT, fun H17 R4 x17 F4 => ⟨by omega, rfl, ?_⟩⟩
        have par : invN p % 2 = (n - R4.length) % 2 := parity _ p R4 hp2.is F4.cyc F4.all rfl
        have hp17 := hp16.ex x17
        have xx17 := xx16.trans x17
        refine two2 (H := H17) ?_ (fun rest => ite2 (fun d => ⟨_, _, rfl, fun H18 x18 => ⟨_, rfl, fin1 (if_pos (by have d := of_decide_eq_true d; omega)) (rest H18 x18)⟩⟩) (fun d => ⟨1, rfl, _, _, rfl, fun H18 x18 => ⟨_, rfl, fin1 (if_neg (fun z => d (decide_eq_true (by omega)))) (rest H18 x18)⟩⟩))
        · intro H18 x18
          have hp18 := hp17.ex x18
          refine ⟨ap, n, p, rfl, hp18, h1, h12, (xx17.trans x18).tab _ hT, fun c H19 x19 hc => ?_⟩
          have hp19 := hp18.ex x19
          refine ⟨.ref ap, rfl, ap, rfl, p.map V.int, .inr (.inl (.inl hp19.at_)), (n : Int), by rw [hlp], by omega, by omega, fun D7 nD7 => ?_⟩
          refine lc_it walk_range (fun i H20 => Ex H19 H20 ∧ H20 D7 = some (.lst ((suppI p i).map V.int))) ⟨Ex.new nD7, upd_same⟩ (fun _ _ _ _ => trivial) (fun i x H20 H21 hi ⟨x20, hD7⟩ ⟨e, ex⟩ => ?_) (fun H20 ⟨x20, hD7⟩ => ?_)
          · subst e ex
            rw [enn] at hi
            obtain ⟨y, hy, _⟩ := hp2.is.get hi
            have es := suppI_succ (p := p) (i := i)
            rw [getD_of hy] at es
            have gy : atI (p.map V.int) (0 + (i : Int)) = some (.int y) := at_int (by omega) (by rw [show (0 + (i : Int)).toNat = i by omega]; exact hy)
            refine ⟨rfl, ?_⟩
            walk_at "sx"
            refine ⟨p.map V.int, .inl (.inl (hp19.ex x20).at_), .int y, gy, rfl, ite2 (fun d => ?_) (fun d => ?_)⟩
            · have d : (i : Int) ≠ y := fun z => by
                rw [decide_eq_true (by rw [← z, Int.zero_add])] at d
                cases d
              rw [if_pos d] at es
              refine ⟨_, hD7, by rw [List.length_map]; exact small1000 (Nat.le_trans suppI_len (by omega)), x20.own nD7, ?_⟩
              rw [upd_same, es, List.map_append, Int.zero_add]
              rfl
            · have d : ¬ ((i : Int) ≠ y) := fun z => d (by
                rw [decide_eq_false (fun w => z (by have w := V.int.inj w; omega))]
                rfl)
              rw [if_neg d, List.append_nil] at es
              rw [es]
              exact ⟨x20, hD7⟩
          · rw [enn] at hD7
            exact .inl ⟨D7, rfl, _, sl_at hD7, fun q9 nq9 => ⟨c, q9, suppI p n, rfl, (x20.trans (Ex.new nq9)).st _ _ hc trivial, upd_same, Nat.le_trans suppI_len (by omega), fun H22 _ => q H22⟩⟩
    · have hn : ∃ n : Nat, (1 + (j2 : Int)) = n ∧ 1 ≤ n ∧ n ≤ 12 := ⟨j2 + 1, by omega, by omega, by omega⟩
      obtain ⟨n, en, h1, h12⟩ := hn
      refine ⟨j2, rfl, ?_⟩
      rw [en]
      exact ⟨r, a, n, ns, rfl, (x1.trans x2).row _ _ R0, (xr1.trans x2).l ints_norow hS, h1, by omega, fun c H3 p x3 hp => rest c H3 n p (x2.trans x3) h1 h12 hp⟩
theorem law_start {H : Hp} {a : Addr} {ns : List Int} (_ : ns.length ≤ 63) (_ : ∀ z ∈ ns, Builtin.Int.intBits z ≤ 1048576) (hS : SqL K H a (ns.map V.int)) (hT : ∀ x ∈ tabL, TabG H (He.cT K (x, none)).2) : spLaw K [.ref a] H (fun v _ => v = .bl true) fun _ _ _ => False :=
  ⟨a, ns, rfl, hS, hT "are_points" (List.mem_cons_self ..), fun _ => rfl⟩
end
end KL
namespace KL
open PySem PySem.Spec PyProof.Rows L2 GA GxR

def d_is_between : He.DefD := ⟨("is_between", none), "is_between", "is_between", defArgs sis_between, defBody sis_between, defScope sis_between, [], []⟩
def d_is_tuple_of : He.DefD := ⟨("is_tuple_of", none), "is_tuple_of", "is_tuple_of", defArgs sis_tuple_of, defBody sis_tuple_of, defScope sis_tuple_of, [], []⟩
def d_is_degree : He.DefD := ⟨("is_degree", none), "is_degree", "is_degree", defArgs sis_degree, defBody sis_degree, defScope sis_degree, [], []⟩
def d_is_point : He.DefD := ⟨("is_point", none), "is_point", "is_point", defArgs sis_point, defBody sis_point, defScope sis_point, [], []⟩
def d_are_points : He.DefD := ⟨("are_points", none), "are_points", "are_points", defArgs sare_points, defBody sare_points, defScope sare_points, [], []⟩
def d_are_distinct_points : He.DefD := ⟨("are_distinct_points", none), "are_distinct_points", "are_distinct_points", defArgs sare_distinct_points, defBody sare_distinct_points, defScope sare_distinct_points, [], []⟩
def d_is_permutation : He.DefD := ⟨("is_permutation", none), "is_permutation", "is_permutation", defArgs sis_permutation, defBody sis_permutation, defScope sis_permutation, [], []⟩
def d_is_any_permutation : He.DefD := ⟨("is_any_permutation", none), "is_any_permutation", "is_any_permutation", defArgs sis_any_permutation, defBody sis_any_permutation, defScope sis_any_permutation, [], []⟩
def d_check_any_permutation : He.DefD := ⟨("check_any_permutation", none), "check_any_permutation", "check_any_permutation", defArgs scheck_any_permutation, defBody scheck_any_permutation, defScope scheck_any_permutation, [], []⟩
def d_full_cycles : He.DefD := ⟨("full_cycles", none), "full_cycles", "full_cycles", defArgs sfull_cycles, defBody sfull_cycles, defScope sfull_cycles, [], []⟩
def d_all_lengths : He.DefD := ⟨("all_lengths", none), "all_lengths", "all_lengths", defArgs sall_lengths, defBody sall_lengths, defScope sall_lengths, [], []⟩
def d_period : He.DefD := ⟨("period", none), "period", "period", defArgs speriod, defBody speriod, defScope speriod, [], []⟩
def d_cycles : He.DefD := ⟨("cycles", none), "cycles", "cycles", defArgs scycles, defBody scycles, defScope scycles, [], []⟩
def d_cycle_lengths : He.DefD := ⟨("cycle_lengths", none), "cycle_lengths", "cycle_lengths", defArgs scycle_lengths, defBody scycle_lengths, defScope scycle_lengths, [], []⟩
def d_element_order : He.DefD := ⟨("element_order", none), "element_order", "element_order", defArgs selement_order, defBody selement_order, defScope selement_order, [], []⟩
def d_sign : He.DefD := ⟨("sign", none), "sign", "sign", defArgs ssign, defBody ssign, defScope ssign, [], []⟩
def d_support : He.DefD := ⟨("support", none), "support", "support", defArgs ssupport, defBody ssupport, defScope ssupport, [], []⟩
def d__law_taken : He.DefD := ⟨("_law_taken", none), "_law_taken", "_law_taken", defArgs s_law_taken, defBody s_law_taken, defScope s_law_taken, [], []⟩
def d__law_alike : He.DefD := ⟨("_law_alike", none), "_law_alike", "_law_alike", defArgs s_law_alike, defBody s_law_alike, defScope s_law_alike, [], []⟩
def d__law_unit : He.DefD := ⟨("_law_unit", none), "_law_unit", "_law_unit", defArgs s_law_unit, defBody s_law_unit, defScope s_law_unit, [], []⟩
def d__law_mul : He.DefD := ⟨("_law_mul", none), "_law_mul", "_law_mul", defArgs s_law_mul, defBody s_law_mul, defScope s_law_mul, [], []⟩
def d__law_inv : He.DefD := ⟨("_law_inv", none), "_law_inv", "_law_inv", defArgs s_law_inv, defBody s_law_inv, defScope s_law_inv, [], []⟩
def d__law_conj : He.DefD := ⟨("_law_conj", none), "_law_conj", "_law_conj", defArgs s_law_conj, defBody s_law_conj, defScope s_law_conj, [], []⟩
def d__law_perm : He.DefD := ⟨("_law_perm", none), "_law_perm", "_law_perm", defArgs s_law_perm, defBody s_law_perm, defScope s_law_perm, [], []⟩
def d__law_ring : He.DefD := ⟨("_law_ring", none), "_law_ring", "_law_ring", defArgs s_law_ring, defBody s_law_ring, defScope s_law_ring, [], []⟩
def d__law_least_power : He.DefD := ⟨("_law_least_power", none), "_law_least_power", "_law_least_power", defArgs s_law_least_power, defBody s_law_least_power, defScope s_law_least_power, [], []⟩
def d__law_blocks : He.DefD := ⟨("_law_blocks", none), "_law_blocks", "_law_blocks", defArgs s_law_blocks, defBody s_law_blocks, defScope s_law_blocks, [], []⟩
def d_law : He.DefD := ⟨("law", none), "law", "law", defArgs slaw, defBody slaw, defScope slaw, [], []⟩
def fnL : List He.DefD := [d_is_between, d_is_tuple_of, d_is_degree, d_is_point, d_are_points, d_are_distinct_points, d_is_permutation, d_is_any_permutation, d_check_any_permutation, d_full_cycles, d_all_lengths, d_period, d_cycles, d_cycle_lengths, d_element_order, d_sign, d_support, d__law_taken, d__law_alike, d__law_unit, d__law_mul, d__law_inv, d__law_conj, d__law_perm, d__law_ring, d__law_least_power, d__law_blocks, d_law]
def faL : List He.Fa := [.glo "is_between", .glo "is_tuple_of", .glo "is_degree", .glo "is_point", .glo "are_points", .glo "are_distinct_points", .glo "is_permutation", .glo "is_any_permutation", .glo "check_any_permutation", .glo "full_cycles", .glo "all_lengths", .glo "period", .glo "cycles", .glo "cycle_lengths", .glo "element_order", .glo "sign", .glo "support", .glo "_law_taken", .glo "_law_alike", .glo "_law_unit", .glo "_law_mul", .glo "_law_inv", .glo "_law_conj", .glo "_law_perm", .glo "_law_ring", .glo "_law_least_power", .glo "_law_blocks", .glo "law", .free "all", .free "bool", .free "enumerate", .free "int", .free "isinstance", .free "len", .free "list", .free "min", .free "range", .free "set", .free "sorted", .free "str", .free "tuple", .free "type", .int "MOST_DEGREE" 12]
def tfL : List He.Defn := tabL.map fun x => (x, none)
def exF (K : PySem.W.Frag) : Bool := (He.eqO (PySem.W.nsIn K mainGlobals "lcm") (some (some (.builtin "math.lcm"))))
theorem tx_of {K : PySem.W.Frag} {mg : Str → Option Value} {base h : Heap} {w : World} (X : K.In h) (G : h.Ns mainGlobals mg) (c : He.SaysX faL fnL [] tfL exF w h K) (TB : ∀ p ∈ tfL.map (He.cT K), GxR.TabB base mg p.1 p.2) : TX K mg base := by
  have F0 := fun_of (st := sis_between) (c.t.d.def_ 0 (d := d_is_between) rfl)
  have B0 := F0.binds (ps := ["value", "low", "high"]) fun _ _ _ _ _ _ us hl => match us, hl with | [_, _, _], _ => rfl
  have F1 := fun_of (st := sis_tuple_of) (c.t.d.def_ 1 (d := d_is_tuple_of) rfl)
  have B1 := F1.binds (ps := ["value", "size"]) fun _ _ _ _ _ _ us hl => match us, hl with | [_, _], _ => rfl
  have F2 := fun_of (st := sis_degree) (c.t.d.def_ 2 (d := d_is_degree) rfl)
  have B2 := F2.binds (ps := ["value"]) fun _ _ _ _ _ _ us hl => match us, hl with | [_], _ => rfl
  have F3 := fun_of (st := sis_point) (c.t.d.def_ 3 (d := d_is_point) rfl)
  have B3 := F3.binds (ps := ["degree", "value"]) fun _ _ _ _ _ _ us hl => match us, hl with | [_, _], _ => rfl
  have F4 := fun_of (st := sare_points) (c.t.d.def_ 4 (d := d_are_points) rfl)
  have B4 := F4.binds (ps := ["degree", "value"]) fun _ _ _ _ _ _ us hl => match us, hl with | [_, _], _ => rfl
  have F5 := fun_of (st := sare_distinct_points) (c.t.d.def_ 5 (d := d_are_distinct_points) rfl)
  have B5 := F5.binds (ps := ["degree", "value"]) fun _ _ _ _ _ _ us hl => match us, hl with | [_, _], _ => rfl
  have F6 := fun_of (st := sis_permutation) (c.t.d.def_ 6 (d := d_is_permutation) rfl)
  have B6 := F6.binds (ps := ["degree", "value"]) fun _ _ _ _ _ _ us hl => match us, hl with | [_, _], _ => rfl
  have F7 := fun_of (st := sis_any_permutation) (c.t.d.def_ 7 (d := d_is_any_permutation) rfl)
  have B7 := F7.binds (ps := ["value"]) fun _ _ _ _ _ _ us hl => match us, hl with | [_], _ => rfl
  have F8 := fun_of (st := scheck_any_permutation) (c.t.d.def_ 8 (d := d_check_any_permutation) rfl)
  have B8 := F8.binds (ps := ["value"]) fun _ _ _ _ _ _ us hl => match us, hl with | [_], _ => rfl
  have F9 := fun_of (st := sfull_cycles) (c.t.d.def_ 9 (d := d_full_cycles) rfl)
  have B9 := F9.binds (ps := ["p"]) fun _ _ _ _ _ _ us hl => match us, hl with | [_], _ => rfl
  have F10 := fun_of (st := sall_lengths) (c.t.d.def_ 10 (d := d_all_lengths) rfl)
  have B10 := F10.binds (ps := ["p"]) fun _ _ _ _ _ _ us hl => match us, hl with | [_], _ => rfl
  have F11 := fun_of (st := speriod) (c.t.d.def_ 11 (d := d_period) rfl)
  have B11 := F11.binds (ps := ["p"]) fun _ _ _ _ _ _ us hl => match us, hl with | [_], _ => rfl
  have F12 := fun_of (st := scycles) (c.t.d.def_ 12 (d := d_cycles) rfl)
  have B12 := F12.binds (ps := ["p"]) fun _ _ _ _ _ _ us hl => match us, hl with | [_], _ => rfl
  have F13 := fun_of (st := scycle_lengths) (c.t.d.def_ 13 (d := d_cycle_lengths) rfl)
  have B13 := F13.binds (ps := ["p"]) fun _ _ _ _ _ _ us hl => match us, hl with | [_], _ => rfl
  have F14 := fun_of (st := selement_order) (c.t.d.def_ 14 (d := d_element_order) rfl)
  have B14 := F14.binds (ps := ["p"]) fun _ _ _ _ _ _ us hl => match us, hl with | [_], _ => rfl
  have F15 := fun_of (st := ssign) (c.t.d.def_ 15 (d := d_sign) rfl)
  have B15 := F15.binds (ps := ["p"]) fun _ _ _ _ _ _ us hl => match us, hl with | [_], _ => rfl
  have F16 := fun_of (st := ssupport) (c.t.d.def_ 16 (d := d_support) rfl)
  have B16 := F16.binds (ps := ["p"]) fun _ _ _ _ _ _ us hl => match us, hl with | [_], _ => rfl
  have F17 := fun_of (st := s_law_taken) (c.t.d.def_ 17 (d := d__law_taken) rfl)
  have B17 := F17.binds (ps := ["row", "many"]) fun _ _ _ _ _ _ us hl => match us, hl with | [_, _], _ => rfl
  have F18 := fun_of (st := s_law_alike) (c.t.d.def_ 18 (d := d__law_alike) rfl)
  have B18 := F18.binds (ps := ["found", "due"]) fun _ _ _ _ _ _ us hl => match us, hl with | [_, _], _ => rfl
  have F19 := fun_of (st := s_law_unit) (c.t.d.def_ 19 (d := d__law_unit) rfl)
  have B19 := F19.binds (ps := ["degree"]) fun _ _ _ _ _ _ us hl => match us, hl with | [_], _ => rfl
  have F20 := fun_of (st := s_law_mul) (c.t.d.def_ 20 (d := d__law_mul) rfl)
  have B20 := F20.binds (ps := ["p", "q"]) fun _ _ _ _ _ _ us hl => match us, hl with | [_, _], _ => rfl
  have F21 := fun_of (st := s_law_inv) (c.t.d.def_ 21 (d := d__law_inv) rfl)
  have B21 := F21.binds (ps := ["p"]) fun _ _ _ _ _ _ us hl => match us, hl with | [_], _ => rfl
  have F22 := fun_of (st := s_law_conj) (c.t.d.def_ 22 (d := d__law_conj) rfl)
  have B22 := F22.binds (ps := ["p", "g"]) fun _ _ _ _ _ _ us hl => match us, hl with | [_, _], _ => rfl
  have F23 := fun_of (st := s_law_perm) (c.t.d.def_ 23 (d := d__law_perm) rfl)
  have B23 := F23.binds (ps := ["row", "degree"]) fun _ _ _ _ _ _ us hl => match us, hl with | [_, _], _ => rfl
  have F24 := fun_of (st := s_law_ring) (c.t.d.def_ 24 (d := d__law_ring) rfl)
  have B24 := F24.binds (ps := ["p", "first"]) fun _ _ _ _ _ _ us hl => match us, hl with | [_, _], _ => rfl
  have F25 := fun_of (st := s_law_least_power) (c.t.d.def_ 25 (d := d__law_least_power) rfl)
  have B25 := F25.binds (ps := ["p"]) fun _ _ _ _ _ _ us hl => match us, hl with | [_], _ => rfl
  have F26 := fun_of (st := s_law_blocks) (c.t.d.def_ 26 (d := d__law_blocks) rfl)
  have B26 := F26.binds (ps := ["row"]) fun _ _ _ _ _ _ us hl => match us, hl with | [_], _ => rfl
  have F27 := fun_of (st := slaw) (c.t.d.def_ 27 (d := d_law) rfl)
  have B27 := F27.binds (ps := ["script"]) fun _ _ _ _ _ _ us hl => match us, hl with | [_], _ => rfl
  exact ⟨F0,
    B0,
    He.glo_ok X G (c.t.d.fact 0 (f := .glo "is_between") rfl),
    F1,
    B1,
    He.glo_ok X G (c.t.d.fact 1 (f := .glo "is_tuple_of") rfl),
    F2,
    B2,
    He.glo_ok X G (c.t.d.fact 2 (f := .glo "is_degree") rfl),
    F3,
    B3,
    He.glo_ok X G (c.t.d.fact 3 (f := .glo "is_point") rfl),
    F4,
    B4,
    He.glo_ok X G (c.t.d.fact 4 (f := .glo "are_points") rfl),
    F5,
    B5,
    He.glo_ok X G (c.t.d.fact 5 (f := .glo "are_distinct_points") rfl),
    F6,
    B6,
    He.glo_ok X G (c.t.d.fact 6 (f := .glo "is_permutation") rfl),
    F7,
    B7,
    He.glo_ok X G (c.t.d.fact 7 (f := .glo "is_any_permutation") rfl),
    F8,
    B8,
    He.glo_ok X G (c.t.d.fact 8 (f := .glo "check_any_permutation") rfl),
    F9,
    B9,
    He.glo_ok X G (c.t.d.fact 9 (f := .glo "full_cycles") rfl),
    F10,
    B10,
    He.glo_ok X G (c.t.d.fact 10 (f := .glo "all_lengths") rfl),
    F11,
    B11,
    He.glo_ok X G (c.t.d.fact 11 (f := .glo "period") rfl),
    F12,
    B12,
    He.glo_ok X G (c.t.d.fact 12 (f := .glo "cycles") rfl),
    F13,
    B13,
    He.glo_ok X G (c.t.d.fact 13 (f := .glo "cycle_lengths") rfl),
    F14,
    B14,
    He.glo_ok X G (c.t.d.fact 14 (f := .glo "element_order") rfl),
    F15,
    B15,
    He.glo_ok X G (c.t.d.fact 15 (f := .glo "sign") rfl),
    F16,
    B16,
    He.glo_ok X G (c.t.d.fact 16 (f := .glo "support") rfl),
    F17,
    B17,
    He.glo_ok X G (c.t.d.fact 17 (f := .glo "_law_taken") rfl),
    F18,
    B18,
    He.glo_ok X G (c.t.d.fact 18 (f := .glo "_law_alike") rfl),
    F19,
    B19,
    He.glo_ok X G (c.t.d.fact 19 (f := .glo "_law_unit") rfl),
    F20,
    B20,
    He.glo_ok X G (c.t.d.fact 20 (f := .glo "_law_mul") rfl),
    F21,
    B21,
    He.glo_ok X G (c.t.d.fact 21 (f := .glo "_law_inv") rfl),
    F22,
    B22,
    He.glo_ok X G (c.t.d.fact 22 (f := .glo "_law_conj") rfl),
    F23,
    B23,
    He.glo_ok X G (c.t.d.fact 23 (f := .glo "_law_perm") rfl),
    F24,
    B24,
    He.glo_ok X G (c.t.d.fact 24 (f := .glo "_law_ring") rfl),
    F25,
    B25,
    He.glo_ok X G (c.t.d.fact 25 (f := .glo "_law_least_power") rfl),
    F26,
    B26,
    He.glo_ok X G (c.t.d.fact 26 (f := .glo "_law_blocks") rfl),
    F27,
    B27,
    He.glo_ok X G (c.t.d.fact 27 (f := .glo "law") rfl),
    He.free_ok X G (c.t.d.fact 28 (f := .free "all") rfl),
    He.free_ok X G (c.t.d.fact 29 (f := .free "bool") rfl),
    He.free_ok X G (c.t.d.fact 30 (f := .free "enumerate") rfl),
    He.free_ok X G (c.t.d.fact 31 (f := .free "int") rfl),
    He.free_ok X G (c.t.d.fact 32 (f := .free "isinstance") rfl),
    He.free_ok X G (c.t.d.fact 33 (f := .free "len") rfl),
    He.free_ok X G (c.t.d.fact 34 (f := .free "list") rfl),
    He.free_ok X G (c.t.d.fact 35 (f := .free "min") rfl),
    He.free_ok X G (c.t.d.fact 36 (f := .free "range") rfl),
    He.free_ok X G (c.t.d.fact 37 (f := .free "set") rfl),
    He.free_ok X G (c.t.d.fact 38 (f := .free "sorted") rfl),
    He.free_ok X G (c.t.d.fact 39 (f := .free "str") rfl),
    He.free_ok X G (c.t.d.fact 40 (f := .free "tuple") rfl),
    He.free_ok X G (c.t.d.fact 41 (f := .free "type") rfl),
    PySem.W.mg_of X G (He.eqO_ok c.more),
    gi_ok (He.int_ok X G (c.t.d.fact 42 (f := .int "MOST_DEGREE" 12) rfl)),
    TB (He.cT K ("are_points", none)) (List.mem_map.mpr ⟨("are_points", none), by simp [tfL, tabL], rfl⟩)⟩
abbrev R : PySem.W.OpenRow := PySem.W.OpenLaw.row PySem.Challenge.rw_stronggens_k03_whole_orders_and_cycles
abbrev hk : PySem.W.Hook := He.hookX 4 faL fnL [] tfL exF
abbrev others : List Str := ["GroupError", "BadPermutation", "MOST_DEGREE", "is_between", "is_tuple_of", "is_degree", "is_point", "are_points", "are_distinct_points", "is_permutation", "is_any_permutation", "check_any_permutation", "full_cycles", "all_lengths", "period", "cycles", "cycle_lengths", "element_order", "sign", "support", "_law_taken", "_law_alike", "_law_unit", "_law_mul", "_law_inv", "_law_conj", "_law_perm", "_law_ring", "_law_least_power", "_law_blocks"]
def ob (s : PySem.W.SharedT) : He.AlX := He.obsX 4 faL fnL [] tfL exF (HandSHeadRun.getT s)
theorem ob_eq (s : PySem.W.SharedT) : ob s = hk.obs s.abs := He.obsX_eq (HandSHeadRun.getT_eq s)
set_option maxHeartbeats 0 in
theorem run (w : World) : HandSHeadRun.RunEqI R (PySem.W.view R.prog [0, 36]) hk ob 4000 ["GroupError", "BadPermutation", "MOST_DEGREE", "is_between", "is_tuple_of", "is_degree", "is_point", "are_points", "are_distinct_points", "is_permutation", "is_any_permutation", "check_any_permutation", "full_cycles", "all_lengths", "period", "cycles", "cycle_lengths", "element_order", "sign", "support", "_law_taken", "_law_alike", "_law_unit", "_law_mul", "_law_inv", "_law_conj", "_law_perm", "_law_ring", "_law_least_power", "_law_blocks"] w := by
  unfold HandSHeadRun.RunEqI
  kernel_rfl
theorem facts {w : World} {K : PySem.W.Frag} {h : Heap} {mg : Str → Option Value} {f : Addr} (X : K.In h) (G : h.Ns mainGlobals mg) (hfa : mg ("law" : Str) = some (.ref f)) (c : He.SaysX faL fnL [] tfL exF w h K) :
    LamX.LawAtS PySem.Challenge.rw_stronggens_k03_whole_orders_and_cycles w K CX0 9 63 "script" mg f h := by
  obtain ⟨fd0, F0⟩ := c.t.d.def_ 27 (d := d_law) rfl
  have e := hfa.symm.trans (He.glo_ok X G (c.t.d.fact 27 (f := .glo "law") rfl))
  cases e
  have F : Fun K "law" "law" slaw (He.ga K "law") (fdK K "law") := fun_of ⟨fd0, F0⟩
  obtain ⟨oc, od, kV, doc, pm, an, cdv, ct, osl, ef, lk, hcd⟩ := F.ex
  refine ⟨fdK K "law", tfL.map (He.cT K), spLaw K, ?_, ?_, ?_, ?_, ?_, ?_⟩
  · intro p hp
    obtain ⟨q, hq, rfl⟩ := List.mem_map.mp hp
    exact c.empty q hq
  · intro p hp
    obtain ⟨q, hq, rfl⟩ := List.mem_map.mp hp
    exact c.out q hq
  · intro p hp
    obtain ⟨q, hq, rfl⟩ := List.mem_map.mp hp
    exact PySem.W.codeHd_of_K X (c.hd q hq)
  · intro s u
    rw [ef]
    exact .of_eq rfl
  · intro H a ns hl hb hH hS
    exact law_start hl hb hS fun x hx => ⟨#[], hH (He.cT K (x, none)) (List.mem_map.mpr ⟨(x, none), List.mem_map.mpr ⟨x, hx, rfl⟩, rfl⟩), by simp [TriplesOk]⟩
  · intro base hb hg hT
    exact ok_law (tx_of X G c fun p hp => ⟨(hT p hp).code, (hT p hp).bm, (hT p hp).gP⟩)
end KL
open PySem PySem.W PySem.Calls PyProof.Rows
set_option maxHeartbeats 0 in
theorem PySem.Challenge.cw_stronggens_k03_whole_orders_and_cycles_holds : PySem.Challenge.rw_stronggens_k03_whole_orders_and_cycles.Holds := by
  w_on; o_law
  refine HandSHeadRun.head_imp (r := OpenLaw.row PySem.Challenge.rw_stronggens_k03_whole_orders_and_cycles) (q := view (OpenLaw.row PySem.Challenge.rw_stronggens_k03_whole_orders_and_cycles).prog [0, 36]) (H := KL.hk) (ob := KL.ob) (M := 4000) (loose := ["GroupError", "BadPermutation", "MOST_DEGREE", "is_between", "is_tuple_of", "is_degree", "is_point", "are_points", "are_distinct_points", "is_permutation", "is_any_permutation", "check_any_permutation", "full_cycles", "all_lengths", "period", "cycles", "cycle_lengths", "element_order", "sign", "support", "_law_taken", "_law_alike", "_law_unit", "_law_mul", "_law_inv", "_law_conj", "_law_perm", "_law_ring", "_law_least_power", "_law_blocks"]) (d := HandSHeadRun.topDef (OpenLaw.row PySem.Challenge.rw_stronggens_k03_whole_orders_and_cycles).prog 36) (kwd := []) KL.ob_eq
    KL.run (by kernel_rfl) (by kernel_rfl) (by kernel_rfl) (by rfl) (by first | assumption | decide +kernel) (by decide +kernel) ⟨rfl, rfl, rfl, rfl, rfl, by decide +kernel⟩ ?hw ?hc
  case hw => w_witness2
  case hc =>
    refine LamX.walk_ofTsE (l := PySem.Challenge.rw_stronggens_k03_whole_orders_and_cycles) (n := 63) (k := 9) (x := "script") (CX := fun _ => L2.CX0) rfl (by decide) (by kernel_rfl) ⟨rfl, by decide, by decide⟩ ?F (fun _ _ _ _ _ z => z)
    intro w mg fa h Y G hmg0
    obtain ⟨K, KX, c⟩ := Y
    have hmg : mg ("law" : PySem.Str) = some (.ref fa) := by
      have e : (HandSHeadRun.topDef (OpenLaw.row PySem.Challenge.rw_stronggens_k03_whole_orders_and_cycles).prog 36).name = ("law" : PySem.Str) := by kernel_rfl
      rw [← e]
      exact hmg0
    exact ⟨K, KX, KL.facts KX G hmg c⟩

