import PyProof.Rows.All
import Wide.All
import OpenK.AllK
import Wide.FinOn
import HandS.ForMost
import HandS.Conv
import HandS.AnyAll
import HandS.Nested
import HandS.Walk
import KE.GoesEnum
import HandS.SetFor
import HandS.IsInst
import HandS.Codes
import HandS.TupAny
import HandS.SortInts
import HandS.Wide
import HandS.Zip
import HandS.Head0
import HandS.Head1
import HandS.Head2
import HandS.HeadEnd
import HandS.HeadHook1
import HandS.HeadHook2
import HandS.HeadHook3
import HandS.HeadHook4
import HandS.HeadWalk
import KE.KEqSeq
import KE.KSortedM
import PyProof.P3Eq
import HandS.Strs
import KE.KEqDeep
import HandS.Gcd
import KE.KMathGC
import KE.SortKeyHeap
import KE.KDictDisplayH
import HandS.SortKw
import HandS.Style
import HandS.Keys
import HandS.Text
import HandS.FStr
import KE.IntTextLaws
import HandS.Rev
import HandS.ForExc
import HandS.ExcInit
import HandS.ExcField
import HandS.ExcIs
import HandS.TryMany
import HandS.WordsExc
import HandS.SortOrd
import HandS.SortRule
import HandS.NamedTupSort
import HandS.TupSets
import HandS.DictTup
import HandS.Defaults
import HandS.CallLocal
import HandS.Deep
import KE.DataMinMax
import HandS.Star
import KE.KStateDown
import PySem.Challenge.RW_stronggens_k21_whole_orders
set_option Elab.async false
set_option linter.all false
set_option maxRecDepth 100000
set_option maxHeartbeats 4000000
namespace GA
open PySem PySem.Spec PyProof.Rows L2

/-- a def without cells called, told by its body, in the model's own terms -/
theorem lib_call {P : Program} {w : World} {A : Around} {E : Value → Shared → Prop} {K : PySem.W.Frag} {x qual : Str} {st : Stmt} {f : Addr} {fd : FuncData} {ps : List Str} {us : List Value} {s : Shared} {Q : Value → Shared → Prop}
    (F : Fun K x qual st f fd) (X : K.In s.heap) (lim : s.heap.NoLimit) (hd : A.depth < recursionLimit) (hb : Binds K fd ps []) (hlen : us.length = ps.length)
    (hk : (defScope st).kind = .function) (hco : (defScope st).isCoroutine = false) (hgen : (defScope st).isGenerator = false) (hcell : ∀ y ∈ (defScope st).names, y.2 ≠ .cell) (hloc : ∀ n ∈ ps, (defScope st).names.lookup n = some .local)
    (h : ∀ (h₀ : Heap) (env : Env) (tk : Nat), env.scope = defScope st → env.globals = mainGlobals → env.builtins = builtinsNs → h₀.Ns env.locals (fun x => (ps.zip us).reverse.lookup x) → (∀ b o, s.heap.get? b = some o → h₀.get? b = some o) →
      wpAny (model P w) (A.deeper env) (execs (defBody st) env) (fun fl s' => ∃ u, fl = .ret u ∧ Q u s') (fun _ _ => False) { s with heap := h₀, toks := tk }) :
    wpAny (model P w) A (call (.ref f) us) Q E s := by
  obtain ⟨oc, od, kV, doc, pm, an, cdv, ct, osl, rfl, lk, hcd⟩ := F.ex
  have hb1 := hb s us X (by rw [List.append_nil]; exact hlen)
  rw [List.append_nil] at hb1
  refine wpAny_call (codeAny_call_def hd (X _ _ lk) rfl lim (PySem.W.codeRec_of X hcd) rfl hb1 hcell (fun y hy => hloc _ (List.of_mem_zip hy).1) (fun h₀ hns hkeep => ?_) hco hgen hk)
  refine wpAny_mono (h h₀ _ _ rfl rfl rfl hns hkeep) (fun fl s' q => ?_) (fun e s' q => q.elim)
  obtain ⟨u, rfl, q⟩ := q
  exact q

/-- a value that is an int, or is of another built-in type -/
inductive Kd (s : Shared) (v : Value) : Option Int → Prop where
  | int {i : Int} {t : Tok} (h : v = .int i t) : Kd s v (some i)
  | oth {T : String} (h : s.TypeIs v T) (n : T ≠ "int") (nb : (Value.type T == Value.type "builtin_function_or_method") = false) : Kd s v none
def inR (lo hi : Int) : Option Int → Bool
  | some i => decide (lo ≤ i) && decide (i ≤ hi)
  | none => false

theorem typeIs_keep {s s' : Shared} {v : Value} {T : String} (k : ∀ b u, s.heap.get? b = some u → s'.heap.get? b = some u) (h : s.TypeIs v T) : s'.TypeIs v T := by
  cases v with
  | ref a => obtain ⟨o, h1, h2⟩ := h; exact ⟨o, k _ _ h1, h2⟩
  | _ => exact h
theorem kd_keep {s s' : Shared} {v : Value} {o : Option Int} (k : ∀ b u, s.heap.get? b = some u → s'.heap.get? b = some u) (h : Kd s v o) : Kd s' v o := by
  cases h with
  | int h => exact .int h
  | oth h n nb => exact .oth (typeIs_keep k h) n nb

/-- what stands around: the written part and the module's names -/
structure At (K : PySem.W.Frag) (mg : Str → Option Value) (base : Heap) (h : Heap) : Prop where
  mod : Mod K mg base
  bk : ∀ b o, base.get? b = some o → h.get? b = some o
section
variable {K : PySem.W.Frag} {mg : Str → Option Value} {base : Heap} {h h' : Heap}
theorem At.keep (a : At K mg base h) (k : ∀ b o, h.get? b = some o → h'.get? b = some o) : At K mg base h' := ⟨a.mod, fun b o e => k b o (a.bk b o e)⟩
theorem At.kin (a : At K mg base h) : K.In h := a.mod.kin.keeps a.bk
theorem At.lim (a : At K mg base h) : h.NoLimit := a.mod.nolimit.keeps a.bk
end
section
variable {M : Model} {A : Around} {E : Value → Shared → Prop} {s : Shared} {K : PySem.W.Frag} {mg : Str → Option Value} {base : Heap} {env : Env} {x : Str} {pos : Pos} {u : Value} {Q : Value → Shared → Prop}
theorem nm_loc {m : Str → Option Value} (hk : env.scope.kind = .function) (hl : env.scope.names.lookup x = some .local) (hn : s.heap.Ns env.locals m) (hv : m x = some u) (h : Q u s) (hd : (x == ("__debug__" : Str)) = false := by decide) :
    wpAny M A (eval (.Name x pos) env) Q E s := wpAny_Name (wpAny_loadName_local hk hl hn hv h) hd
theorem nm_glob (a : At K mg base s.heap) (hk : env.scope.kind = .function) (hl : env.scope.names.lookup x = some .globalImplicit) (hg : env.globals = mainGlobals) (hm : mg x = some u) (h : Q u s) (hd : (x == ("__debug__" : Str)) = false := by decide) :
    wpAny M A (eval (.Name x pos) env) Q E s := Calls.Name_function_global hk hl (Calls.loadGlobal_global (by rw [hg]; exact a.mod.glob.keeps a.bk) hm h) hd
theorem nm_blt (a : At K mg base s.heap) (hk : env.scope.kind = .function) (hl : env.scope.names.lookup x = some .globalImplicit) (hg : env.globals = mainGlobals) (hb : env.builtins = builtinsNs) (hm : mg x = none) (hv : bootBuiltins x = some u) (h : Q u s)
    (hn : x ≠ "__name__" := by decide) (hd : (x == ("__debug__" : Str)) = false := by decide) : wpAny M A (eval (.Name x pos) env) Q E s := by
  obtain ⟨mb, h1, h2⟩ := a.mod.blt
  exact Calls.Name_function_global hk hl (Calls.loadGlobal_builtin (by rw [hg]; exact a.mod.glob.keeps a.bk) hm (by rw [hb]; exact h1.keeps a.bk) ((h2 x hn).trans hv) h) hd
end

/-- def is_between(value, low, high): return type(value) is int and low <= value <= high -/
def btBody (p1 p2 p3 p4 p5 p6 p7 p8 p9 p10 p11 : Pos) : List Stmt :=
  [.Return (some (.BoolOp .And [.Compare (.Call (.Name "type" p1) [.Name "value" p2] [] p3) [.Is] [.Name "int" p4] p5, .Compare (.Name "low" p6) [.LtE, .LtE] [.Name "value" p7, .Name "high" p8] p9] p10)) p11]
structure BtDef (st : Stmt) : Prop where
  body : ∃ p1 p2 p3 p4 p5 p6 p7 p8 p9 p10 p11, defBody st = btBody p1 p2 p3 p4 p5 p6 p7 p8 p9 p10 p11
  kind : (defScope st).kind = .function
  co : (defScope st).isCoroutine = false
  gen : (defScope st).isGenerator = false
  cell : ∀ y ∈ (defScope st).names, y.2 ≠ .cell
  v : (defScope st).names.lookup ("value" : Str) = some .local
  l : (defScope st).names.lookup ("low" : Str) = some .local
  h : (defScope st).names.lookup ("high" : Str) = some .local
  t : (defScope st).names.lookup ("type" : Str) = some .globalImplicit
  i : (defScope st).names.lookup ("int" : Str) = some .globalImplicit
theorem lib_between {P : Program} {w : World} {A : Around} {E : Value → Shared → Prop} {K : PySem.W.Frag} {mg : Str → Option Value} {base : Heap} {st : Stmt} {f : Addr} {fd : FuncData} {s : Shared} {v : Value} {lo hi : Int} {t1 t2 : Tok} {o : Option Int} {q : Str}
    (F : Fun K "is_between" q st f fd) (D : BtDef st) (hb : Binds K fd ["value", "low", "high"] []) (mt : mg "type" = none) (mi : mg "int" = none) (a : At K mg base s.heap) (hd : A.depth + 1 < recursionLimit) (k : Kd s v o) :
    wpAny (model P w) A (call (.ref f) [v, .int lo t1, .int hi t2]) (fun y s' => y = .bool (inR lo hi o) ∧ Keeps s s') E s := by
  refine lib_call F a.kin a.lim (by omega) hb rfl D.kind D.co D.gen D.cell (fun n hn => ?_) (fun h₀ env tk e1 e2 e3 hns hkeep => ?_)
  · simp only [List.mem_cons, List.not_mem_nil, or_false] at hn
    rcases hn with rfl | rfl | rfl
    · exact D.v
    · exact D.l
    · exact D.h
  · obtain ⟨p1, p2, p3, p4, p5, p6, p7, p8, p9, p10, p11, eb⟩ := D.body
    rw [eb]
    have a' : At K mg base h₀ := a.keep hkeep
    have kf : env.scope.kind = .function := by rw [e1]; exact D.kind
    have lv : env.scope.names.lookup ("value" : Str) = some .local := by rw [e1]; exact D.v
    have ll : env.scope.names.lookup ("low" : Str) = some .local := by rw [e1]; exact D.l
    have lh : env.scope.names.lookup ("high" : Str) = some .local := by rw [e1]; exact D.h
    have lt : env.scope.names.lookup ("type" : Str) = some .globalImplicit := by rw [e1]; exact D.t
    have li : env.scope.names.lookup ("int" : Str) = some .globalImplicit := by rw [e1]; exact D.i
    have k' : Kd { s with heap := h₀, toks := tk } v o := kd_keep (s := s) hkeep k
    have fin : ∀ b, b = inR lo hi o → ∃ u, Flow.ret (.bool b) = .ret u ∧ u = .bool (inR lo hi o) ∧ Keeps s { s with heap := h₀, toks := tk } := fun b e => ⟨_, rfl, by rw [e], h₀, tk, rfl, hkeep⟩
    refine wpAny_execs_cons (wpAny_Return_some (BoolOp_and ?_))
    refine wpAny_Compare1 (wpAny_Call_Name_kw (nm_blt a' kf lt e2 e3 mt boot_type ?_)) (by rfl)
    refine PyProof.Rows.callWith_type1 (args_cons (nm_loc kf lv hns rfl (args_nil ?_)))
    cases k' with
    | @int v_i v_t hv =>
      subst hv
      refine call_type_of (Tx := "int") rfl (by decide +kernel) (nm_blt a' kf li e2 e3 mi boot_int (wpAny_is_self rfl (wpAny_truthy_bool ?_)))
      rw [if_pos rfl]
      refine BoolOp_one ?_
      refine Compare_chain (nm_loc kf ll hns rfl (chain_link (nm_loc kf lv hns rfl (PyProof.Rows.le_int (wpAny_truthy_bool ?_))))) (by rfl)
      by_cases c : lo ≤ v_i
      · rw [decide_eq_true c, if_pos rfl]
        refine chain_last (nm_loc kf lh hns rfl (PyProof.Rows.le_int (fin _ ?_)))
        show _ = (decide (lo ≤ _) && _)
        rw [decide_eq_true c, Bool.true_and]
      · rw [decide_eq_false c, if_neg Bool.false_ne_true]
        refine fin _ ?_
        show _ = (decide (lo ≤ _) && _)
        rw [decide_eq_false c, Bool.false_and]
    | oth ht n nb =>
      refine call_type_of ht nb (nm_blt a' kf li e2 e3 mi boot_int (wpAny_is_other rfl (fun z => n (Value.type.inj z)) (wpAny_truthy_bool ?_)))
      rw [if_neg Bool.false_ne_true]
      exact fin _ rfl

/-- def is_point(degree, value): return is_between(value, 0, degree - 1) -/
def ptBody (p1 p2 p3 p4 p5 p6 p7 p8 : Pos) (j k : Nat) : List Stmt :=
  [.Return (some (.Call (.Name "is_between" p1) [.Name "value" p2, .Constant (.int 0) j p3, .BinOp (.Name "degree" p4) .Sub (.Constant (.int 1) k p5) p6] [] p7)) p8]
structure PtDef (st : Stmt) : Prop where
  body : ∃ p1 p2 p3 p4 p5 p6 p7 p8 j k, defBody st = ptBody p1 p2 p3 p4 p5 p6 p7 p8 j k
  kind : (defScope st).kind = .function
  co : (defScope st).isCoroutine = false
  gen : (defScope st).isGenerator = false
  cell : ∀ y ∈ (defScope st).names, y.2 ≠ .cell
  v : (defScope st).names.lookup ("value" : Str) = some .local
  d : (defScope st).names.lookup ("degree" : Str) = some .local
  b : (defScope st).names.lookup ("is_between" : Str) = some .globalImplicit
theorem keeps_from {s s' : Shared} {h : Heap} {tk : Nat} (hk : ∀ b o, s.heap.get? b = some o → h.get? b = some o) (k : Keeps { s with heap := h, toks := tk } s') : Keeps s s' := by
  obtain ⟨h', tk', e, kk⟩ := k
  exact ⟨h', tk', e, fun b o q => kk b o (hk b o q)⟩
theorem lib_point {P : Program} {w : World} {A : Around} {E : Value → Shared → Prop} {K : PySem.W.Frag} {mg : Str → Option Value} {base : Heap} {st stB : Stmt} {f fB : Addr} {fd fdB : FuncData} {s : Shared} {v : Value} {n : Int} {t1 : Tok} {o : Option Int} {q qB : Str}
    (F : Fun K "is_point" q st f fd) (D : PtDef st) (hb : Binds K fd ["degree", "value"] []) (FB : Fun K "is_between" qB stB fB fdB) (DB : BtDef stB) (hbB : Binds K fdB ["value", "low", "high"] []) (gB : mg "is_between" = some (.ref fB))
    (mt : mg "type" = none) (mi : mg "int" = none) (a : At K mg base s.heap) (hd : A.depth + 2 < recursionLimit) (k : Kd s v o) :
    wpAny (model P w) A (call (.ref f) [.int n t1, v]) (fun y s' => y = .bool (inR 0 (n - 1) o) ∧ Keeps s s') E s := by
  refine lib_call F a.kin a.lim (by omega) hb rfl D.kind D.co D.gen D.cell (fun n hn => ?_) (fun h₀ env tk e1 e2 e3 hns hkeep => ?_)
  · simp only [List.mem_cons, List.not_mem_nil, or_false] at hn
    rcases hn with rfl | rfl
    · exact D.d
    · exact D.v
  · obtain ⟨p1, p2, p3, p4, p5, p6, p7, p8, j, kk, eb⟩ := D.body
    rw [eb]
    have a' : At K mg base h₀ := a.keep hkeep
    have kf : env.scope.kind = .function := by rw [e1]; exact D.kind
    have lv : env.scope.names.lookup ("value" : Str) = some .local := by rw [e1]; exact D.v
    have ld : env.scope.names.lookup ("degree" : Str) = some .local := by rw [e1]; exact D.d
    have lb : env.scope.names.lookup ("is_between" : Str) = some .globalImplicit := by rw [e1]; exact D.b
    have k' : Kd { s with heap := h₀, toks := tk } v o := kd_keep (s := s) hkeep k
    refine wpAny_execs_cons (wpAny_Return_some (wpAny_Call_Name_kw (nm_glob a' kf lb e2 gB ?_)))
    refine PySem.W.callWith_K (h₀ := base) a'.mod.kin FB.kp (args_cons ?_)
    refine nm_loc kf lv hns rfl (args_cons (wpAny_Constant_int (args_cons ?_)))
    refine wpAny_BinOp (nm_loc kf ld hns rfl (wpAny_Constant_int (PyProof.Rows.sub_int (args_nil ?_))))
    refine ⟨a'.kin, ?_⟩
    refine thn (lib_between FB DB hbB mt mi (base := base) (s := { s with heap := h₀, toks := _ }) a' (by show A.depth + 1 + 1 < recursionLimit; omega) (kd_keep (s := { s with heap := h₀, toks := tk }) (fun _ _ e => e) k')) fun y s' r => ?_
    obtain ⟨rfl, r2⟩ := r
    exact ⟨_, rfl, rfl, keeps_from (s := s) hkeep r2⟩
end GA
/-! all(test for x in t), t a tuple, the test any expression that is walked in the generator's own frame -/
namespace GA
open PySem PySem.Spec PyProof.Rows L2 GxR
/-- what the test says of the item in place j -/
def plT (pb : V → Bool) (xs : List V) (j : Nat) : Bool := (xs[j]?).any pb
theorem plT_all (pb : V → Bool) (xs : List V) : (List.range xs.length).all (plT pb xs) = xs.all pb := by
  have e : (List.range xs.length).map (plT pb xs) = xs.map pb := by
    refine List.ext_getElem (by simp) fun j h1 h2 => ?_
    have hj : j < xs.length := by simpa using h2
    simp [plT, hj]
  have q := congrArg (fun l : List Bool => l.all id) e
  simpa [List.all_map, Function.comp_def] using q
section
variable {X : Cx} {pins : List (Addr × Obj)} {σ : L2.St} {H : Hp} {s : Shared}
/-- the code object of a generator expression: told before, or made now (then its def's table has grown) -/
theorem gx_code {c T : Addr} {env : Env} {pos : Pos} {q : Str} {scope : Scope} {ps : Array Value} {A : Around} {E : Value → Shared → Prop} {P : Program} {w : World} {Post : Value → Shared → Prop}
    (hc : env.code = .ref c) (hd : PySem.W.CodeHd s.heap c T) (hT : s.heap.get? T = some { cls := .none, data := .fields ps }) (ok : TriplesOk ps.toList)
    (k : ∀ (code : Value) (g : Heap) (tk : Nat) (more : Array Value), Heap.ExtBut T s.heap g → s.heap.objs.size ≤ g.objs.size → g.get? T = some { cls := .none, data := .fields (ps ++ more) } → TriplesOk (ps ++ more).toList → Post code { s with heap := g, toks := tk }) :
    wpAny (model P w) A (genexprCode env pos q scope) Post E s := by
  cases seen : codeAmong pos ps.toList with
  | some v =>
    have q0 : ps ++ #[] = ps := by simp
    exact wpAny_genexprCode_hit hc (hd.code hT ok) seen (k v s.heap s.toks #[] (Heap.ExtBut.refl _ _) (Nat.le_refl _) (by rw [q0]; exact hT) (by rw [q0]; exact ok))
  | none =>
    refine wpAny_genexprCodeX hc (hd.code hT ok) (hd.tab hT) seen fun v g tk far big small made _ tab' _ => ?_
    obtain ⟨_, _, _, _, _, _, _, _, _, _, _, _, _, _, _, _, _, _, _, good, _⟩ := made
    exact k _ g tk _ far (Nat.le_trans big (Nat.le_of_lt small)) tab'.2 good
/-- g is the generator over the items xs, not begun -/
def Begun (X : Cx) (pins : List (Addr × Obj)) (σ : L2.St) (H1 : Hp) (T : Addr) (xs : List V) (pb : V → Bool) (g : Addr) (z : Shared) : Prop :=
  ∃ (foot wrt : List Addr) (Gs : Array GenState → Array GenState → Prop) (Fv : Nat → Value → Prop) (Sn : Nat → Shared → Prop),
    WalksS X.prog X.w X.A.in1 g foot wrt Gs xs.length Fv Sn ∧ Sn 0 z ∧ TruthOf X.prog X.w X.A.in1 Fv (plT pb xs) ∧ ∀ z', Moved wrt Gs z z' → ∃ H2, Tabbed T H1 H2 ∧ Inv X pins σ H2 z'
/-- the test of one item, in the generator's frame; s1, H1: the state in which the tuple was read -/
def EltT (X : Cx) (T : Addr) (scope : Scope) (x : Str) (elt : Expr) (s1 : Shared) (H1 : Hp) (xs : List V) (pb : V → Bool) : Prop :=
  ∀ (ge : Env) (B : Around) (E' : Value → Shared → Prop) (y : V) (v : Value) (z : Shared) (names : Str → Option Value), ge.scope = scope → ge.globals = mainGlobals → ge.builtins = builtinsNs → ge.cells = cloFrom X.env.cells scope.names [] →
    B.handled = none → B.depth ≤ X.A.depth + 1 → z.heap.Ns ge.locals names → names x = some v → RelV y v → y ∈ xs → (∀ b u, b ≠ T → s1.heap.get? b = some u → z.heap.get? b = some u) →
    wpAny (model X.prog X.w) B (eval elt ge) (fun r z' => r = .bool (pb y) ∧ Keeps z z') E' z
theorem gen_tup {c T : Addr} {elt iter : Expr} {x : Str} {px gpos : Pos} {scope : Scope} {te : TE} {k : Nat} {Q' : Value → Shared → Prop} {R : List V → (V → Bool) → Hp → Prop}
    (hr : Room k X.A) (TB : TabB X.base X.mg c T) (hcode : X.env.code = .ref c) (S : GenS X.env scope x) (hi : PE X iter te) (hs : ∀ v, genFold iter X.env v = pure v) (I : Inv X pins σ H s)
    (h : te σ H fun v H1 => ∃ a xs pb, v = .ref a ∧ SqT X.K H1 a xs ∧ TabG H1 T ∧ (∀ pins s1, Inv X pins σ H1 s1 → EltT X T scope x elt s1 H1 xs pb) ∧ R xs pb H1)
    (hQ : ∀ xs pb H1 g z, R xs pb H1 → Begun X pins σ H1 T xs pb g z → Q' (.ref g) z) :
    wpAny (model X.prog X.w) X.A (eval (.GeneratorExp elt [⟨.Name x px, iter, [], 0⟩] scope gpos) X.env) Q' X.xe s := by
  have room := hr.dp
  refine wpAny_GeneratorExp_walksQD hr.hd S.co (closure_ok S.free) S.cell S.dot S.loc S.kind (by omega) (thn (hi.run pins s σ H _ I h) fun tv s1 ⟨v, H1, J, rt, a, xs, pb, ev, hx, ⟨ps, atT, okT⟩, test, goal⟩ => ?_) hs
  subst ev
  obtain rfl : tv = .ref a := rt
  obtain ⟨its, vals, tup, _⟩ := J.tuple hx
  have isT : s1.heap.IsTuple a its.toArray := tup
  have objT : s1.heap.get? T = some { cls := .none, data := .fields ps } := J.hok T _ atT
  have ltT := Heap.lt_size objT
  have lta := tup.lt
  have apart : a ≠ T := by
    rintro rfl
    obtain ⟨ob, g1, g2, _⟩ := isT
    rw [objT] at g1
    cases g1
    cases g2
  refine wpAny_pyIter_tuple isT ⟨J.nolimit.push _, ?_⟩
  generalize ei : ({ cls := .type "tuple_iterator", data := .fields #[.ref a, .int 0 0] } : Obj) = io
  have live : io.isFreed = false := by rw [← ei]; rfl
  have wide : (s1.heap.push io).objs.size = s1.heap.objs.size + 1 := Heap.size_push ..
  refine gx_code (s := { s1 with heap := s1.heap.push io }) hcode (TB.code.keeps fun b u e => Heap.get?_push_of_some _ (J.bk b u e)) (Heap.get?_push_of_some _ objT) okT fun code g tk more far big tabg good => ?_
  -- what stood ahead of the iterator stands, but for the table
  have stay : ∀ b u, b ≠ T → s1.heap.get? b = some u → g.get? b = some u := fun b u n e => far b u n (Heap.get?_push_of_some _ e)
  have itAt : g.get? s1.heap.objs.size = some io := far _ _ (Nat.ne_of_gt ltT) (Heap.get?_push_size _ live)
  have big' : s1.heap.objs.size < g.objs.size := by
    have : s1.heap.objs.size + 1 ≤ g.objs.size := wide ▸ big
    omega
  have stat : cStatics < s1.heap.objs.size ∧ cStatics ≠ T := by
    obtain ⟨_, ns, _⟩ := J.nolimit
    refine ⟨ns.lt, ?_⟩
    rintro rfl
    obtain ⟨_, _, _, g1, g2, _⟩ := ns
    rw [objT] at g1
    cases g1
    cases g2
  obtain ⟨bm, ob, b1, b2, b3, b4, b5, b6, b7, b8⟩ := TB.bm
  refine wpAny_builtinsFor (m := X.mg) (J.ok.glob ▸ ((J.mod.glob.keeps J.bk).push io).extBut far TB.gP) b1 b2 (stay _ _ b4 (J.bk _ _ b5)) b6 b7 b8 ?_
  refine ⟨s1.heap.objs.size, [s1.heap.objs.size, a], [s1.heap.objs.size], its.toArray.size, _, _, fun _ => true, fun i y => ∃ z, xs[i]? = some z ∧ y = .bool (pb z), rfl,
    fun B hB => Walks.tuple hB _ _ (Nat.ne_of_lt lta) its.toArray, ⟨⟨io, itAt, by rw [← ei], by rw [← ei]; rfl⟩, ?_⟩, ?_, (J.nolimit.push _).extBut far stat.2, ?_, fun ref old => ?_, ?_⟩
  · obtain ⟨ot, g1, g2⟩ := isT
    exact ⟨ot, stay _ _ apart g1, g2⟩
  · simp only [List.mem_cons, List.not_mem_nil, or_false]
    rintro b (rfl | rfl)
    · exact big'
    · exact Nat.lt_trans lta big'
  · simp only [List.mem_cons, List.not_mem_nil, or_false]
    exact Nat.ne_of_lt stat.1
  · refine ⟨fun B E' i v z names _ _ _ _ _ _ _ => ?_, fun B E' i v z names hB dB _ pv _ hn hx' keep => ?_⟩
    · rw [List.forIn_nil]
      exact wpAny_pure ⟨rfl, keeps_refl _⟩
    · have hv : its[i]? = some v := by simpa using pv
      obtain ⟨li, _⟩ := List.getElem?_eq_some_iff.mp hv
      have lx : i < xs.length := vals.length ▸ li
      have gx := List.getElem?_eq_getElem lx
      obtain ⟨v', hv', rel⟩ := vals.get gx
      obtain rfl : v = v' := Option.some.inj (hv.symm.trans hv')
      refine thn (test pins s1 J _ B E' xs[i] v z names rfl J.ok.glob rfl rfl hB dB hn hx' rel (List.getElem_mem lx) fun b u n e => ?_) fun r z' t => ⟨⟨xs[i], gx, t.1⟩, t.2⟩
      have inG := stay b u n e
      refine keep b (List.mem_range.mpr (Heap.lt_size inG)) ?_ u (old b u inG)
      simp only [List.mem_cons, List.not_mem_nil, or_false]
      exact Nat.ne_of_lt (Heap.lt_size e)
  · intro ga g5 tk5 gs bare _ _ keep5 walk start
    have cnt : its.toArray.size = xs.length := by rw [vals.length]; simp
    rw [cnt] at walk start
    rw [GxR.passing_true, List.length_range] at walk
    refine hQ xs pb H1 ga _ goal ⟨_, _, _, _, _, walk.in4_1, start, fun j y sj Qj Ej hy hq => ?_, fun z' mv => ?_⟩
    · obtain ⟨i, at_i, w', hw', rfl⟩ := hy
      obtain ⟨_, same⟩ := List.getElem?_eq_some_iff.mp at_i
      rw [List.getElem_range] at same
      subst same
      have val : plT pb xs j = pb w' := by simp [plT, hw']
      exact wpAny_truthy_bool (val ▸ hq)
    · have out : ∀ b u, s1.heap.get? b = some u → b ∉ [g.objs.size, s1.heap.objs.size] := fun b u e => by
        have lb := Heap.lt_size e
        simp only [List.mem_cons, List.not_mem_nil, or_false, not_or]
        exact ⟨Nat.ne_of_lt (Nat.lt_trans lb big'), Nat.ne_of_lt lb⟩
      have N := inv_tab (more := more) (h' := z'.heap) (g' := z'.gens) (d' := z'.drawn) (t' := z'.toks) J atT (fun b u n e => mv.heap b u (out b u e) (keep5 b u (stay b u n e)))
        (mv.heap T _ (out T _ objT) (keep5 T _ tabg)) (AllBare.movedS (J.bare.push bare) mv)
      rw [sh_eta s1 z' mv.os] at N
      exact ⟨_, ⟨⟨_, upd_same, good⟩, fun b n => upd_ne n⟩, N⟩
/-- all(..): true of every item; the table may have grown -/
def tAllT (X : Cx) (T : Addr) (scope : Scope) (x : Str) (elt : Expr) (te : TE) : TE := fun σ H Q => te σ H fun v H1 => ∃ a xs pb, v = .ref a ∧ SqT X.K H1 a xs ∧ TabG H1 T ∧
  (∀ pins s1, Inv X pins σ H1 s1 → EltT X T scope x elt s1 H1 xs pb) ∧ ∀ H2, Tabbed T H1 H2 → Q (.bl (xs.all pb)) H2
theorem pe_allT {c T : Addr} {elt iter : Expr} {x : Str} {px p pos gpos : Pos} {scope : Scope} {te : TE} {k : Nat}
    (hr : Room k X.A) (hg : Gl X "all") (hm : X.mg "all" = none) (TB : TabB X.base X.mg c T) (hcode : X.env.code = .ref c) (S : GenS X.env scope x) (hi : PE X iter te)
    (hs : ∀ v, genFold iter X.env v = pure v) (hb : bootBuiltins "all" = some (.builtin "all"))
    (one : starEach [.GeneratorExp elt [⟨.Name x px, iter, [], 0⟩] scope gpos] X.env = (false, eval (.GeneratorExp elt [⟨.Name x px, iter, [], 0⟩] scope gpos) X.env) :: starEach [] X.env := by rfl) :
    PE X (.Call (.Name "all" p) [.GeneratorExp elt [⟨.Name x px, iter, [], 0⟩] scope gpos] [] pos) (tAllT X T scope x elt te) := by
  constructor
  intro pins s σ H Q I h
  refine wpAny_Call_Name_kw (ld_blt I hg hm hb (PyProof.Rows.callWith_builtin1 (args_cons ?_ one) one (by rfl)))
  refine gen_tup (R := fun xs pb H1 => ∀ H2, Tabbed T H1 H2 → Q (.bl (xs.all pb)) H2) hr TB hcode S hi hs I h fun xs pb H1 g z said ⟨foot, wrt, Gs, Fv, Sn, W, st, tr, back⟩ => args_nil ?_
  refine call_all_walkS (W.self 0 _ _ _ st ⟨g, foot, wrt, Gs, _, Fv, Sn, _, rfl, W, st, tr, fun z' mv => ?_⟩)
  obtain ⟨H2, grown, N⟩ := back z' mv
  exact ⟨.bl _, H2, N, rfl, plT_all pb xs ▸ said H2 grown⟩
end
end GA
namespace GA
open PySem PySem.Spec PyProof.Rows L2 GxR

/-- a value of a built-in kind -/
def PlainV (K : PySem.W.Frag) (H : Hp) : V → Prop
  | .ref p => (∃ xs, SqL K H p xs) ∨ (∃ xs, SqT K H p xs) ∨ (∃ kvs, H p = some (.dK kvs))
  | .ty _ => False
  | _ => True
/-- is it an int from lo to hi -/
def btV (lo hi : Int) : V → Bool
  | .int i => decide (lo ≤ i) && decide (i ≤ hi)
  | _ => false
def intO : V → Option Int
  | .int i => some i
  | _ => none
theorem btV_inR (lo hi : Int) (v : V) : inR lo hi (intO v) = btV lo hi v := by cases v <;> rfl
theorem plain_kd {X : Cx} {pins : List (Addr × Obj)} {σ : L2.St} {H : Hp} {s : Shared} {x : V} {v : Value} (I : Inv X pins σ H s) (p : PlainV X.K H x) (r : RelV x v) : Kd s v (intO x) := by
  cases x with
  | non => cases (show v = Value.none from r); exact .oth (T := "NoneType") rfl (by decide) (by decide +kernel)
  | bl y => cases (show v = Value.bool y from r); exact .oth (T := "bool") rfl (by decide) (by decide +kernel)
  | int i => obtain ⟨t, rfl⟩ := (show ∃ t, v = Value.int i t from r); exact .int rfl
  | str y => obtain ⟨t, rfl⟩ := (show ∃ t, v = Value.str y t from r); exact .oth (T := "str") rfl (by decide) (by decide +kernel)
  | byt y => obtain ⟨t, rfl⟩ := (show ∃ t, v = Value.bytes y t from r); exact .oth (T := "bytes") (PySem.W.typeIs_bytes _ _ _) (by decide) (by decide +kernel)
  | flt y => obtain ⟨t, rfl⟩ := (show ∃ t, v = Value.float y t from r); exact .oth (T := "float") rfl (by decide) (by decide +kernel)
  | ty y => exact p.elim
  | ref q =>
    cases (show v = Value.ref q from r)
    rcases p with ⟨xs, h⟩ | ⟨xs, h⟩ | ⟨kvs, h⟩
    · obtain ⟨its, rv, ⟨ob, n, g, c, _, _⟩, hz⟩ := I.list h
      exact .oth (T := "list") ⟨ob, g, c⟩ (by decide) (by decide +kernel)
    · obtain ⟨its, rv, ⟨ob, g, c, k⟩, hz⟩ := I.tuple h
      exact .oth (T := "tuple") ⟨ob, g, c⟩ (by decide) (by decide +kernel)
    · obtain ⟨z, y, vs, rr, ob, es, ep, e, c, _⟩ := I.hok q _ h
      exact .oth (T := "dict") ⟨ob, e, c.1⟩ (by decide) (by decide +kernel)

/-- what the element of all(is_point(degree, x) for x in ..) needs -/
structure PtElt (scope : Scope) : Prop where
  kind : scope.kind = .function
  x : scope.names.lookup ("x" : Str) = some .local
  d : scope.names.lookup ("degree" : Str) = some .free
  p : scope.names.lookup ("is_point" : Str) = some .globalImplicit
theorem elt_point {X : Cx} {pins : List (Addr × Obj)} {σ : L2.St} {H1 : Hp} {s1 : Shared} {P : Addr} {scope : Scope} {xs : List V} {n : Int} {i k : Nat} {p1 p2 p3 p4 : Pos} {st stB : Stmt} {f fB : Addr} {fd fdB : FuncData} {q qB : Str}
    (I : Inv X pins σ H1 s1) (hP : TabG H1 P) (S : GenS X.env scope "x") (SE : PtElt scope) (hN : X.N[i]? = some ("degree" : Str)) (hσ : σ[i]? = some (some (.int n))) (hk : X.env.scope.names.lookup ("degree" : Str) = some .cell)
    (F : Fun X.K "is_point" q st f fd) (D : PtDef st) (hb : Binds X.K fd ["degree", "value"] []) (g : X.mg "is_point" = some (.ref f)) (FB : Fun X.K "is_between" qB stB fB fdB) (DB : BtDef stB) (hbB : Binds X.K fdB ["value", "low", "high"] [])
    (gB : X.mg "is_between" = some (.ref fB)) (mt : X.mg "type" = none) (mi : X.mg "int" = none) (hr : Room (k + 2) X.A) (hx : ∀ x ∈ xs, PlainV X.K H1 x) (hbP : ∀ b o, X.base.get? b = some o → b ≠ P) :
    EltT X P scope "x" (.Call (.Name "is_point" p1) [.Name "degree" p2, .Name "x" p3] [] p4) s1 H1 xs (btV 0 (n - 1)) := by
  intro cenv A' E' y v s₂ m₂ e1 e2 e3 e4 hh hd hn hm ry hy hkp
  obtain ⟨ps, hPs, _⟩ := hP
  have hPo : s1.heap.get? P = some { cls := .none, data := .fields ps } := I.hok P _ hPs
  have a2 : At X.K X.mg X.base s₂.heap := ⟨I.ok.mod, fun b o e => hkp b o (hbP b o e) (I.bk b o e)⟩
  have kf : cenv.scope.kind = .function := by rw [e1]; exact SE.kind
  obtain ⟨m, hns, hlk⟩ := I.loc
  obtain ⟨u, ru, lk⟩ := hlk i "degree" (.int n) hN hσ (.inr (.inl hk))
  obtain ⟨t, rfl⟩ := (show ∃ t, u = Value.int n t from ru)
  have kc : X.env.kindOf ("degree" : Str) = some .cell := hk
  obtain ⟨c, hc, hcell⟩ : ∃ c, X.env.cells.lookup ("degree" : Str) = some c ∧ s1.heap.IsCell c (some (.int n t)) := by
    rcases lk with ⟨z, _⟩ | ⟨_, z⟩
    · rw [kc] at z
      cases z
    · exact z
  have hc2 : cenv.cells.lookup ("degree" : Str) = some c := by
    rw [e4]
    exact NdefX.clo_has S.free (PySem.mem_of_lookup SE.d) hc
  have hcell2 : s₂.heap.IsCell c (some (.int n t)) := by
    obtain ⟨o, h1, h2⟩ := hcell
    refine ⟨o, hkp c o (fun z => ?_) h1, h2⟩
    rw [z, hPo] at h1
    cases h1
    cases h2
  refine wpAny_Call_Name_kw (nm_glob a2 kf (by rw [e1]; exact SE.p) e2 g ?_)
  refine PySem.W.callWith_K (h₀ := X.base) a2.mod.kin F.kp (args_cons ?_)
  refine wpAny_Name (wpAny_loadName_free kf (show cenv.scope.names.lookup _ = _ by rw [e1]; exact SE.d) hc2 hcell2 (args_cons ?_)) (by decide)
  refine nm_loc kf (by rw [e1]; exact SE.x) hn hm (args_nil ⟨a2.kin, ?_⟩)
  have kd := plain_kd I (hx y hy) ry
  have kd2 : Kd s₂ v (intO y) := by
    generalize intO y = oy at kd
    cases kd with
    | int h => exact .int h
    | oth h n' nb =>
      refine .oth ?_ n' nb
      cases v with
      | ref a =>
        obtain ⟨o, h1, h2⟩ := h
        refine ⟨o, hkp a o (fun z => ?_) h1, h2⟩
        rw [z, hPo] at h1
        cases h1
        cases h2
      | _ => exact h
  have hd2 : A'.depth + 2 < recursionLimit := by have := hr.dp; omega
  refine thn (lib_point (n := n) F D hb FB DB hbB gB mt mi a2 hd2 kd2) fun y' s3 r => ?_
  rw [btV_inR] at r
  exact r
end GA
/-! for k, x in enumerate(t), t a tuple -/
namespace GA
open PySem PySem.Spec PyProof.Rows L2
theorem enum_made {v : Value} {o : Obj} {H : Heap → Prop} (B : Begins v o H) :
    Meets (Builtin.«enumerate.__new__» ⟨[.type "enumerate", v], []⟩) (fun _ R z => H z.heap ∧
      R (.ok (.ret (.ref (z.heap.push o).objs.size))) { z with heap := (z.heap.push o).push { cls := .type "enumerate", data := .fields #[.none, .bool false, .ref z.heap.objs.size, rawInt 0, .none, .none] } }) := by
  refine .of_wp fun prog w A R z hz => ?_
  obtain ⟨hp, gs, dr, tk, os⟩ := z
  obtain ⟨ready, done⟩ := hz
  have sub := sub_enumerate
  have draw : ∀ {A' : Around} {E Q : Value → Shared → Prop}, Q (.ref hp.objs.size) ⟨hp.push o, gs, dr, tk, os⟩ → wpAny (model prog w) A' (pyIter v) Q E ⟨hp, gs, dr, tk, os⟩ := fun q => B.iter prog w _ _ ⟨hp, gs, dr, tk, os⟩ _ ready q
  wp_walk using draw
  refine wpAny_stack_any fun _ => wpAny_pure ?_
  split
  case' h_1 c _ _ _ _ _ => cases (c == Value.type "enumerate")
  all_goals (wp_walk using draw; exact ⟨_, rfl, done⟩)
theorem call_enum {prog : Program} {w : World} {A : Around} {E Q : Value → Shared → Prop} {z : Shared} {v : Value} {o : Obj} {H : Heap → Prop} (B : Begins v o H) (ready : H z.heap)
    (k : ∀ g, IsEnum g (z.heap.objs.size + 1) z.heap.objs.size 0 .none → g.get? z.heap.objs.size = some o → (∀ b u, z.heap.get? b = some u → g.get? b = some u) → Q (.ref (z.heap.objs.size + 1)) { z with heap := g }) :
    wpAny (model prog w) A (call (.type "enumerate") [v]) Q E z := by
  have size : (z.heap.push o).objs.size = z.heap.objs.size + 1 := Heap.size_push ..
  refine callType_new F.called_enumerate (by decide) (F.typeCall_enumerate_1 _) (F.newCall_enumerate_1 _) (fun x => F.args_object_init_2 x _) F.entry_enumerate_new (enum_made B) ⟨ready, ?_⟩
  show _ ∧ _
  rw [size]
  have here : IsEnum ((z.heap.push o).push { cls := .type "enumerate", data := .fields #[.none, .bool false, .ref z.heap.objs.size, rawInt 0, .none, .none] }) (z.heap.objs.size + 1) z.heap.objs.size 0 .none :=
    size ▸ Heap.get?_push_size (z.heap.push o) rfl
  exact ⟨⟨_, here, rfl⟩, k _ here (Heap.get?_push_of_some _ (Heap.get?_push_size _ B.free)) fun b u e => Heap.get?_push_of_some _ (Heap.get?_push_of_some _ e)⟩

/-- what the loop gets: at turn i a new pair of i and the tuple's i-th item -/
def IteT (K : PySem.W.Frag) (a : Addr) : It where
  go i H := ∃ (xs : List V) (x : V), SqT K H a xs ∧ xs[i]? = some x
  yld i H v H' := ∃ T x, v = .ref T ∧ H T = none ∧ H' = upd H T (.tup [.int (i : Nat), x]) ∧ ∀ xs, SqT K H a xs → xs[i]? = some x
  stop i H := ∃ xs : List V, SqT K H a xs ∧ xs.length ≤ i
/-- the enumerate object at e over the tuple's iterator at it, ahead of turn i -/
def AtTurn (a e it : Addr) (i : Nat) (h : Heap) : Prop := (∃ old, IsEnum h e it ((i : Nat) : Int) old) ∧ h.IsTupleIter it a i ∧ e ≠ it
section
variable {X : Cx} {pins : List (Addr × Obj)} {σ : L2.St} {H : Hp} {s : Shared} {a e it : Addr} {i : Nat} {E : Value → Shared → Prop} {elts : List Expr} {kk : Nat} {tpos : Pos}
theorem enumT_item (calm : X.calm = true) (ea : e ≠ a) (ia : it ≠ a) (I : Inv X pins σ H s) (own : ∀ b ∈ [e, it], FpOk X pins H b) (st : AtTurn a e it i s.heap) (g : (IteT X.K a).go i H) :
    wpAny (model X.prog X.w) X.A (pyNext (.ref e)) (fun r s1 => ∃ u, r = some u ∧
      wpAny (model X.prog X.w) X.A (letOwnedTupleGo (.Tuple elts kk tpos) (.ref e) u) (fun _ s2 => ∃ x H', Inv X pins σ H' s2 ∧ RelV x u ∧ (IteT X.K a).yld i H x H' ∧ AtTurn a e it (i + 1) s2.heap ∧ ∀ b ∈ [e, it], H' b = none) E s1) E s := by
  obtain ⟨⟨old, isE⟩, isI, ne⟩ := st
  obtain ⟨xs, x, hxs, hx⟩ := g
  obtain ⟨its, vals, tup, _⟩ := I.tuple hxs
  obtain ⟨u, hu, rel⟩ := vals.get hx
  have small : i < its.toArray.size := by simpa using (List.getElem?_eq_some_iff.mp hu).1
  have lte := Heap.lt_size isE
  have lti : it < s.heap.objs.size := let ⟨_, q, _⟩ := isI; Heap.lt_size q
  have outside : e ∉ [it, a] := by simp [ne, ea]
  refine wpAny_pyNext_enum_itemD (Draws.tuple (A := X.A.in1) (I.ok.hd calm) it a (Ne.symm ia) its.toArray) isE ⟨isI, tup⟩ small ne outside fun w' g tk got out next pair _ old' => ?_
  obtain rfl : u = w' := by
    have q : its[i]? = some w' := by simpa using got
    exact Option.some.inj (hu.symm.trans q)
  refine ⟨_, rfl, wpAny_letOwnedTupleGo_enum (s := { s with heap := g, toks := tk + 1 }) out fun g2 isE2 only => ?_⟩
  have pair2 := (only.2 _ (Nat.ne_of_gt lte)).trans pair
  have told : ObjOk X.prog X.w (upd H s.heap.objs.size (.tup [.int (i : Nat), x])) g2 s.heap.objs.size (.tup [.int (i : Nat), x]) :=
    ⟨(by decide : 2 ≤ sizeLine), [.int i tk, u], .cons ⟨_, rfl⟩ (.cons rel .nil), _, pair2, rfl, _, rfl⟩
  have J := I.turnedNew (ch := [e, it]) (h' := g2) (t' := tk + 1) (fun b o hb q => by
    simp only [List.mem_cons, List.not_mem_nil, or_false, not_or] at hb
    exact (only.2 b hb.1).trans (old' b o hb.1 hb.2 q)) own (Nat.le_refl _) told
  have fresh := I.hok.fresh (Nat.le_refl s.heap.objs.size)
  refine ⟨.ref s.heap.objs.size, _, J, rfl, ⟨_, x, rfl, fresh, rfl, fun ys hy => I.tuple_inj hxs hy ▸ hx⟩, ⟨⟨u, ?_⟩, next.1.at fun o q => (only.2 it (Ne.symm ne)).trans q, ne⟩, ?_⟩
  · rw [Int.natCast_succ]
    exact isE2
  · simp only [List.mem_cons, List.not_mem_nil, or_false]
    rintro b (rfl | rfl)
    · exact (upd_ne (Nat.ne_of_lt lte)).trans (own _ (by simp)).1
    · exact (upd_ne (Nat.ne_of_lt lti)).trans (own _ (by simp)).1
theorem enumT_end (calm : X.calm = true) (I : Inv X pins σ H s) (own : ∀ b ∈ [e, it], FpOk X pins H b) (st : AtTurn a e it i s.heap) (g : (IteT X.K a).stop i H) :
    wpAny (model X.prog X.w) X.A (pyNext (.ref e)) (fun r s1 => r = none ∧ Inv X pins σ H s1) E s := by
  obtain ⟨⟨_, isE⟩, isI, _⟩ := st
  obtain ⟨xs, hxs, past⟩ := g
  obtain ⟨its, vals, tup, _⟩ := I.tuple hxs
  have far : its.toArray.size ≤ i := by rw [List.size_toArray, ← vals.length]; exact past
  have typ : s.TypeIs (.ref e) "enumerate" := ⟨_, isE, rfl⟩
  obtain ⟨f0, f1, f2, f3, f4, f5⟩ := own it (by simp)
  unfold pyNext
  refine wpAny_bind (wpAny_attempt (wpAny_callSpecial?_slot (name := Str.ofString "__next__") typ F.slot_enumerate_next (wpAny_call_entry F.slot_enumerate_next typ F.entry_enumerate_next ?_ (F.args_enumerate_next_1 _))))
  refine wpAny_bind (m := field (.ref e) 2) (wpAny_field isE rfl (x := .ref it) rfl (wpAny_bind (wpAny_nextOf_tuple_end (I.ok.hd calm) isI tup (Array.getElem?_eq_none far) fun g x kept ⟨o, ho, cls⟩ => ?_)))
  exact wpAny_bind (wpAny_isInstance (T := "StopIteration") (b := true) ⟨o, ho, cls⟩ isSubtype_stop (wpAny_pure ⟨rfl, I.turned (t' := s.toks) (fun b o n q => kept b o n q) f0 f1 f3 f4 f5⟩))
end
theorem turn_enumT {P : Program} {w : World} {K : PySem.W.Frag} {elts : List Expr} {kk : Nat} {tpos : Pos} (a e it : Addr) (ea : e ≠ a) (ia : it ≠ a) : Turn P w K (.Tuple elts kk tpos) (IteT K a) [e, it] e (AtTurn a e it) where
  mem := List.mem_cons_self ..
  obj i h st := by
    obtain ⟨⟨_, isE⟩, ⟨o, ho, _, hd⟩, _⟩ := st
    simp only [List.mem_cons, List.not_mem_nil, or_false]
    rintro b (rfl | rfl)
    · exact ⟨_, isE, fun _ q => nomatch q⟩
    · exact ⟨o, ho, fun _ q => by cases hd.symm.trans q⟩
  keep i h h' st k := ⟨st.1.imp fun _ q => k e (by simp) _ q, st.2.1.at fun o q => k it (by simp) o q, st.2.2⟩
  item X e1 e2 e3 calm i pins s σ H E I own st g := by
    subst e1 e2 e3
    exact enumT_item calm ea ia I own st g
  done X e1 e2 e3 calm i pins s σ H E I own st g := by
    subst e1 e2 e3
    exact enumT_end calm I own st g
  self A i s Q E st q := let ⟨⟨_, isE⟩, _⟩ := st; wpAny_pyIter_enum isE q
def iEnumT (K : PySem.W.Frag) (ta : TA) : TI := fun σ H R => ta σ H fun vs H1 => ∃ a xs, vs = [.ref a] ∧ SqT K H1 a xs ∧ R (IteT K a) H1
theorem pi_enumT {X : Cx} {e : Expr} {ta : TA} {p pos tpos : Pos} {elts : List Expr} {kk : Nat} (hg : Gl X "enumerate") (hm : X.mg "enumerate" = none) (ha : PA X [e] ta) (one : starEach [e] X.env = [(false, eval e X.env)] := by rfl) :
    PI X (.Tuple elts kk tpos) (.Call (.Name "enumerate" p) [e] [] pos) (iEnumT X.K ta) := by
  constructor
  intro pins s σ H R I h
  refine Call_ (ld_blt I hg hm boot_enumerate (PyProof.Rows.callWith_type1 (thn (ha.run pos pins s σ H _ I h) fun us s1 ⟨vs, H1, J, rel, a, xs, ev, hxs, go⟩ => ?_) one rfl))
  subst ev
  obtain ⟨its, vals, tup, _⟩ := J.tuple hxs
  have lta := tup.lt
  rw [Vals.ref1 rel]
  refine call_enum (begins_tuple a its.toArray) tup fun g isE isI keep => wpAny_pyIter_enum isE ?_
  refine ⟨s1.heap.objs.size + 1, [s1.heap.objs.size + 1, s1.heap.objs.size], _, _, H1, rfl, J.kept (t' := s1.toks) keep, turn_enumT a _ _ (Nat.ne_of_gt (Nat.lt_succ_of_lt lta)) (Nat.ne_of_gt lta), ⟨⟨.none, isE⟩, ⟨_, isI, rfl, rfl⟩, Nat.succ_ne_self _⟩, ?_, go⟩
  simp only [List.mem_cons, List.not_mem_nil, or_false]
  rintro b (rfl | rfl)
  · exact J.fpOk (Nat.le_succ _) (J.hok.fresh (Nat.le_succ _))
  · exact J.fpOk (Nat.le_refl _) (J.hok.fresh (Nat.le_refl _))
theorem walk_enumT {K : PySem.W.Frag} {a : Addr} {xs : List V} : Walk (IteT K a) xs.length (fun H => SqT K H a xs) (YPair (fun i => some (.int (i : Nat))) (fun i => xs[i]?)) where
  goes i H hi h := ⟨xs, xs[i], h, List.getElem?_eq_getElem hi⟩
  stops H h := ⟨xs, h, Nat.le_refl _⟩
  yields i H v H' hi h y := let ⟨T, x, e, n, e2, f⟩ := y; ⟨T, _, x, e, n, e2, rfl, f xs h⟩
end GA
namespace GA
open PySem PySem.Spec PyProof.Rows L2 GxR

/-! ### sizes of sets -/
theorem len_le_sub : ∀ {ks ns : List Int}, ks.Nodup → (∀ k ∈ ks, k ∈ ns) → ks.length ≤ ns.length
  | [], _, _, _ => Nat.zero_le _
  | k :: ks, ns, hn, hs => by
    have h1 : k ∈ ns := hs k (List.mem_cons_self ..)
    have hn' := List.nodup_cons.mp hn
    have h2 : ks.length ≤ (ns.erase k).length := len_le_sub hn'.2 fun j hj => by
      have hne : j ≠ k := fun e => hn'.1 (e ▸ hj)
      exact (List.mem_erase_of_ne hne).mpr (hs j (List.mem_cons_of_mem _ hj))
    rw [List.length_erase_of_mem h1] at h2
    have h3 : 0 < ns.length := List.length_pos_of_mem h1
    show ks.length + 1 ≤ ns.length
    omega
theorem len_nodup {ks ns : List Int} (hk : ks.Nodup) (h : ∀ k, k ∈ ks ↔ k ∈ ns) (hn : ns.Nodup) : ks.length = ns.length :=
  Nat.le_antisymm (len_le_sub hk fun k z => (h k).mp z) (len_le_sub hn fun k z => (h k).mpr z)
theorem nodup_of_len {ks ns : List Int} (hk : ks.Nodup) (h : ∀ k, k ∈ ks ↔ k ∈ ns) (he : ks.length = ns.length) : ns.Nodup := by
  apply Classical.byContradiction
  intro hn
  obtain ⟨ms, hl, hm⟩ : ∃ ms : List Int, ms.length < ns.length ∧ ∀ k ∈ ns, k ∈ ms := by
    clear hk h he
    induction ns with
    | nil => exact absurd List.nodup_nil hn
    | cons x r ih =>
      by_cases hx : x ∈ r
      · exact ⟨r, Nat.lt_succ_self _, fun k hk => by
          rcases List.mem_cons.mp hk with z | z
          · rw [z]; exact hx
          · exact z⟩
      · obtain ⟨ms, hl, hm⟩ := ih fun z => hn (List.nodup_cons.mpr ⟨hx, z⟩)
        exact ⟨x :: ms, Nat.succ_lt_succ hl, fun k hk => by
          rcases List.mem_cons.mp hk with z | z
          · rw [z]; exact List.mem_cons_self ..
          · exact List.mem_cons_of_mem _ (hm k z)⟩
  have := len_le_sub hk fun k z => hm k ((h k).mp z)
  omega
/-- len(set(t)), t a tuple of ints -/
def tLenSetT (K : PySem.W.Frag) (ta : TE) : TE := fun σ H Q => ta σ H fun x H1 => ∃ (l : Addr) (ns : List Int), x = .ref l ∧ SqT K H1 l (ns.map V.int) ∧ ns.length ≤ 4000 ∧ ∀ ks : List Int, ks.Nodup → (∀ k, k ∈ ks ↔ k ∈ ns) → Q (.int (ks.length : Nat)) H1
theorem pe_lenSetT {X : Cx} {a : Expr} {ta : TE} {p p2 q pos : Pos} (hg : Gl X "len") (hm : X.mg "len" = none) (hg2 : Gl X "set") (hm2 : X.mg "set" = none) (ha : PE X a ta) (hc : X.calm = true := by rfl)
    (na : starEach [a] X.env = (false, eval a X.env) :: starEach [] X.env := by rfl) : PE X (.Call (.Name "len" p) [.Call (.Name "set" p2) [a] [] q] [] pos) (tLenSetT X.K ta) := by
  refine ⟨fun pins s σ H Q I h => ?_⟩
  refine Call_ (ld_blt I hg hm boot_len ?_)
  refine PyProof.Rows.callWith_builtin1 (PyProof.Rows.args_cons ?_ rfl) rfl rfl
  refine Call_ (ld_blt I hg2 hm2 boot_set ?_)
  refine PyProof.Rows.callWith_type1 (PyProof.Rows.args_cons (thn (ha.run pins s σ H _ I h) fun v s1 ⟨x, H1, I1, r1, q1⟩ => PyProof.Rows.args_nil ?_) na) na rfl
  obtain ⟨l, ns, rfl, hq, hl, q1⟩ := q1
  cases r1
  obtain ⟨its, r, pl, hz⟩ := I1.tuple hq
  refine call_set_tupI ns (I1.ok.hd hc) (show s1.heap.IsTuple l its.toArray from pl) (by simpa using RZ.intsAre_vals r) (by unfold scanBound; omega) fun h' tk c hS hle hk => ?_
  refine PyProof.Rows.args_nil ?_
  obtain ⟨o, es, ep, t, ho, hex, hd, _, hnd, hmem, _, hf, hn, _⟩ := hS
  have I2 : Inv X pins σ H1 { s1 with heap := h', toks := tk } := I1.kept fun b o e => hk b o e
  have q2 := q1 (es.toList.map keyOf) hnd (fun k => by rw [← hmem k, decide_eq_true_iff])
  rw [List.length_map, Array.length_toList] at q2
  exact call_len_set ho hex hd hf (by rw [hn] <;> omega) ⟨.int es.size, H1, I2.tok _, ⟨_, rfl⟩, q2⟩

/-! ### facts by names -/
def fdK (K : PySem.W.Frag) (x : Str) : FuncData := match K.lookup (He.ga K x) with
  | some ⟨_, _, .func fd, _⟩ => fd
  | _ => PySem.W.fnOf "" "" { posonlyargs := [], args := [], vararg := none, kwonlyargs := [], kw_defaults := [], kwarg := none, defaults := [] } [] { kind := .function, names := [], isGenerator := false, isCoroutine := false } .none .none .none .none none .none .none
theorem fun_of {K : PySem.W.Frag} {x q : Str} {st : Stmt} (h : ∃ fd, FunD K x q (defArgs st) (defBody st) (defScope st) [] [] (He.ga K x) fd) : Fun K x q st (He.ga K x) (fdK K x) := by
  obtain ⟨fd, F⟩ := h
  obtain ⟨oc, od, dV, kV, doc, pm, an, cdv, ct, osl, e, lk, hcd, hD, hK⟩ := F.ex
  have ed : dV = .none := by
    rcases hD with ⟨_, z⟩ | ⟨z, _⟩
    · exact z
    · exact absurd rfl z
  subst ed
  have ef : fdK K x = fd := by
    unfold fdK
    rw [lk]
  rw [ef]
  exact ⟨⟨oc, od, kV, doc, pm, an, cdv, ct, osl, e, lk, hcd⟩, F.kp⟩
/-- THE RULE for a def whose code object is asked for -/
theorem okC {P : Program} {w : World} {K : PySem.W.Frag} {mg : Str → Option Value} {base : Heap} {x qual : Str} {st : Stmt} {fd : FuncData} {N ps : List Str} {k : Nat} {sp : Sp} (F : Fun K x qual st (He.ga K x) fd) (S : FnScope N ps (defScope st)) (len : ∀ vs H Q E, sp vs H Q E → vs.length = ps.length)
    (hbody : ∀ (cdv : Value) (A : Around) (outer : List Env) (s : Shared) (H : Hp) (vs : List V) (Q : VK) (E : XK), cdv = .ref (He.cT K (x, none)).1 → Room k (A.deeper (envOfC qual (defScope st) s.heap.objs.size (He.ga K x) cdv)) → sp vs H Q E →
      ∃ t, PSs (cxOf CX0 P w K mg base N qual (defScope st) (He.ga K x) cdv A outer s H E).nox (defBody st) t ∧ t { nx := fun _ H' => Q .non H', rt := Q } (start N vs) H) : FnOk P w K mg base CX0 (k + 1) (He.ga K x) fd ps sp := by
  obtain ⟨oc, od, kV, doc, pm, an, cdv, ct, osl, rfl, lk, hcd⟩ := F.ex
  obtain ⟨c, rfl⟩ := He.codeIn_ref hcd
  have ec : He.codeOf K (x, none) = c := He.codeOf_eq (p := (x, none)) lk rfl
  refine fn_of lk hcd S len fun A outer s H vs Q E hr hsp => ?_
  obtain ⟨t, h, q⟩ := hbody (.ref c) A outer s H vs Q E (by show _ = Value.ref (He.codeOf K (x, none)); rw [ec]) hr hsp
  exact ⟨t, h.nox, q⟩
theorem gi_ok {mg : Str → Option Value} {x : Str} {i : Int} (h : ∃ t, mg x = some (.int i t)) : ∃ u, mg x = some u ∧ RelV (.int i) u := let ⟨t, e⟩ := h; ⟨_, e, t, rfl⟩
theorem gs_ok {mg : Str → Option Value} {x z : Str} (h : ∃ t, mg x = some (.str z t)) : ∃ u, mg x = some u ∧ RelV (.str z) u := let ⟨t, e⟩ := h; ⟨_, e, t, rfl⟩
theorem deepOf {k : Nat} {A : Around} (hr : Room k A) : A.units + 64 < cLine := by have := hr.un; omega
theorem hu0 {k : Nat} {A : Around} (hr : Room k A) : A.units < cLine := by have := hr.un; omega

theorem genS_by {env : Env} {scope : Scope} {x : Str} (h1 : scope.kind = .function) (h2 : scope.isCoroutine = false) (h3 : ∀ y ∈ scope.names, y.2 ≠ .cell) (h4 : scope.names.lookup (".0" : Str) = some NameKind.local) (h5 : scope.names.lookup x = some .local)
    (h : (scope.names.all fun y => match y.2 with | .free => (env.cells.lookup y.1).isSome | _ => true) = true) : GenS env scope x := by
  refine ⟨h1, h2, h3, h4, h5, fun y hy e => ?_⟩
  have q := List.all_eq_true.mp h y hy
  rw [e] at q
  exact Option.isSome_iff_exists.mp q
theorem base_ne {X : Cx} {pins : List (Addr × Obj)} {σ : L2.St} {H : Hp} {s : Shared} {P : Addr} (I : Inv X pins σ H s) (t : TabG H P) : ∀ b o, X.base.get? b = some o → b ≠ P := fun b o e z => by
  obtain ⟨ps, h, _⟩ := t
  have q := (I.bs b o e).2
  rw [z, h] at q
  cases q
/-! ### rules with the written part told (within a comprehension it must not hang on the block) -/
section
variable {X : Cx} {K : PySem.W.Frag}
theorem ixT (h : X.K = K) : IxR X (rIxT K) := by subst h; exact ix_tup
theorem ixL (h : X.K = K) : IxR X (rIxL K) := by subst h; exact ix_list
theorem lenS (h : X.K = K) : CallR X (.builtin "len") (fun xs H Q => ∃ p ys, xs = [.ref p] ∧ (SqL K H p ys ∨ SqT K H p ys) ∧ Q (.int ys.length) H) := by subst h; exact call_len_seq
theorem inS (h : X.K = K) : OpR X (compareOp .In) (rIn K false) := by subst h; exact op_in_seq
theorem ninS (h : X.K = K) : OpR X (compareOp .NotIn) (rIn K true) := by subst h; exact op_notIn_seq
theorem eqD (h : X.K = K) {k : Nat} (hr : Room k X.A) : OpR X (compareOp .Eq) (rEqD K) := by subst h; exact op_eqD (deepOf hr)
theorem neD (h : X.K = K) {k : Nat} (hr : Room k X.A) : OpR X (compareOp .NotEq) (rNeD K) := by subst h; exact op_neD (deepOf hr)
theorem catA (h : X.K = K) : OpR X (binaryOp .Add) (rCatA K) := by subst h; exact op_catA
theorem isiK (h : X.K = K) : CallR X (.builtin "isinstance") (rIsi K) := by subst h; exact call_isi
theorem isiTK (h : X.K = K) : CallR X (.builtin "isinstance") (rIsiT K) := by subst h; exact call_isiT
theorem lstOf (h : X.K = K) : CallR X (.type "list") (fun xs H Q => ∃ p ys, xs = [.ref p] ∧ (SqL K H p ys ∨ SqT K H p ys) ∧ ∀ l, H l = none → Q (.ref l) (upd H l (.lst ys))) := by subst h; exact call_list_of
theorem slL (h : X.K = K) : SlR X (rSlL K) := by subst h; exact sl_list
theorem slA (h : X.K = K) : SlR X (rSlA K) := by subst h; exact sl_tupA
theorem pe_tupK {a : Expr} {ta : TE} {p pos : Pos} (h : X.K = K) (hg : Gl X "tuple") (hm : X.mg "tuple" = none) (ha : PE X a ta) (na : starEach [a] X.env = (false, eval a X.env) :: starEach [] X.env := by rfl) : PE X (.Call (.Name "tuple" p) [a] [] pos) (tThen ta (kTup K)) := by subst h; exact pe_tupleOf hg hm ha na
theorem piT {tg l : Expr} {tl : TE} (h : X.K = K) (hl : PE X l tl) : PI X tg l (iTup K tl) := by subst h; exact pi_tup hl
theorem piL {tg l : Expr} {tl : TE} (h : X.K = K) (hl : PE X l tl) : PI X tg l (iList K tl) := by subst h; exact pi_list hl
end
theorem yesI {σ : L2.St} {H : Hp} {A B : Hp → Prop} (h : A H) : tYes σ H (fun b H3 => if b = true then A H3 else B H3) := by
  show if true = true then A H else B H
  exact iteT h
/-! ### heaps -/
/-- a list that is a row of draws: [the script, int, int, int] -/
def RowO (o : HO) : Prop := ∃ (s : Addr) (i j k : Int), o = .lst [.ref s, .int i, .int j, .int k]
/-- what nobody changes behind its maker's back -/
def Stable : HO → Prop
  | .tbl _ => False
  | .lst xs => ¬ RowO (.lst xs)
  | _ => True
def RowAt (H : Hp) (r s : Addr) : Prop := ∃ i j k : Int, H r = some (.lst [.ref s, .int i, .int j, .int k]) ∧ 0 ≤ i ∧ 0 ≤ j ∧ j < 2147483648 ∧ 0 ≤ k
structure Ex (H H' : Hp) : Prop where
  st : ∀ a o, H a = some o → Stable o → H' a = some o
  tab : ∀ P, TabG H P → TabG H' P
  row : ∀ r s, RowAt H r s → RowAt H' r s
  no : ∀ a, H' a = none → H a = none
theorem Ex.refl (H : Hp) : Ex H H := ⟨fun _ _ h _ => h, fun _ h => h, fun _ _ h => h, fun _ h => h⟩
theorem Ex.trans {H H1 H2 : Hp} (a : Ex H H1) (b : Ex H1 H2) : Ex H H2 := ⟨fun x o h s => b.st x o (a.st x o h s) s, fun P h => b.tab P (a.tab P h), fun r s h => b.row r s (a.row r s h), fun x h => a.no x (b.no x h)⟩
theorem Ex.new {H : Hp} {p : Addr} {o : HO} (h : H p = none) : Ex H (upd H p o) := by
  refine ⟨fun a u e _ => ?_, fun P t => ?_, fun r s t => ?_, fun a e => ?_⟩
  · rw [upd_ne (ne_of_none e h)]; exact e
  · obtain ⟨ps, e, t⟩ := t
    exact ⟨ps, by rw [upd_ne (ne_of_none e h)]; exact e, t⟩
  · obtain ⟨i, j, k, e, t⟩ := t
    exact ⟨i, j, k, by rw [upd_ne (ne_of_none e h)]; exact e, t⟩
  · by_cases z : a = p
    · rw [z]; exact h
    · rw [upd_ne z] at e; exact e
/-- an object that is new behind H changes -/
theorem Ex.own {H H1 : Hp} {p : Addr} {o : HO} (x : Ex H H1) (h : H p = none) : Ex H (upd H1 p o) := by
  refine ⟨fun a u e s => ?_, fun P t => ?_, fun r s t => ?_, fun a e => ?_⟩
  · rw [upd_ne (ne_of_none e h)]; exact x.st a u e s
  · obtain ⟨ps, e, _⟩ := id t
    obtain ⟨ps', e', t'⟩ := x.tab P t
    exact ⟨ps', by rw [upd_ne (ne_of_none e h)]; exact e', t'⟩
  · obtain ⟨_, _, _, e, _⟩ := id t
    obtain ⟨i, j, k, e', t'⟩ := x.row r s t
    exact ⟨i, j, k, by rw [upd_ne (ne_of_none e h)]; exact e', t'⟩
  · by_cases z : a = p
    · rw [z]; exact h
    · rw [upd_ne z] at e; exact x.no a e
/-- a table has grown -/
theorem Ex.tabbed {H H' : Hp} {P : Addr} (hP : TabG H P) (t : Tabbed P H H') : Ex H H' := by
  obtain ⟨ps, e0, _⟩ := hP
  have nP : ∀ a o, H a = some o → (∀ q, o ≠ .tbl q) → a ≠ P := fun a o e n z => by
    rw [z, e0] at e
    exact n ps (Option.some.inj e).symm
  refine ⟨fun a o e s => ?_, fun Q q => ?_, fun r s q => ?_, fun a e => ?_⟩
  · rw [t.2 a (nP a o e fun q z => by rw [z] at s; exact s)]; exact e
  · by_cases z : Q = P
    · rw [z]; exact t.1
    · obtain ⟨ps', e', t'⟩ := q
      exact ⟨ps', by rw [t.2 Q z]; exact e', t'⟩
  · obtain ⟨i, j, k, e, q⟩ := q
    exact ⟨i, j, k, by rw [t.2 r (nP r _ e fun q z => by cases z)]; exact e, q⟩
  · by_cases z : a = P
    · obtain ⟨ps', e', _⟩ := t.1
      rw [z, e'] at e
      cases e
    · rw [t.2 a z] at e; exact e
/-- the row is drawn from -/
theorem Ex.draw {H : Hp} {r s : Addr} {i j k : Int} (h : RowAt H r s) (hi : 0 ≤ i) (hj : 0 ≤ j) (hj2 : j < 2147483648) (hk : 0 ≤ k) : Ex H (upd H r (.lst [.ref s, .int i, .int j, .int k])) := by
  obtain ⟨i0, j0, k0, e0, _⟩ := h
  refine ⟨fun a u e st => ?_, fun P t => ?_, fun r' s' t => ?_, fun a e => ?_⟩
  · have z : a ≠ r := fun z => by
      rw [z, e0] at e
      cases e
      exact st ⟨s, i0, j0, k0, rfl⟩
    rw [upd_ne z]; exact e
  · obtain ⟨ps, e, t⟩ := t
    have z : P ≠ r := fun z => by
      rw [z, e0] at e
      cases e
    exact ⟨ps, by rw [upd_ne z]; exact e, t⟩
  · obtain ⟨i1, j1, k1, e, t⟩ := t
    by_cases z : r' = r
    · rw [z, e0] at e
      cases e
      exact ⟨i, j, k, by rw [z]; exact upd_same, hi, hj, hj2, hk⟩
    · exact ⟨i1, j1, k1, by rw [upd_ne z]; exact e, t⟩
  · by_cases z : a = r
    · rw [z, upd_same] at e; cases e
    · rw [upd_ne z] at e; exact e
section
variable {K : PySem.W.Frag} {H H' : Hp} {a p : Addr} {xs ys : List V} {o : HO}
theorem Ex.t (e : Ex H H') (h : SqT K H a xs) : SqT K H' a xs := by
  rcases h with (h | ⟨o, h⟩) | h
  · exact .inl (.inl (e.st _ _ h trivial))
  · exact .inl (.inr ⟨o, e.st _ _ h trivial⟩)
  · exact .inr h
theorem Ex.l (e : Ex H H') (n : ¬ RowO (.lst xs)) (h : SqL K H a xs) : SqL K H' a xs := by
  rcases h with (h | ⟨o, h⟩) | h
  · exact .inl (.inl (e.st _ _ h n))
  · exact .inl (.inr ⟨o, e.st _ _ h trivial⟩)
  · exact .inr h
theorem ints_norow {ns : List Int} : ¬ RowO (.lst (ns.map V.int)) := fun ⟨s, i, j, k, e⟩ => by
  have e1 : ns.map V.int = [.ref s, .int i, .int j, .int k] := HO.lst.inj e
  cases ns with
  | nil => cases e1
  | cons x r => cases (List.cons.inj e1).1
theorem nil_norow : ¬ RowO (.lst []) := fun ⟨s, i, j, k, e⟩ => by cases e
theorem Ex.i {ns : List Int} (e : Ex H H') (h : H a = some (.lst (ns.map V.int))) : H' a = some (.lst (ns.map V.int)) := e.st _ _ h ints_norow
theorem sq_new : SqT K (upd H p (.tup xs)) p xs := .inl (.inl upd_same)
theorem sl_new : SqL K (upd H p (.lst xs)) p xs := .inl (.inl upd_same)
theorem sl_at (h : H p = some (.lst xs)) : SqL K H p xs := .inl (.inl h)
end
end GA
namespace GA
open PySem PySem.Spec PyProof.Rows L2 GxR
open Srt in
theorem sorted_ordT {prog : Program} {w : World} {A : Around} {E : Value → Shared → Prop} {s : Shared} {t : Addr} {vs : List Value} {ltv : Value → Value → Bool} {Q : Value → Shared → Prop} (O : SrtO.Swo ltv) (ht : s.heap.IsTuple t vs.toArray) (hz : vs.length ≤ sizeLine)
    (hS : 2 ≤ vs.length → ∀ (h₁ : Heap) (a : Addr), SrtO.SortableO prog w A.in1.in1 { s with heap := h₁ } a vs ltv)
    (h : ∀ (out : List Value) (h1 h' : Heap) (e : Nat), SrtO.Srtd ltv out → SrtO.Stb ltv out vs → (∀ b o, s.heap.get? b = some o → h1.get? b = some o) → h'.get? h1.objs.size = some (seqObj "list" out.toArray e) → (∀ b o, h1.get? b = some o → h'.get? b = some o) → Q (.ref h1.objs.size) { s with heap := h' }) :
    wpAny (model prog w) A (call (.builtin "sorted") [.ref t]) Q E s := by
  refine Calls.call_function_entry kind_sorted plain_sorted entry_sorted (args_sorted1 _) ?_
  unfold Builtin.«sorted»
  refine wpAny_bind (m := checkCount "sorted" 1 1 _) (wpAny_pure ?_)
  obtain ⟨o, ho, hc, n, hd⟩ := ht
  refine wpAny_bind (wpAny_collect_seq t (.inr rfl) ho hc hd (fun h1 hk => ?_) (by rw [List.size_toArray]; exact hz))
  have e0 : vs.toArray.toList = vs := by simp
  rw [e0]
  refine wpAny_bind (wpAny_newList ?_ hz)
  have hoL : (h1.push (seqObj "list" vs.toArray 0)).get? h1.objs.size = some (seqObj "list" vs.toArray 0) := Heap.get?_push_size _ rfl
  refine wpAny_bind (wpAny_holding (wpAny_call_entry slot_list_sort ⟨_, hoL, rfl⟩ entry_list_sort (SrtO.list_sort_ord O hoL hz (fun h2 => hS h2 _ _) fun out hs hb => ⟨_, rfl, ?_⟩) (args_list_sort _)))
  obtain ⟨e, he⟩ := sortedHeap_at (vs := vs) (out := out.toArray) hoL
  refine wpAny_pure ⟨_, rfl, h out h1 _ e hs hb hk he fun b u q => ?_⟩
  have hlt : b < h1.objs.size := Heap.lt_size q
  have hlt2 : b < (h1.push (seqObj "list" vs.toArray 0)).objs.size := by rw [Heap.size_push]; exact Nat.lt_succ_of_lt hlt
  rw [sortedHeap_old (Nat.ne_of_lt hlt) hlt2]
  exact Heap.get?_push_of_some _ q
/-- sorted(t), t a tuple of ints -/
def rSortedTI (K : PySem.W.Frag) : List V → Hp → VK → Prop := fun vs H Q => ∃ (a : Addr) (ns : List Int), vs = [V.ref a] ∧ SqT K H a (ns.map V.int) ∧ ∀ (ns' : List Int) (p : Addr), ns'.Perm ns → ns'.Pairwise (· ≤ ·) → H p = none → Q (.ref p) (upd H p (.lst (ns'.map V.int)))
theorem cr_sortedTI {X : Cx} : CallR X (.builtin "sorted") (rSortedTI X.K) := by
  intro pins s σ H vs us Q I r h
  obtain ⟨a, ns, rfl, hs, q⟩ := h
  obtain ⟨its, rv, hl, hz⟩ := I.tuple hs
  rw [Vals.ref1 r]
  have hi := rv.ints
  refine sorted_ordT SrtO.swo_int (show s.heap.IsTuple a its.toArray from hl) (by rw [← rv.length]; exact hz) (fun h2 h₁ a' => SrtO.ints_sortable hi h2) fun out h1 h' ep o1 o2 hk he hk' => ?_
  obtain ⟨k1, k2, k3⟩ := SrtO.ints_out hi o1 o2
  have hlen : ((out.map SrtO.iv).map V.int).length ≤ sizeLine := by
    rw [List.length_map, k2.length_eq]
    rw [List.length_map] at hz
    exact hz
  have I1 : Inv X pins σ H { s with heap := h1 } := I.kept (t' := s.toks) hk
  exact ⟨.ref _, upd H h1.objs.size (.lst ((out.map SrtO.iv).map V.int)), I1.laid (t' := s.toks) hk' (Nat.le_refl _) ⟨hlen, out, ep, vals_of_ints k1, he⟩, rfl, q _ _ k2 k3 (I1.hok.fresh (Nat.le_refl _))⟩
theorem srtT {X : Cx} {K : PySem.W.Frag} (h : X.K = K) : CallR X (.builtin "sorted") (rSortedTI K) := by subst h; exact cr_sortedTI
theorem srtL {X : Cx} {K : PySem.W.Frag} (h : X.K = K) : CallR X (.builtin "sorted") (rSortedI K) := by subst h; exact cr_sortedI
end GA
/-! promises and the mathematics behind them: checks of permutations, products, inverses, draws -/
namespace KL
open PySem PySem.Spec PyProof.Rows L2 GA GxR
section
variable {K : PySem.W.Frag}
def TyK (H : Hp) (v : V) : Prop := ∃ n, zTyV v H = some n
theorem zty_int (v : V) (H : Hp) : zTyV v H = some "int" → ∃ i, v = .int i := by
  intro h
  cases v with
  | int i => exact ⟨i, rfl⟩
  | ref p =>
    have h : (match H p with
      | some (.lst _) => some "list"
      | some (.tup _) => some "tuple"
      | _ => none) = some "int" := h
    split at h
    · exact absurd (Option.some.inj h) (by decide)
    · exact absurd (Option.some.inj h) (by decide)
    · cases h
  | ty y => exact absurd h (by simp [zTyV])
  | non => exact absurd (Option.some.inj h) (by decide)
  | bl => exact absurd (Option.some.inj h) (by decide)
  | str => exact absurd (Option.some.inj h) (by decide)
  | byt => exact absurd (Option.some.inj h) (by decide)
  | flt => exact absurd (Option.some.inj h) (by decide)
/-- the items, if it is a tuple -/
def tupO : Option HO → Option (List V)
  | some (.tup xs) => some xs
  | _ => none
def tupOf (H : Hp) : V → Option (List V)
  | .ref a => tupO (H a)
  | _ => none
theorem tupO_some {o : Option HO} {xs : List V} (h : tupO o = some xs) : o = some (.tup xs) := by
  unfold tupO at h
  split at h
  · rw [Option.some.inj h]
  · cases h
theorem tupOf_some {H : Hp} {v : V} {xs : List V} (h : tupOf H v = some xs) : ∃ a, v = .ref a ∧ H a = some (.tup xs) := by
  cases v with
  | ref a => exact ⟨a, rfl, tupO_some h⟩
  | _ => cases h
theorem tupOf_at {H : Hp} {a : Addr} {xs : List V} (h : H a = some (.tup xs)) : tupOf H (.ref a) = some xs := by
  show tupO (H a) = some xs
  rw [h]
  rfl
theorem zty_tup (v : V) (H : Hp) (xs : List V) (h : tupOf H v = some xs) : zTyV v H = some "tuple" := by
  obtain ⟨a, rfl, e⟩ := tupOf_some h
  simp only [zTyV, e]
theorem zty_not (v : V) (H : Hp) (n : String) (h : zTyV v H = some n) (hn : tupOf H v = none) : n ≠ "tuple" := by
  intro z
  subst z
  cases v with
  | ref p =>
    have h : (match H p with
      | some (.lst _) => some "list"
      | some (.tup _) => some "tuple"
      | _ => none) = some "tuple" := h
    split at h
    · exact absurd (Option.some.inj h) (by decide)
    · rename_i e
      rw [tupOf_at e] at hn
      cases hn
    · cases h
  | ty y => exact absurd h (by simp [zTyV])
  | non => exact absurd (Option.some.inj h) (by decide)
  | bl => exact absurd (Option.some.inj h) (by decide)
  | int => exact absurd (Option.some.inj h) (by decide)
  | str => exact absurd (Option.some.inj h) (by decide)
  | byt => exact absurd (Option.some.inj h) (by decide)
  | flt => exact absurd (Option.some.inj h) (by decide)
/-- a value that may be asked whether it is a permutation -/
structure GoodV (K : PySem.W.Frag) (H : Hp) (v : V) : Prop where
  ty : TyK H v
  it : ∀ xs, tupOf H v = some xs → xs.length ≤ 4000 ∧ ∀ x ∈ xs, PlainV K H x
def lenB (H : Hp) (n : Int) (v : V) : Bool := match tupOf H v with
  | some xs => decide ((xs.length : Int) = n)
  | none => false
def ptsB (H : Hp) (d : Int) (v : V) : Bool := match tupOf H v with
  | some xs => xs.all (btV 0 (d - 1))
  | none => false
def dstB (H : Hp) (d : Int) (v : V) : Bool := match tupOf H v with
  | some xs => xs.all (btV 0 (d - 1)) && decide xs.Nodup
  | none => false
def permB (H : Hp) (d : Int) (v : V) : Bool := lenB H d v && dstB H d v
def anyB (H : Hp) (v : V) : Bool := match tupOf H v with
  | some xs => btV 1 12 (.int xs.length) && permB H xs.length v
  | none => false
theorem all_ints {lo hi : Int} : ∀ {xs : List V}, xs.all (btV lo hi) = true → ∃ ns : List Int, xs = ns.map V.int ∧ ∀ n ∈ ns, lo ≤ n ∧ n ≤ hi
  | [], _ => ⟨[], rfl, fun _ h => by cases h⟩
  | x :: xs, h => by
    rw [List.all_cons, Bool.and_eq_true] at h
    obtain ⟨ns, rfl, hn⟩ := all_ints h.2
    cases x with
    | int i =>
      have h1 : (decide (lo ≤ i) && decide (i ≤ hi)) = true := h.1
      rw [Bool.and_eq_true, decide_eq_true_iff, decide_eq_true_iff] at h1
      refine ⟨i :: ns, rfl, fun n hm => ?_⟩
      rcases List.mem_cons.mp hm with z | z
      · rw [z]; exact h1
      · exact hn n z
    | _ => cases h.1
theorem nodup_map_int {ns : List Int} : (ns.map V.int).Nodup ↔ ns.Nodup := by
  constructor
  · intro h
    induction ns with
    | nil => exact List.nodup_nil
    | cons x r ih =>
      rw [List.map_cons, List.nodup_cons] at h
      exact List.nodup_cons.mpr ⟨fun z => h.1 (List.mem_map.mpr ⟨x, z, rfl⟩), ih h.2⟩
  · intro h
    induction ns with
    | nil => exact List.nodup_nil
    | cons x r ih =>
      rw [List.nodup_cons] at h
      rw [List.map_cons, List.nodup_cons]
      refine ⟨fun z => ?_, ih h.2⟩
      obtain ⟨y, hy, e⟩ := List.mem_map.mp z
      exact h.1 (V.int.inj e ▸ hy)
def PP (K : PySem.W.Frag) : Addr := (He.cT K ("are_points", none)).2
def spBetween : Sp := fun vs H Q _ => ∃ (v : V) (lo hi : Int), vs = [v, .int lo, .int hi] ∧ TyK H v ∧ Q (.bl (btV lo hi v)) H
def spDegree : Sp := fun vs H Q _ => ∃ v : V, vs = [v] ∧ TyK H v ∧ Q (.bl (btV 1 12 v)) H
def spTupleOf : Sp := fun vs H Q _ => ∃ (v : V) (n : Int), vs = [v, .int n] ∧ TyK H v ∧ Q (.bl (lenB H n v)) H
def spPoints (K : PySem.W.Frag) : Sp := fun vs H Q _ => ∃ (v : V) (d : Int), vs = [.int d, v] ∧ GoodV K H v ∧ TabG H (PP K) ∧ ∀ H', Ex H H' → Q (.bl (ptsB H d v)) H'
def spDistinct (K : PySem.W.Frag) : Sp := fun vs H Q _ => ∃ (v : V) (d : Int), vs = [.int d, v] ∧ GoodV K H v ∧ TabG H (PP K) ∧ ∀ H', Ex H H' → Q (.bl (dstB H d v)) H'
def spPerm (K : PySem.W.Frag) : Sp := fun vs H Q _ => ∃ (v : V) (d : Int), vs = [.int d, v] ∧ GoodV K H v ∧ TabG H (PP K) ∧ ∀ H', Ex H H' → Q (.bl (permB H d v)) H'
def spAny (K : PySem.W.Frag) : Sp := fun vs H Q _ => ∃ v : V, vs = [v] ∧ GoodV K H v ∧ TabG H (PP K) ∧ ∀ H', Ex H H' → Q (.bl (anyB H v)) H'
def spCkDegree : Sp := fun vs H Q _ => ∃ v : V, vs = [v] ∧ TyK H v ∧ btV 1 12 v = true ∧ Q .non H
def spCkAny (K : PySem.W.Frag) : Sp := fun vs H Q _ => ∃ v : V, vs = [v] ∧ GoodV K H v ∧ TabG H (PP K) ∧ anyB H v = true ∧ ∀ H', Ex H H' → Q .non H'
def spCkPerm (K : PySem.W.Frag) : Sp := fun vs H Q _ => ∃ (v : V) (d : Int), vs = [.int d, v] ∧ GoodV K H v ∧ TabG H (PP K) ∧ permB H d v = true ∧ ∀ H', Ex H H' → Q .non H'
/-- a permutation of the points below n -/
structure IsPm (n : Nat) (p : List Int) : Prop where
  len : p.length = n
  nd : p.Nodup
  bd : ∀ x ∈ p, 0 ≤ x ∧ x < n
/-- the tuple of a permutation's images at a -/
structure Pm (H : Hp) (a : Addr) (n : Nat) (p : List Int) : Prop where
  at_ : H a = some (.tup (p.map V.int))
  is : IsPm n p
theorem Pm.ex {H H' : Hp} {a : Addr} {n : Nat} {p : List Int} (x : Ex H H') (h : Pm H a n p) : Pm H' a n p := ⟨x.st _ _ h.at_ trivial, h.is⟩
theorem plain_int {K : PySem.W.Frag} {H : Hp} {p : List Int} : ∀ x ∈ p.map V.int, PlainV K H x := fun x hx => by
  obtain ⟨i, _, rfl⟩ := List.mem_map.mp hx
  trivial
theorem Pm.good {H : Hp} {a : Addr} {n : Nat} {p : List Int} (h : Pm H a n p) (hn : n ≤ 12) : GoodV K H (.ref a) := by
  have ht := tupOf_at h.at_
  refine ⟨⟨"tuple", zty_tup _ H _ ht⟩, fun xs hx => ?_⟩
  rw [ht] at hx
  cases hx
  refine ⟨?_, plain_int⟩
  rw [List.length_map, h.is.len]
  omega
theorem all_bt {lo hi : Int} {ns : List Int} (h : ∀ n ∈ ns, lo ≤ n ∧ n ≤ hi) : (ns.map V.int).all (btV lo hi) = true := by
  rw [List.all_eq_true]
  intro x hx
  obtain ⟨i, hi', rfl⟩ := List.mem_map.mp hx
  have := h i hi'
  show (decide (lo ≤ i) && decide (i ≤ hi)) = true
  rw [decide_eq_true this.1, decide_eq_true this.2]
  rfl
theorem Pm.permB {H : Hp} {a : Addr} {n : Nat} {p : List Int} (h : Pm H a n p) : permB H n (.ref a) = true := by
  have ht := tupOf_at h.at_
  unfold KL.permB lenB dstB
  rw [ht]
  show (decide (((p.map V.int).length : Int) = (n : Int)) && ((p.map V.int).all (btV 0 (n - 1)) && decide (p.map V.int).Nodup)) = true
  rw [List.length_map, h.is.len, decide_eq_true rfl, all_bt fun x hx => ⟨(h.is.bd x hx).1, by have := (h.is.bd x hx).2; omega⟩, decide_eq_true (nodup_map_int.mpr h.is.nd)]
  rfl
theorem Pm.anyB {H : Hp} {a : Addr} {n : Nat} {p : List Int} (h : Pm H a n p) (h1 : 1 ≤ n) (h12 : n ≤ 12) : anyB H (.ref a) = true := by
  have ht := tupOf_at h.at_
  unfold KL.anyB
  rw [ht]
  show (btV 1 12 (.int ((p.map V.int).length : Nat)) && KL.permB H ((p.map V.int).length : Nat) (.ref a)) = true
  rw [List.length_map, h.is.len, h.permB]
  show ((decide ((1 : Int) ≤ n) && decide ((n : Int) ≤ 12)) && true) = true
  rw [decide_eq_true (by omega), decide_eq_true (by omega)]
  rfl
def spCkTwo (K : PySem.W.Frag) : Sp := fun vs H Q _ => ∃ (a b : Addr) (n : Nat) (p q : List Int), vs = [.ref a, .ref b] ∧ Pm H a n p ∧ Pm H b n q ∧ 1 ≤ n ∧ n ≤ 12 ∧ TabG H (PP K) ∧ ∀ H', Ex H H' → Q .non H'
/-! ### permutations as lists of images -/
def mulL (p q : List Int) : List Int := p.map fun x => q.getD x.toNat 0
def invL (p : List Int) : List Int := (List.range p.length).map fun i => ((p.idxOf (Int.ofNat i) : Nat) : Int)
theorem IsPm.get {n : Nat} {p : List Int} (h : IsPm n p) {i : Nat} (hi : i < n) : ∃ x : Int, p[i]? = some x ∧ 0 ≤ x ∧ x < n := by
  have hl : i < p.length := by rw [h.len]; exact hi
  exact ⟨p[i], List.getElem?_eq_getElem hl, h.bd _ (List.getElem_mem hl)⟩
theorem getD_of {l : List Int} {i : Nat} {x d : Int} (h : l[i]? = some x) : l.getD i d = x := by rw [List.getD_eq_getElem?_getD, h]; rfl
theorem at_int {l : List Int} {x : Int} {v : Int} (h0 : 0 ≤ x) (h : l[x.toNat]? = some v) : atI (l.map V.int) x = some (.int v) := by
  have e : x = ((x.toNat : Nat) : Int) := by omega
  rw [e]
  exact atI_nat (by rw [List.getElem?_map, h]; rfl)
def spUnit : Sp := fun vs H Q _ => ∃ n : Nat, vs = [.int n] ∧ n ≤ 1000 ∧ ∀ a H', Ex H H' → H' a = some (.tup (((List.range n).map Int.ofNat).map V.int)) → Q (.ref a) H'
theorem rg_ints (n : Nat) : rgV 0 n = ((List.range n).map Int.ofNat).map V.int := by
  unfold rgV
  rw [List.map_map]
  have e : ((n : Int) - 0).toNat = n := by omega
  rw [e]
  refine List.map_congr_left fun i _ => ?_
  show V.int (0 + (i : Int)) = V.int (i : Int)
  rw [Int.zero_add]
def spMul : Sp := fun vs H Q _ => ∃ (a b : Addr) (n : Nat) (p q : List Int), vs = [.ref a, .ref b] ∧ Pm H a n p ∧ Pm H b n q ∧ n ≤ 1000 ∧ ∀ c H', Ex H H' → H' c = some (.tup ((mulL p q).map V.int)) → Q (.ref c) H'
theorem mul_take {p q : List Int} {i : Nat} {x : Int} (h : p[i]? = some x) : (mulL p q).take (i + 1) = (mulL p q).take i ++ [q.getD x.toNat 0] := by
  rw [List.take_add_one]
  unfold mulL
  rw [List.getElem?_map, h]
  rfl
/-! ### inverses: a list filled by places -/
/-- the places of p's first i items are filled: at p j stands f j -/
structure Filled (n : Nat) (p : List Int) (f : Nat → Int) (i : Nat) (L : List Int) : Prop where
  len : L.length = n
  at_ : ∀ j x, j < i → p[j]? = some x → L[x.toNat]? = some (f j)
theorem Filled.start {n : Nat} {p : List Int} {f : Nat → Int} : Filled n p f 0 (List.replicate n 0) := ⟨List.length_replicate .., fun j x h => absurd h (Nat.not_lt_zero _)⟩
theorem Filled.step {n : Nat} {p : List Int} {f : Nat → Int} {i : Nat} {L : List Int} {x : Int} (h : Filled n p f i L) (hp : IsPm n p) (hx : p[i]? = some x) : Filled n p f (i + 1) (L.set x.toNat (f i)) := by
  have hb := hp.bd x (List.mem_of_getElem? hx)
  refine ⟨by rw [List.length_set, h.len], fun j y hj hy => ?_⟩
  by_cases e : j = i
  · subst e
    rw [hx] at hy
    cases hy
    rw [List.getElem?_set_self (by rw [h.len]; omega)]
  · have hne : x.toNat ≠ y.toNat := fun z => by
      have hb2 := hp.bd y (List.mem_of_getElem? hy)
      have exy : x = y := by omega
      subst exy
      obtain ⟨h1, e1⟩ := List.getElem?_eq_some_iff.mp hx
      obtain ⟨h2, e2⟩ := List.getElem?_eq_some_iff.mp hy
      exact e ((List.getElem_inj hp.nd).mp (e2.trans e1.symm))
    rw [List.getElem?_set_ne hne]
    exact h.at_ j y (by omega) hy
/-- each point below n is an image -/
theorem IsPm.onto {n : Nat} {p : List Int} (h : IsPm n p) {k : Nat} (hk : k < n) : ∃ j, j < n ∧ p[j]? = some (k : Int) := by
  have hm : (k : Int) ∈ p := by
    apply Classical.byContradiction
    intro hn
    have h1 : ∀ x ∈ (k : Int) :: p, x ∈ (List.range n).map Int.ofNat := fun x hx => by
      rcases List.mem_cons.mp hx with z | z
      · rw [z]
        exact List.mem_map.mpr ⟨k, List.mem_range.mpr hk, rfl⟩
      · have := h.bd x z
        exact List.mem_map.mpr ⟨x.toNat, List.mem_range.mpr (by omega), by show ((x.toNat : Nat) : Int) = x; omega⟩
    have h2 := len_le_sub (List.nodup_cons.mpr ⟨hn, h.nd⟩) h1
    rw [List.length_map, List.length_range, List.length_cons, h.len] at h2
    omega
  obtain ⟨j, hj, e⟩ := List.getElem_of_mem hm
  exact ⟨j, by rw [← h.len]; exact hj, by rw [List.getElem?_eq_getElem hj, e]⟩
theorem Filled.uniq {n : Nat} {p : List Int} {f : Nat → Int} {L M : List Int} (hp : IsPm n p) (h : Filled n p f n L) (g : Filled n p f n M) : L = M := by
  refine List.ext_getElem? fun k => ?_
  by_cases hk : k < n
  · obtain ⟨j, hj, e⟩ := hp.onto hk
    have h1 := h.at_ j _ hj e
    have h2 := g.at_ j _ hj e
    have ek : ((k : Nat) : Int).toNat = k := by omega
    rw [ek] at h1 h2
    rw [h1, h2]
  · rw [List.getElem?_eq_none (by rw [h.len]; omega), List.getElem?_eq_none (by rw [g.len]; omega)]
theorem invL_filled {n : Nat} {p : List Int} (hp : IsPm n p) : Filled n p (fun j => (j : Int)) n (invL p) := by
  unfold invL
  refine ⟨by rw [List.length_map, List.length_range, hp.len], fun j x hj hx => ?_⟩
  have hb := hp.bd x (List.mem_of_getElem? hx)
  rw [List.getElem?_map, List.getElem?_range (by rw [hp.len]; omega)]
  show some (((p.idxOf (Int.ofNat x.toNat)) : Nat) : Int) = some ((j : Nat) : Int)
  have e : Int.ofNat x.toNat = x := by show ((x.toNat : Nat) : Int) = x; omega
  obtain ⟨h1, e1⟩ := List.getElem?_eq_some_iff.mp hx
  rw [e, ← e1, List.Nodup.idxOf_getElem hp.nd]
def spInv : Sp := fun vs H Q _ => ∃ (a : Addr) (n : Nat) (p : List Int), vs = [.ref a] ∧ Pm H a n p ∧ n ≤ 1000 ∧ ∀ c H', Ex H H' → H' c = some (.tup ((invL p).map V.int)) → Q (.ref c) H'
theorem rep_flat (n : Nat) : (List.replicate n [V.int 0]).flatten = (List.replicate n (0 : Int)).map V.int := by
  induction n with
  | zero => rfl
  | succ n ih =>
    rw [List.replicate_succ, List.flatten_cons, ih, List.replicate_succ]
    rfl
theorem set_map (L : List Int) (k : Nat) (v : Int) : (L.map V.int).set k (.int v) = (L.set k v).map V.int := by rw [List.map_set]
theorem ixN_of {n : Nat} {x : Int} (h0 : 0 ≤ x) (h : x < n) : ixN n x = some x.toNat := by
  unfold ixN
  rw [if_pos h0, if_pos h]
theorem Filled.isPm {n : Nat} {q : List Int} {f : Nat → Int} {L : List Int} (hq : IsPm n q) (h : Filled n q f n L) (hb : ∀ j, j < n → 0 ≤ f j ∧ f j < n) (hi : ∀ j k, j < n → k < n → f j = f k → j = k) : IsPm n L := by
  have key : ∀ k, k < n → ∃ j, j < n ∧ q[j]? = some (k : Int) ∧ L[k]? = some (f j) := fun k hk => by
    obtain ⟨j, hj, e⟩ := hq.onto hk
    have h1 := h.at_ j _ hj e
    have ek : ((k : Nat) : Int).toNat = k := by omega
    rw [ek] at h1
    exact ⟨j, hj, e, h1⟩
  refine ⟨h.len, ?_, fun x hx => ?_⟩
  · rw [List.nodup_iff_pairwise_ne, List.pairwise_iff_getElem]
    intro a b ha hb2 hab e
    obtain ⟨j, hj, e1, e2⟩ := key a (by rw [← h.len]; exact ha)
    obtain ⟨k, hk, e3, e4⟩ := key b (by rw [← h.len]; exact hb2)
    rw [List.getElem?_eq_getElem ha] at e2
    rw [List.getElem?_eq_getElem hb2] at e4
    have ejk := hi j k hj hk (by rw [← Option.some.inj e2, ← Option.some.inj e4, e])
    subst ejk
    rw [e1] at e3
    have := Option.some.inj e3
    omega
  · obtain ⟨k, hk, e⟩ := List.getElem_of_mem hx
    obtain ⟨j, hj, _, e2⟩ := key k (by rw [← h.len]; exact hk)
    rw [List.getElem?_eq_getElem hk, e] at e2
    rw [Option.some.inj e2]
    exact hb j hj
theorem IsPm.inj {n : Nat} {p : List Int} (h : IsPm n p) {i j : Nat} {x : Int} (hi : p[i]? = some x) (hj : p[j]? = some x) : i = j := by
  obtain ⟨h1, e1⟩ := List.getElem?_eq_some_iff.mp hi
  obtain ⟨h2, e2⟩ := List.getElem?_eq_some_iff.mp hj
  exact (List.getElem_inj h.nd).mp (e1.trans e2.symm)
theorem invL_pm {n : Nat} {p : List Int} (hp : IsPm n p) : IsPm n (invL p) := (invL_filled hp).isPm hp (fun j hj => ⟨by omega, by omega⟩) fun j k _ _ e => by omega
/-- q's image of p's image of j -/
def thenF (p q : List Int) (j : Nat) : Int := q.getD (p.getD j 0).toNat 0
theorem thenF_of {n : Nat} {p q : List Int} (hp : IsPm n p) (hq : IsPm n q) {j : Nat} (hj : j < n) : ∃ x y : Int, p[j]? = some x ∧ 0 ≤ x ∧ x < n ∧ q[x.toNat]? = some y ∧ 0 ≤ y ∧ y < n ∧ thenF p q j = y := by
  obtain ⟨x, hx, h0, hb⟩ := hp.get hj
  obtain ⟨y, hy, g0, gb⟩ := hq.get (i := x.toNat) (by omega)
  exact ⟨x, y, hx, h0, hb, hy, g0, gb, by unfold thenF; rw [getD_of hx, getD_of hy]⟩
theorem thenF_inj {n : Nat} {p q : List Int} (hp : IsPm n p) (hq : IsPm n q) {j k : Nat} (hj : j < n) (hk : k < n) (e : thenF p q j = thenF p q k) : j = k := by
  obtain ⟨x, y, hx, h0, hb, hy, g0, gb, ej⟩ := thenF_of hp hq hj
  obtain ⟨x', y', hx', h0', hb', hy', g0', gb', ek⟩ := thenF_of hp hq hk
  rw [ej, ek] at e
  subst e
  have e2 := hq.inj hy hy'
  have e3 : x = x' := by omega
  subst e3
  exact hp.inj hx hx'
theorem mulL_get {n : Nat} {p q : List Int} (hp : IsPm n p) {j : Nat} (hj : j < n) : (mulL p q)[j]? = some (thenF p q j) := by
  obtain ⟨x, hx, _, _⟩ := hp.get hj
  unfold mulL thenF
  rw [List.getElem?_map, hx, getD_of hx]
  rfl
theorem mulL_pm {n : Nat} {p q : List Int} (hp : IsPm n p) (hq : IsPm n q) : IsPm n (mulL p q) := by
  have hl : (mulL p q).length = n := by unfold mulL; rw [List.length_map, hp.len]
  refine ⟨hl, ?_, fun x hx => ?_⟩
  · rw [List.nodup_iff_pairwise_ne, List.pairwise_iff_getElem]
    intro a b ha hb hab e
    have ea := mulL_get (q := q) hp (j := a) (by omega)
    have eb := mulL_get (q := q) hp (j := b) (by omega)
    rw [List.getElem?_eq_getElem ha] at ea
    rw [List.getElem?_eq_getElem hb] at eb
    have := thenF_inj hp hq (j := a) (k := b) (by omega) (by omega) (by rw [← Option.some.inj ea, ← Option.some.inj eb, e])
    omega
  · obtain ⟨k, hk, e⟩ := List.getElem_of_mem hx
    have ek := mulL_get (q := q) hp (j := k) (by omega)
    rw [List.getElem?_eq_getElem hk, e] at ek
    obtain ⟨_, y, _, _, _, _, g0, gb, ey⟩ := thenF_of hp hq (j := k) (by omega)
    rw [Option.some.inj ek, ey]
    exact ⟨g0, gb⟩
theorem unit_pm (n : Nat) : IsPm n ((List.range n).map Int.ofNat) := by
  refine ⟨by rw [List.length_map, List.length_range], ?_, fun x hx => ?_⟩
  · rw [List.nodup_iff_pairwise_ne, List.pairwise_iff_getElem]
    intro a b ha hb hab e
    rw [List.getElem_map, List.getElem_map, List.getElem_range, List.getElem_range] at e
    have : (a : Int) = (b : Int) := e
    omega
  · obtain ⟨k, hk, rfl⟩ := List.mem_map.mp hx
    have := List.mem_range.mp hk
    exact ⟨by show (0 : Int) ≤ (k : Int); omega, by show (k : Int) < (n : Int); omega⟩
def spConj : Sp := fun vs H Q _ => ∃ (a b : Addr) (n : Nat) (p g : List Int), vs = [.ref a, .ref b] ∧ Pm H a n p ∧ Pm H b n g ∧ n ≤ 1000 ∧ ∀ c H' L, Ex H H' → H' c = some (.tup (L.map V.int)) → Filled n g (thenF p g) n L → Q (.ref c) H'
def unitL (n : Nat) : List Int := (List.range n).map Int.ofNat
def spIdentity : Sp := fun vs H Q _ => ∃ n : Nat, vs = [.int n] ∧ 1 ≤ n ∧ n ≤ 12 ∧ ∀ a H', Ex H H' → Pm H' a n (unitL n) → Q (.ref a) H'
def spProduct (K : PySem.W.Frag) : Sp := fun vs H Q _ => ∃ (a b : Addr) (n : Nat) (p q : List Int), vs = [.ref a, .ref b] ∧ Pm H a n p ∧ Pm H b n q ∧ 1 ≤ n ∧ n ≤ 12 ∧ TabG H (PP K) ∧ ∀ c H', Ex H H' → Pm H' c n (mulL p q) → Q (.ref c) H'
def spInverse (K : PySem.W.Frag) : Sp := fun vs H Q _ => ∃ (a : Addr) (n : Nat) (p : List Int), vs = [.ref a] ∧ Pm H a n p ∧ 1 ≤ n ∧ n ≤ 12 ∧ TabG H (PP K) ∧ ∀ c H', Ex H H' → Pm H' c n (invL p) → Q (.ref c) H'
def spConjugate (K : PySem.W.Frag) : Sp := fun vs H Q _ => ∃ (a b : Addr) (n : Nat) (p g : List Int), vs = [.ref a, .ref b] ∧ Pm H a n p ∧ Pm H b n g ∧ 1 ≤ n ∧ n ≤ 12 ∧ TabG H (PP K) ∧ ∀ c H' L, Ex H H' → Pm H' c n L → Filled n g (thenF p g) n L → Q (.ref c) H'
theorem thenF_filled {n : Nat} {p g q L : List Int} (hp : IsPm n p) (hg : IsPm n g) (hq : IsPm n q) (h : Filled n q (thenF p g) n L) : IsPm n L :=
  h.isPm hq (fun j hj => by
    obtain ⟨_, _, _, _, _, _, g0, gb, e⟩ := thenF_of hp hg hj
    rw [e]
    exact ⟨g0, gb⟩) fun j k hj hk e => thenF_inj hp hg hj hk e
def spCommutator (K : PySem.W.Frag) : Sp := fun vs H Q _ => ∃ (a b : Addr) (n : Nat) (p q : List Int), vs = [.ref a, .ref b] ∧ Pm H a n p ∧ Pm H b n q ∧ 1 ≤ n ∧ n ≤ 12 ∧ TabG H (PP K) ∧ ∀ c H' L, Ex H H' → Pm H' c n L → Filled n (mulL q p) (thenF p q) n L → Q (.ref c) H'
theorem comm_filled {n : Nat} {p q L : List Int} (hp : IsPm n p) (hq : IsPm n q) (h : Filled n q (thenF p q) n L) : Filled n (mulL q p) (thenF p q) n (mulL (invL p) L) := by
  have hL := thenF_filled hp hq hq h
  refine ⟨(mulL_pm (invL_pm hp) hL).len, fun j x hj hx => ?_⟩
  obtain ⟨k, y, hk, k0, kb, hy, y0, yb, e⟩ := thenF_of hq hp hj
  rw [mulL_get hq hj, e] at hx
  cases hx
  have h1 := (invL_filled hp).at_ k.toNat x (by omega) hy
  have h2 := h.at_ j k hj hk
  unfold mulL
  rw [List.getElem?_map, h1]
  show some (L.getD (((k.toNat : Nat) : Int)).toNat 0) = some (thenF p q j)
  have ek : (((k.toNat : Nat) : Int)).toNat = k.toNat := by omega
  rw [ek, getD_of h2]
/-! ### draws -/
def spTaken (K : PySem.W.Frag) : Sp := fun vs H Q _ => ∃ (r s : Addr) (m : Nat) (ns : List Int), vs = [.ref r, .int m] ∧ RowAt H r s ∧ SqL K H s (ns.map V.int) ∧ 1 ≤ m ∧ m ≤ 2000000000 ∧ ∀ (j : Nat) H', Ex H H' → j < m → Q (.int j) H'
theorem IsPm.swap {n : Nat} {L : List Int} (h : IsPm n L) {i j : Nat} {x y : Int} (hi : L[i]? = some x) (hj : L[j]? = some y) : IsPm n ((L.set i y).set j x) := by
  obtain ⟨h1, e1⟩ := List.getElem?_eq_some_iff.mp hi
  obtain ⟨h2, e2⟩ := List.getElem?_eq_some_iff.mp hj
  have p := List.set_set_perm h1 h2
  rw [e1, e2] at p
  exact ⟨p.length_eq.trans h.len, p.nodup_iff.mpr h.nd, fun z hz => h.bd z (p.mem_iff.mp hz)⟩
def spLawPerm (K : PySem.W.Frag) : Sp := fun vs H Q _ => ∃ (r s : Addr) (n : Nat) (ns : List Int), vs = [.ref r, .int n] ∧ RowAt H r s ∧ SqL K H s (ns.map V.int) ∧ 1 ≤ n ∧ n ≤ 1000 ∧ ∀ c H' p, Ex H H' → Pm H' c n p → Q (.ref c) H'
def spLawUnit : Sp := fun vs H Q _ => ∃ n : Nat, vs = [.int n] ∧ n ≤ 1000 ∧ ∀ a H', Ex H H' → Pm H' a n (unitL n) → Q (.ref a) H'
def spLawInv : Sp := fun vs H Q _ => ∃ (a : Addr) (n : Nat) (p : List Int), vs = [.ref a] ∧ Pm H a n p ∧ n ≤ 1000 ∧ ∀ c H', Ex H H' → Pm H' c n (invL p) → Q (.ref c) H'
/-! ### the law's own comparison -/
theorem isi_q {K : PySem.W.Frag} {H : Hp} {x : V} {T C : String} {b : Bool} {Q : VK} (t : TyX K H x (.type T)) (k : kitB T C = some b) (q : Q (.bl b) H) : rIsi K [x, .ty C] H Q := ⟨x, .ty C, .type T, .type C, b, rfl, .ty C, t, kit_ty k, q⟩
theorem isit_q {K : PySem.W.Frag} {H : Hp} {x : V} {T C D : String} {b c : Bool} {tp : Addr} {Q : VK} (t : TyX K H x (.type T)) (hp : H tp = some (.tup [.ty C, .ty D])) (k : kitB T C = some b) (k2 : kitB T D = some c) (q : Q (.bl (b || c)) H) : rIsiT K [x, .ref tp] H Q := by
  refine ⟨x, tp, [.ty C, .ty D], .type T, [.type C, .type D], b || c, rfl, hp, .cons (.ty C) (.cons (.ty D) .nil), t, ?_, q⟩
  refine kitAny_cons (kit_ty k) (fun e => ?_) (fun e => by rw [e]; rfl)
  subst e
  refine kitAny_cons (kit_ty k2) (fun e => by rw [e]; rfl) (fun e => by rw [e]; rfl)
theorem tyx_int {K : PySem.W.Frag} {H : Hp} (i : Int) : TyX K H (.int i) (.type "int") := .base (.int i)
theorem tyx_tup {K : PySem.W.Frag} {H : Hp} {a : Addr} {xs : List V} (h : H a = some (.tup xs)) : TyX K H (.ref a) (.type "tuple") := .base (.tup h)
def spAlike0 : Sp := fun vs H Q _ => ∃ (x y : Int), vs = [.int x, .int y] ∧ ∀ H', Ex H H' → Q (.bl (decide (x = y))) H'
theorem dp_nil {K : PySem.W.Frag} {H : Hp} {a : Addr} (h : H a = some (.lst [])) : Dp K H (.ref a) (.list []) := .lst (sl_at h) .nil
def spAlike : Sp := fun vs H Q _ => ∃ (a b : Addr) (ns : List Int), vs = [.ref a, .ref b] ∧ H a = some (.tup (ns.map V.int)) ∧ H b = some (.tup (ns.map V.int)) ∧ ns.length ≤ 1000 ∧ ∀ H', Ex H H' → Q (.bl true) H'
theorem dp_all {K : PySem.W.Frag} {H : Hp} : ∀ ns : List Int, DpAll K H (ns.map V.int) (ns.map PyData.int)
  | [] => .nil
  | x :: r => .cons (.int x) (dp_all r)
theorem dp_ints {K : PySem.W.Frag} {H : Hp} {a : Addr} {ns : List Int} (h : H a = some (.lst (ns.map V.int))) : Dp K H (.ref a) (.list (ns.map PyData.int)) := .lst (sl_at h) (dp_all ns)
theorem canLay_ints (ns : List Int) : PyData.canLay0 (.list (ns.map PyData.int)) = true := SeqAt.canLay_of_shaped (PySem.W.ke_shaped_ints ns)
theorem srt_unit {n : Nat} {p ns : List Int} (hp : IsPm n p) (h : ns.Perm p) (hs : ns.Pairwise (· ≤ ·)) : ns = unitL n := by
  have hpu : p.Perm (unitL n) := (List.perm_ext_iff_of_nodup hp.nd (unit_pm n).nd).mpr fun x => by
    constructor
    · intro hx
      have := hp.bd x hx
      exact List.mem_map.mpr ⟨x.toNat, List.mem_range.mpr (by omega), by show ((x.toNat : Nat) : Int) = x; omega⟩
    · intro hx
      obtain ⟨k, hk, rfl⟩ := List.mem_map.mp hx
      obtain ⟨j, hj, e⟩ := hp.onto (List.mem_range.mp hk)
      exact List.mem_of_getElem? e
  refine PySem.W.ksm_same (h.trans hpu) hs ?_
  unfold unitL
  rw [List.pairwise_map]
  refine List.Pairwise.imp (fun {a b} h => ?_) List.pairwise_lt_range
  show ((a : Nat) : Int) ≤ ((b : Nat) : Int)
  omega
def spIsPerm : Sp := fun vs H Q _ => ∃ (a : Addr) (n : Nat) (p : List Int), vs = [.int n, .ref a] ∧ Pm H a n p ∧ n ≤ 1000 ∧ ∀ H', Ex H H' → Q (.bl true) H'
theorem invL_invL {n : Nat} {p : List Int} (hp : IsPm n p) : invL (invL p) = p := by
  have hi := invL_pm hp
  refine Filled.uniq hi (invL_filled hi) ⟨hp.len, fun j x hj hx => ?_⟩
  obtain ⟨k, hk, e⟩ := hp.onto hj
  have h1 := (invL_filled hp).at_ k _ hk e
  have ej : ((j : Nat) : Int).toNat = j := by omega
  rw [ej, hx] at h1
  have ex : x = (k : Int) := Option.some.inj h1
  rw [ex]
  have ek : ((k : Nat) : Int).toNat = k := by omega
  rw [ek, e]
theorem mul_inv {n : Nat} {p : List Int} (hp : IsPm n p) : mulL p (invL p) = unitL n := by
  have hi := invL_pm hp
  refine List.ext_getElem? fun j => ?_
  by_cases hj : j < n
  · obtain ⟨x, y, hx, h0, hb, hy, _, _, e⟩ := thenF_of hp hi hj
    have h1 := (invL_filled hp).at_ j x hj hx
    rw [hy] at h1
    rw [mulL_get hp hj, e]
    unfold unitL
    rw [List.getElem?_map, List.getElem?_range hj]
    exact h1
  · rw [List.getElem?_eq_none (by rw [(mulL_pm hp hi).len]; omega), List.getElem?_eq_none (by rw [show (unitL n).length = n from (unit_pm n).len]; omega)]
end
end KL
/-! powers of permutations and their cycles -/
namespace KL
open PySem PySem.Spec PyProof.Rows L2 GA GxR
/-- p times itself, k times -/
def pwL (n : Nat) (p : List Int) : Nat → List Int
  | 0 => unitL n
  | k + 1 => mulL (pwL n p k) p
theorem pwL_pm {n : Nat} {p : List Int} (hp : IsPm n p) : ∀ k, IsPm n (pwL n p k)
  | 0 => unit_pm n
  | k + 1 => mulL_pm (pwL_pm hp k) hp
theorem unitL_get {n j : Nat} (h : j < n) : (unitL n)[j]? = some (j : Int) := by
  unfold unitL
  rw [List.getElem?_map, List.getElem?_range h]
  rfl
theorem pm_ext {n : Nat} {p q : List Int} (hp : p.length = n) (hq : q.length = n) (h : ∀ j, j < n → p[j]? = q[j]?) : p = q := by
  refine List.ext_getElem? fun j => ?_
  by_cases hj : j < n
  · exact h j hj
  · rw [List.getElem?_eq_none (by omega), List.getElem?_eq_none (by omega)]
theorem mulL_at {p q : List Int} {j : Nat} {x y : Int} (hx : p[j]? = some x) (hy : q[x.toNat]? = some y) : (mulL p q)[j]? = some y := by
  unfold mulL
  rw [List.getElem?_map, hx]
  show some (q.getD x.toNat 0) = some y
  rw [getD_of hy]
theorem unit_mulL {n : Nat} {p : List Int} (hp : IsPm n p) : mulL (unitL n) p = p := by
  refine pm_ext (n := n) (mulL_pm (unit_pm n) hp).len hp.len fun j hj => ?_
  obtain ⟨y, hy, _⟩ := hp.get hj
  rw [mulL_at (unitL_get hj) (y := y) (by rw [show ((j : Nat) : Int).toNat = j by omega]; exact hy), hy]
theorem mulL_unit {n : Nat} {p : List Int} (hp : IsPm n p) : mulL p (unitL n) = p := by
  refine pm_ext (n := n) (mulL_pm hp (unit_pm n)).len hp.len fun j hj => ?_
  obtain ⟨y, hy, h0, hb⟩ := hp.get hj
  rw [mulL_at hy (y := y) (by rw [unitL_get (by omega)]; congr 1; omega), hy]
theorem mulL_assoc {n : Nat} {p q r : List Int} (hp : IsPm n p) (hq : IsPm n q) (hr : IsPm n r) : mulL (mulL p q) r = mulL p (mulL q r) := by
  refine pm_ext (n := n) (mulL_pm (mulL_pm hp hq) hr).len (mulL_pm hp (mulL_pm hq hr)).len fun j hj => ?_
  obtain ⟨x, hx, x0, xb⟩ := hp.get hj
  obtain ⟨y, hy, y0, yb⟩ := hq.get (i := x.toNat) (by omega)
  obtain ⟨z, hz, z0, zb⟩ := hr.get (i := y.toNat) (by omega)
  rw [mulL_at (mulL_at hx hy) hz, mulL_at hx (mulL_at hy hz)]
theorem pwL_one {n : Nat} {p : List Int} (hp : IsPm n p) : pwL n p 1 = p := unit_mulL hp
theorem pwL_add {n : Nat} {p : List Int} (hp : IsPm n p) (a : Nat) : ∀ b, mulL (pwL n p a) (pwL n p b) = pwL n p (a + b)
  | 0 => mulL_unit (pwL_pm hp a)
  | b + 1 => by
    show mulL (pwL n p a) (mulL (pwL n p b) p) = mulL (pwL n p (a + b)) p
    rw [← mulL_assoc (pwL_pm hp a) (pwL_pm hp b) hp, pwL_add hp a b]
theorem pwL_per {n N : Nat} {p : List Int} (hp : IsPm n p) (h : pwL n p N = unitL n) (k : Nat) : ∀ t, pwL n p (k + N * t) = pwL n p k
  | 0 => rfl
  | t + 1 => by
    have e : k + N * (t + 1) = (k + N * t) + N := by rw [Nat.mul_succ]; omega
    rw [e, ← pwL_add hp, h, mulL_unit (pwL_pm hp _), pwL_per hp h k t]
theorem pwL_mod {n N : Nat} {p : List Int} (hp : IsPm n p) (h : pwL n p N = unitL n) (k : Nat) : pwL n p (k % N) = pwL n p k := by
  rw [← pwL_per hp h (k % N) (k / N), Nat.mod_add_div]
/-- a row that p turns by one place -/
structure Turn (p r : List Int) : Prop where
  ne : 0 < r.length
  st : ∀ i x, r[i]? = some x → p[x.toNat]? = r[(i + 1) % r.length]?
/-- p's cycles -/
structure Cyc (n : Nat) (p : List Int) (R : List (List Int)) : Prop where
  tn : ∀ r ∈ R, Turn p r
  nd : R.flatten.Nodup
  bd : ∀ x ∈ R.flatten, 0 ≤ x ∧ x < n
theorem Turn.pw {n : Nat} {p r : List Int} (hp : IsPm n p) (T : Turn p r) (hb : ∀ x ∈ r, 0 ≤ x ∧ x < n) {i : Nat} {x : Int} (h : r[i]? = some x) : ∀ k, (pwL n p k)[x.toNat]? = r[(i + k) % r.length]?
  | 0 => by
    have hi : i < r.length := (List.getElem?_eq_some_iff.mp h).1
    have b := hb x (List.mem_of_getElem? h)
    show (unitL n)[x.toNat]? = _
    rw [unitL_get (by omega), Nat.add_zero, Nat.mod_eq_of_lt hi, h]
    congr 1
    omega
  | k + 1 => by
    have ih := T.pw hp hb h k
    have hm : (i + k) % r.length < r.length := Nat.mod_lt _ T.ne
    rw [List.getElem?_eq_getElem hm] at ih
    have st := T.st _ _ (List.getElem?_eq_getElem hm)
    have hm2 : ((i + k) % r.length + 1) % r.length < r.length := Nat.mod_lt _ T.ne
    rw [List.getElem?_eq_getElem hm2] at st
    show (mulL (pwL n p k) p)[x.toNat]? = _
    rw [mulL_at ih st, ← List.getElem?_eq_getElem hm2]
    congr 1
    rw [Nat.add_mod, Nat.mod_mod, ← Nat.add_mod, Nat.add_assoc]
theorem nodup_row {R : List (List Int)} (h : R.flatten.Nodup) : ∀ r ∈ R, r.Nodup := by
  induction R with
  | nil => intro r hr; cases hr
  | cons a R ih =>
    intro r hr
    rw [List.flatten_cons] at h
    have h2 := List.nodup_append.mp h
    rcases List.mem_cons.mp hr with z | z
    · rw [z]; exact h2.1
    · exact ih h2.2.1 r z
theorem Cyc.pw {n : Nat} {p : List Int} {R : List (List Int)} (hp : IsPm n p) (C : Cyc n p R) {r : List Int} (hr : r ∈ R) {i : Nat} {x : Int} (h : r[i]? = some x) (k : Nat) : (pwL n p k)[x.toNat]? = r[(i + k) % r.length]? :=
  (C.tn r hr).pw hp (fun x hx => C.bd x (List.mem_flatten.mpr ⟨r, hr, hx⟩)) h k
theorem Cyc.dvd {n N : Nat} {p : List Int} {R : List (List Int)} (hp : IsPm n p) (C : Cyc n p R) {r : List Int} (hr : r ∈ R) (hN : pwL n p N = unitL n) : r.length ∣ N := by
  have T := C.tn r hr
  have h0 : r[0]? = some (r[0]'T.ne) := List.getElem?_eq_getElem T.ne
  have b := C.bd _ (List.mem_flatten.mpr ⟨r, hr, List.mem_of_getElem? h0⟩)
  have e := C.pw hp hr h0 N
  have hm : (0 + N) % r.length < r.length := Nat.mod_lt _ T.ne
  rw [hN, unitL_get (by omega), List.getElem?_eq_getElem hm] at e
  have e2 := Option.some.inj e
  have e3 : r[0]'T.ne = r[(0 + N) % r.length] := by rw [← e2]; omega
  have e4 := (List.getElem_inj (nodup_row C.nd r hr)).mp e3
  rw [Nat.zero_add] at e4
  exact Nat.dvd_of_mod_eq_zero e4.symm
theorem Cyc.pwMod {n N : Nat} {p : List Int} {R : List (List Int)} (hp : IsPm n p) (C : Cyc n p R) {r : List Int} (hr : r ∈ R) {i : Nat} {x : Int} (h : r[i]? = some x) (hN : pwL n p N = unitL n) (h1 : 1 ≤ N) (e : Int) :
    (pwL n p (e % (N : Int)).toNat)[x.toNat]? = r[(((i : Int) + e) % (r.length : Int)).toNat]? := by
  rw [C.pw hp hr h]
  congr 1
  obtain ⟨t, et⟩ := C.dvd hp hr hN
  have l0 := (C.tn r hr).ne
  have n0 : 0 ≤ e % (N : Int) := Int.emod_nonneg _ (by omega)
  have a0 : 0 ≤ ((i : Int) + e) % (r.length : Int) := Int.emod_nonneg _ (by omega)
  have k : (((i + (e % (N : Int)).toNat) % r.length : Nat) : Int) = ((i : Int) + e) % (r.length : Int) := by
    rw [Int.natCast_emod, Int.natCast_add, Int.toNat_of_nonneg n0, Int.add_emod, Int.emod_emod_of_dvd e (by rw [et]; exact ⟨t, by rw [Int.natCast_mul]⟩), ← Int.add_emod]
  omega
/-- numbers that sum to at most b have a common multiple of at most 60 -/
def chk : Nat → Nat → Nat → Bool
  | 0, _, acc => decide (1 ≤ acc) && decide (acc ≤ 60)
  | f + 1, b, acc => (decide (1 ≤ acc) && decide (acc ≤ 60)) && (List.range b).all fun a => chk f (b - (a + 1)) (Nat.lcm acc (a + 1))
theorem chk_acc : ∀ f b acc, chk f b acc = true → 1 ≤ acc ∧ acc ≤ 60
  | 0, b, acc, h => by
    have h : (decide (1 ≤ acc) && decide (acc ≤ 60)) = true := h
    rw [Bool.and_eq_true, decide_eq_true_iff, decide_eq_true_iff] at h
    exact h
  | f + 1, b, acc, h => by
    have h : ((decide (1 ≤ acc) && decide (acc ≤ 60)) && (List.range b).all fun a => chk f (b - (a + 1)) (Nat.lcm acc (a + 1))) = true := h
    rw [Bool.and_eq_true, Bool.and_eq_true, decide_eq_true_iff, decide_eq_true_iff] at h
    exact h.1
theorem chk_all : ∀ (ls : List Nat) (f b acc : Nat), chk f b acc = true → (∀ l ∈ ls, 1 ≤ l) → ls.sum ≤ b → ls.length ≤ f → ∃ N, 1 ≤ N ∧ N ≤ 60 ∧ acc ∣ N ∧ ∀ l ∈ ls, l ∣ N
  | [], f, b, acc, h, _, _, _ => ⟨acc, (chk_acc f b acc h).1, (chk_acc f b acc h).2, Nat.dvd_refl _, fun _ z => by cases z⟩
  | l :: ls, 0, b, acc, h, _, _, hf => absurd hf (by rw [List.length_cons]; omega)
  | l :: ls, f + 1, b, acc, h, h1, hs, hf => by
    have h : ((decide (1 ≤ acc) && decide (acc ≤ 60)) && (List.range b).all fun a => chk f (b - (a + 1)) (Nat.lcm acc (a + 1))) = true := h
    rw [Bool.and_eq_true] at h
    have l1 := h1 l (List.mem_cons_self ..)
    rw [List.sum_cons] at hs
    have hl := List.all_eq_true.mp h.2 (l - 1) (List.mem_range.mpr (by omega))
    have el : l - 1 + 1 = l := by omega
    rw [el] at hl
    obtain ⟨N, a, c, d, g⟩ := chk_all ls f (b - l) _ hl (fun x hx => h1 x (List.mem_cons_of_mem _ hx)) (by omega) (by rw [List.length_cons] at hf; omega)
    refine ⟨N, a, c, Nat.dvd_trans (Nat.dvd_lcm_left _ _) d, fun x hx => ?_⟩
    rcases List.mem_cons.mp hx with z | z
    · rw [z]; exact Nat.dvd_trans (Nat.dvd_lcm_right _ _) d
    · exact g x z
theorem chk12 : chk 12 12 1 = true := by decide +kernel
theorem Cyc.period {n : Nat} {p : List Int} {R : List (List Int)} (hp : IsPm n p) (C : Cyc n p R) (all : ∀ x : Int, 0 ≤ x → x < n → x ∈ R.flatten) (hn : n ≤ 12) : ∃ N, 1 ≤ N ∧ N ≤ 60 ∧ pwL n p N = unitL n := by
  have hs : (R.map List.length).sum = R.flatten.length := List.length_flatten.symm
  have hl : R.flatten.length ≤ n := by
    have h := len_le_sub (ns := unitL n) C.nd fun x hx => by
      have b := C.bd x hx
      exact List.mem_map.mpr ⟨x.toNat, List.mem_range.mpr (by omega), by show ((x.toNat : Nat) : Int) = x; omega⟩
    unfold unitL at h
    rw [List.length_map, List.length_range] at h
    exact h
  have h1 : ∀ l ∈ R.map List.length, 1 ≤ l := fun l hl => by
    obtain ⟨r, hr, rfl⟩ := List.mem_map.mp hl
    exact (C.tn r hr).ne
  have hlen : ∀ ls : List Nat, (∀ l ∈ ls, 1 ≤ l) → ls.length ≤ ls.sum := fun ls => by
    induction ls with
    | nil => intro _; exact Nat.le_refl _
    | cons a ls ih =>
      intro h
      have := ih fun l z => h l (List.mem_cons_of_mem _ z)
      have := h a (List.mem_cons_self ..)
      rw [List.length_cons, List.sum_cons]
      omega
  obtain ⟨N, a, b, _, d⟩ := chk_all (R.map List.length) 12 12 1 chk12 h1 (by omega) (by have := hlen _ h1; omega)
  refine ⟨N, a, b, pm_ext (n := n) (pwL_pm hp N).len (unit_pm n).len fun j hj => ?_⟩
  obtain ⟨r, hr, hx⟩ := List.mem_flatten.mp (all (j : Int) (by omega) (by omega))
  obtain ⟨i, hi, e⟩ := List.getElem_of_mem hx
  have h : r[i]? = some (j : Int) := by rw [List.getElem?_eq_getElem hi, e]
  have k := C.pw hp hr h N
  obtain ⟨t, et⟩ := d _ (List.mem_map_of_mem (f := List.length) hr)
  rw [et, Nat.add_mul_mod_self_left, Nat.mod_eq_of_lt hi, h, show ((j : Nat) : Int).toNat = j by omega] at k
  rw [et, k]
  exact (unitL_get hj).symm
theorem Cyc.same {n N M : Nat} {p : List Int} {R : List (List Int)} (hp : IsPm n p) (C : Cyc n p R) (all : ∀ x : Int, 0 ≤ x → x < n → x ∈ R.flatten) (hN : pwL n p N = unitL n) (h1 : 1 ≤ N) (hM : pwL n p M = unitL n) (h2 : 1 ≤ M) (e : Int) :
    pwL n p (e % (N : Int)).toNat = pwL n p (e % (M : Int)).toNat := by
  refine pm_ext (n := n) (pwL_pm hp _).len (pwL_pm hp _).len fun j hj => ?_
  obtain ⟨r, hr, hx⟩ := List.mem_flatten.mp (all (j : Int) (by omega) (by omega))
  obtain ⟨i, hi, e2⟩ := List.getElem_of_mem hx
  have h : r[i]? = some (j : Int) := by rw [List.getElem?_eq_getElem hi, e2]
  have a := C.pwMod hp hr h hN h1 e
  have b := C.pwMod hp hr h hM h2 e
  rw [show ((j : Nat) : Int).toNat = j by omega] at a b
  rw [a, b]
theorem pw_sum {n N : Nat} {p : List Int} (hp : IsPm n p) (hN : pwL n p N = unitL n) (h1 : 1 ≤ N) (a b : Int) : mulL (pwL n p (a % (N : Int)).toNat) (pwL n p (b % (N : Int)).toNat) = pwL n p ((a + b) % (N : Int)).toNat := by
  rw [pwL_add hp, ← pwL_mod hp hN]
  congr 1
  have a0 : 0 ≤ a % (N : Int) := Int.emod_nonneg _ (by omega)
  have b0 : 0 ≤ b % (N : Int) := Int.emod_nonneg _ (by omega)
  have c0 : 0 ≤ (a + b) % (N : Int) := Int.emod_nonneg _ (by omega)
  have k : ((((a % (N : Int)).toNat + (b % (N : Int)).toNat) % N : Nat) : Int) = (a + b) % (N : Int) := by
    rw [Int.natCast_emod, Int.natCast_add, Int.toNat_of_nonneg a0, Int.toNat_of_nonneg b0, ← Int.add_emod]
  omega
/-! ### how the cycles are found -/
/-- L is walked from `first`, the next point is pt -/
structure Chain (p : List Int) (first : Int) (L : List Int) (pt : Int) : Prop where
  hd : (L ++ [pt])[0]? = some first
  st : ∀ i x, L[i]? = some x → p[x.toNat]? = (L ++ [pt])[i + 1]?
theorem Chain.start {p : List Int} {first : Int} : Chain p first [] first := ⟨rfl, fun i x h => by cases i <;> cases h⟩
theorem Chain.step {p : List Int} {first pt nx : Int} {L : List Int} (C : Chain p first L pt) (h : p[pt.toNat]? = some nx) : Chain p first (L ++ [pt]) nx := by
  refine ⟨?_, fun i x hx => ?_⟩
  · have hd := C.hd
    rw [List.getElem?_append_left (by rw [List.length_append]; exact Nat.succ_pos _)]
    exact hd
  · by_cases hi : i < L.length
    · rw [List.getElem?_append_left hi] at hx
      rw [C.st i x hx, List.getElem?_append_left (l₁ := L ++ [pt]) (by rw [List.length_append]; show i + 1 < L.length + 1; omega)]
    · have hl := (List.getElem?_eq_some_iff.mp hx).1
      have hl : i < L.length + 1 := by rw [List.length_append] at hl; exact hl
      have ei : i = L.length := by omega
      subst ei
      rw [List.getElem?_append_right (Nat.le_refl _), Nat.sub_self] at hx
      cases hx
      rw [h, List.getElem?_append_right (by rw [List.length_append]; exact Nat.le_refl _), List.length_append]
      show _ = [nx][L.length + 1 - (L.length + 1)]?
      rw [Nat.sub_self]
      rfl
theorem Turn.pre {n : Nat} {p r : List Int} (hp : IsPm n p) (T : Turn p r) (hb : ∀ x ∈ r, 0 ≤ x ∧ x < n) {x y : Int} (hx : 0 ≤ x) (e : p[x.toNat]? = some y) (hy : y ∈ r) : x ∈ r := by
  obtain ⟨i, hi, ei⟩ := List.getElem_of_mem hy
  -- the place before i
  obtain ⟨j, hj, ej⟩ : ∃ j, j < r.length ∧ (j + 1) % r.length = i := by
    by_cases z : i = 0
    · exact ⟨r.length - 1, by have := T.ne; omega, by rw [z, show r.length - 1 + 1 = r.length by have := T.ne; omega, Nat.mod_self]⟩
    · exact ⟨i - 1, by omega, by rw [show i - 1 + 1 = i by omega, Nat.mod_eq_of_lt hi]⟩
  have st := T.st j r[j] (List.getElem?_eq_getElem hj)
  rw [ej, List.getElem?_eq_getElem hi, ei] at st
  have k := hp.inj st e
  have b := hb _ (List.getElem_mem hj)
  have : r[j] = x := by omega
  exact this ▸ List.getElem_mem hj
theorem Chain.close {n : Nat} {p : List Int} {R : List (List Int)} {first pt : Int} {L : List Int} (hp : IsPm n p) (C : Cyc n p R) (c : Chain p first L pt) (nd : (R.flatten ++ L).Nodup) (hb : ∀ x ∈ L, 0 ≤ x ∧ x < n) (hf : first ∉ R.flatten) (hm : pt ∈ R.flatten ++ L) : Turn p L := by
  have L0 : L ≠ [] := fun z => by
    subst z
    have e := Option.some.inj c.hd
    rw [List.append_nil] at hm
    exact hf (e ▸ hm)
  have hl : 0 < L.length := List.length_pos_iff.mpr L0
  have last := c.st (L.length - 1) L[L.length - 1] (List.getElem?_eq_getElem (by omega))
  rw [show L.length - 1 + 1 = L.length by omega, List.getElem?_append_right (Nat.le_refl _), Nat.sub_self] at last
  have last : p[(L[L.length - 1]).toNat]? = some pt := last
  have bl := hb _ (List.getElem_mem (h := (show L.length - 1 < L.length by omega)))
  have nd2 := List.nodup_append.mp nd
  have e : pt = first := by
    rcases List.mem_append.mp hm with z | z
    · obtain ⟨r, hr, hx⟩ := List.mem_flatten.mp z
      have q := (C.tn r hr).pre hp (fun x hx => C.bd x (List.mem_flatten.mpr ⟨r, hr, hx⟩)) bl.1 last hx
      exact absurd rfl (nd2.2.2 _ (List.mem_flatten.mpr ⟨r, hr, q⟩) _ (List.getElem_mem (h := (show L.length - 1 < L.length by omega))))
    · obtain ⟨j, hj, ej⟩ := List.getElem_of_mem z
      by_cases j0 : j = 0
      · subst j0
        have hd := c.hd
        rw [List.getElem?_append_left hl, List.getElem?_eq_getElem hl, ej] at hd
        exact Option.some.inj hd
      · have st := c.st (j - 1) L[j - 1] (List.getElem?_eq_getElem (by omega))
        rw [show j - 1 + 1 = j by omega, List.getElem?_append_left hj, List.getElem?_eq_getElem hj, ej] at st
        have k := hp.inj st last
        have b2 := hb _ (List.getElem_mem (h := (show j - 1 < L.length by omega)))
        have k2 : L[j - 1] = L[L.length - 1] := by omega
        have := (List.getElem_inj nd2.2.1).mp k2
        omega
  refine ⟨hl, fun i x hx => ?_⟩
  rw [c.st i x hx]
  have hi := (List.getElem?_eq_some_iff.mp hx).1
  by_cases z : i + 1 < L.length
  · rw [List.getElem?_append_left z, Nat.mod_eq_of_lt z]
  · rw [show i + 1 = L.length by omega, Nat.mod_self, List.getElem?_append_right (Nat.le_refl _), Nat.sub_self, e]
    have hd := c.hd
    rw [List.getElem?_append_left hl] at hd
    rw [hd]
    rfl
theorem Cyc.more {n : Nat} {p : List Int} {R : List (List Int)} {L : List Int} (C : Cyc n p R) (T : Turn p L) (nd : (R.flatten ++ L).Nodup) (hb : ∀ x ∈ L, 0 ≤ x ∧ x < n) : Cyc n p (R ++ [L]) := by
  have e : (R ++ [L]).flatten = R.flatten ++ L := by rw [List.flatten_append, List.flatten_cons, List.flatten_nil, List.append_nil]
  refine ⟨fun r hr => ?_, by rw [e]; exact nd, fun x hx => ?_⟩
  · rcases List.mem_append.mp hr with z | z
    · exact C.tn r z
    · rw [List.mem_singleton.mp z]; exact T
  · rw [e] at hx
    rcases List.mem_append.mp hx with z | z
    · exact C.bd x z
    · exact hb x z
theorem Cyc.nil {n : Nat} {p : List Int} : Cyc n p [] := ⟨(fun _ h => by cases h), List.nodup_nil, (fun _ h => by cases h)⟩
end KL
/-! powers and cycles: a power of a great base; promises -/
namespace KL
open PySem PySem.Spec PyProof.Rows L2 GA GxR
def CPowB (i j : Int) : Prop := 0 ≤ j ∧ (Builtin.Int.intBits i : Int) * j ≤ 2 ^ 27
theorem op_powB {X : Cx} : OpR X (binaryOp .Pow) (rI CPowB fun i j => .int (i ^ j.toNat)) := opI fun _ _ _ _ _ _ _ hc q => pow_int hc.1 hc.2 q
theorem dpT_ints {K : PySem.W.Frag} {H : Hp} {a : Addr} {ns : List Int} (h : H a = some (.tup (ns.map V.int))) : Dp K H (.ref a) (.tuple (ns.map PyData.int)) := .tup (.inl (.inl h)) (dp_all ns)
theorem shapedT_ints (ns : List Int) : SeqAt.shaped (.tuple (ns.map PyData.int)) = true := PySem.W.ke_shaped_ints ns
theorem eqvT_ints (ns ms : List Int) : PyData.eqv (.tuple (ns.map PyData.int)) (.tuple (ms.map PyData.int)) = decide (ns = ms) := by
  rw [← PySem.W.ked_eqvAll, PyData.eqv]
/-- the rows as tuples -/
structure RowsAt (H : Hp) (As : List Addr) (R : List (List Int)) : Prop where
  len : As.length = R.length
  at_ : ∀ (i : Nat) (r : List Int), R[i]? = some r → ∃ a : Addr, As[i]? = some a ∧ H a = some (.tup (r.map V.int))
theorem RowsAt.ex {H H' : Hp} {As : List Addr} {R : List (List Int)} (x : Ex H H') (h : RowsAt H As R) : RowsAt H' As R :=
  ⟨h.len, fun i r e => let ⟨a, e1, e2⟩ := h.at_ i r e; ⟨a, e1, x.st _ _ e2 trivial⟩⟩
theorem RowsAt.upd {H : Hp} {As : List Addr} {R : List (List Int)} {p : Addr} {o u : HO} (h : RowsAt H As R) (e : H p = some u) (n : ∀ xs, u ≠ .tup xs) : RowsAt (upd H p o) As R :=
  ⟨h.len, fun i r k => let ⟨a, e1, e2⟩ := h.at_ i r k; ⟨a, e1, by
    rw [upd_ne (fun z => by rw [z, e] at e2; exact n _ (Option.some.inj e2))]
    exact e2⟩⟩
theorem RowsAt.new {H : Hp} {As : List Addr} {R : List (List Int)} {p : Addr} {o : HO} (h : RowsAt H As R) (e : H p = none) : RowsAt (L2.upd H p o) As R := h.ex (Ex.new e)
theorem RowsAt.nil {H : Hp} : RowsAt H [] [] := ⟨rfl, fun i r h => by cases i <;> cases h⟩
theorem RowsAt.more {H : Hp} {As : List Addr} {R : List (List Int)} {a : Addr} {L : List Int} (h : RowsAt H As R) (e : H a = some (.tup (L.map V.int))) : RowsAt H (As ++ [a]) (R ++ [L]) := by
  refine ⟨by rw [List.length_append, List.length_append, h.len]; rfl, fun i r k => ?_⟩
  by_cases hi : i < R.length
  · rw [List.getElem?_append_left hi] at k
    obtain ⟨b, e1, e2⟩ := h.at_ i r k
    exact ⟨b, by rw [List.getElem?_append_left (by rw [h.len]; exact hi)]; exact e1, e2⟩
  · have hl := (List.getElem?_eq_some_iff.mp k).1
    rw [List.length_append] at hl
    have hl : i < R.length + 1 := hl
    have ei : i = R.length := by omega
    subst ei
    rw [List.getElem?_append_right (Nat.le_refl _), Nat.sub_self] at k
    cases k
    exact ⟨a, by rw [List.getElem?_append_right (by rw [h.len]; exact Nat.le_refl _), h.len, Nat.sub_self]; rfl, e⟩
theorem refs_norow {As : List Addr} : ¬ RowO (.lst (As.map V.ref)) := fun ⟨s, i, j, k, e⟩ => by
  have e1 : As.map V.ref = [.ref s, .int i, .int j, .int k] := HO.lst.inj e
  match As, e1 with
  | _ :: _ :: _, e1 => cases (List.cons.inj (List.cons.inj e1).2).1
theorem kp {H : Hp} {a p : Addr} {o u v : HO} (h : H a = some o) (e : H p = some u) (n : o ≠ u) : upd H p v a = some o := by
  rw [upd_ne (fun z => by rw [z, e] at h; exact n (Option.some.inj h).symm)]
  exact h
/-- the cycles, each from its least point, in the order of these -/
structure Full (n : Nat) (p : List Int) (R : List (List Int)) : Prop where
  cyc : Cyc n p R
  all : ∀ x : Int, 0 ≤ x → x < n → x ∈ R.flatten
  mn : ∀ r ∈ R, ∀ x ∈ r, r.getD 0 0 ≤ x
  so : (R.map fun r => r.getD 0 0).Pairwise (· < ·)
def spFullCycles : Sp := fun vs H Q _ => ∃ (a : Addr) (n : Nat) (p : List Int), vs = [.ref a] ∧ Pm H a n p ∧ n ≤ 12 ∧ ∀ c As R H', Ex H H' → H' c = some (.lst (As.map V.ref)) → RowsAt H' As R → Full n p R → Q (.ref c) H'
def spPower (K : PySem.W.Frag) : Sp := fun vs H Q _ => ∃ (a : Addr) (n : Nat) (p : List Int) (e : Int), vs = [.ref a, .int e] ∧ Pm H a n p ∧ 1 ≤ n ∧ n ≤ 12 ∧ TabG H (PP K) ∧
  ∀ c H' q, Ex H H' → (∃ N, 1 ≤ N ∧ N ≤ 60 ∧ pwL n p N = unitL n) → (∀ N : Nat, 1 ≤ N → pwL n p N = unitL n → q = pwL n p (e % (N : Int)).toNat) → Pm H' c n q → Q (.ref c) H'
def spPick (K : PySem.W.Frag) : Sp := fun vs H Q _ => ∃ (r s t : Addr) (ns ts : List Int), vs = [.ref r, .ref t] ∧ RowAt H r s ∧ SqL K H s (ns.map V.int) ∧ H t = some (.lst (ts.map V.int)) ∧ 1 ≤ ts.length ∧ ts.length ≤ 1000 ∧ ∀ (i : Int) H', Ex H H' → i ∈ ts → Q (.int i) H'
def spExponent (K : PySem.W.Frag) : Sp := fun vs H Q _ => ∃ (r s : Addr) (ns : List Int) (k : Nat), vs = [.ref r, .ref s, .int k] ∧ RowAt H r s ∧ SqL K H s (ns.map V.int) ∧ ∀ (i : Int) H', Ex H H' → Q (.int i) H'
def spLawMul : Sp := fun vs H Q _ => ∃ (a b : Addr) (n : Nat) (p q : List Int), vs = [.ref a, .ref b] ∧ Pm H a n p ∧ Pm H b n q ∧ n ≤ 1000 ∧ ∀ c H', Ex H H' → Pm H' c n (mulL p q) → Q (.ref c) H'
def spSlow : Sp := fun vs H Q _ => ∃ (a : Addr) (n k : Nat) (p : List Int), vs = [.ref a, .int k] ∧ Pm H a n p ∧ n ≤ 1000 ∧ k ≤ 1000 ∧ ∀ c H', Ex H H' → Pm H' c n (pwL n p k) → Q (.ref c) H'
def spOrder : Sp := fun vs H Q _ => ∃ (a : Addr) (n : Nat) (p : List Int), vs = [.ref a] ∧ Pm H a n p ∧ n ≤ 1000 ∧ ∀ (o : Nat) H', Ex H H' → 1 ≤ o → o ≤ 61 → (pwL n p o = unitL n ∨ ∀ N, 1 ≤ N → N ≤ 60 → pwL n p N ≠ unitL n) → Q (.int o) H'
/-- where full_cycles stands: the rows so far, what was seen -/
structure FC (w : World) (H H1 : Hp) (l sA : Addr) (n : Nat) (p : List Int) (As : List Addr) (R : List (List Int)) (S : List Int) : Prop where
  ex : Ex H H1
  hl : H1 l = some (.lst (As.map V.ref))
  rows : RowsAt H1 As R
  seen : H1 sA = some (SetO w sA (fun k => decide (k ∈ S)) S.length)
  cyc : Cyc n p R
  nd : S.Nodup
  bd : ∀ x ∈ S, 0 ≤ x ∧ x < n
  mn : ∀ r ∈ R, ∀ x ∈ r, r.getD 0 0 ≤ x
  so : (R.map fun r => r.getD 0 0).Pairwise (· < ·)
theorem bd_len {S : List Int} {n : Nat} (nd : S.Nodup) (bd : ∀ x ∈ S, 0 ≤ x ∧ x < (n : Int)) : S.length ≤ n := by
  have h := len_le_sub (ns := unitL n) nd fun x hx => by
    have b := bd x hx
    exact List.mem_map.mpr ⟨x.toNat, List.mem_range.mpr (by omega), by show ((x.toNat : Nat) : Int) = x; omega⟩
  unfold unitL at h
  rw [List.length_map, List.length_range] at h
  exact h
theorem FC.new {w : World} {H H1 : Hp} {l sA : Addr} {n : Nat} {p : List Int} {As : List Addr} {R : List (List Int)} {S : List Int} {q : Addr} {o : HO} (F : FC w H H1 l sA n p As R S) (e : H1 q = none) : FC w H (upd H1 q o) l sA n p As R S :=
  ⟨F.ex.trans (Ex.new e), by rw [upd_ne (ne_of_none F.hl e)]; exact F.hl, F.rows.new e, by rw [upd_ne (ne_of_none F.seen e)]; exact F.seen, F.cyc, F.nd, F.bd, F.mn, F.so⟩
theorem nd_more {S : List Int} {x : Int} (nd : S.Nodup) (h : x ∉ S) : (S ++ [x]).Nodup := List.nodup_append.mpr ⟨nd, List.nodup_cons.mpr ⟨(fun z => by cases z), List.nodup_nil⟩, fun a ha b hb e => by
  rw [List.mem_singleton.mp hb] at e
  exact h (e ▸ ha)⟩
theorem bd_more {S : List Int} {x : Int} {n : Nat} (bd : ∀ x ∈ S, 0 ≤ x ∧ x < (n : Int)) (h0 : 0 ≤ x) (h1 : x < n) : ∀ y ∈ S ++ [x], 0 ≤ y ∧ y < (n : Int) := fun y hy => by
  rcases List.mem_append.mp hy with z | z
  · exact bd y z
  · rw [List.mem_singleton.mp z]; exact ⟨h0, h1⟩
theorem rows_le {p : List Int} : ∀ {R : List (List Int)}, (∀ r ∈ R, Turn p r) → R.length ≤ R.flatten.length
  | [], _ => Nat.le_refl _
  | r :: R, h => by
    have h1 := (h r (List.mem_cons_self ..)).ne
    have h2 := rows_le fun x hx => h x (List.mem_cons_of_mem _ hx)
    rw [List.flatten_cons, List.length_cons, List.length_append]
    omega
theorem setO_more {w : World} {a : Addr} {S : List Int} {k : Int} (hk : k ∉ S) : SetO w a (fun j => decide (j ∈ S) || decide (j = k)) (if decide (k ∈ S) = true then S.length else S.length + 1) = SetO w a (fun j => decide (j ∈ S ++ [k])) (S ++ [k]).length := by
  have e1 : (fun j => decide (j ∈ S) || decide (j = k)) = fun j => decide (j ∈ S ++ [k]) := by
    funext j
    rw [Bool.eq_iff_iff]
    simp
  rw [e1, if_neg (by rw [decide_eq_true_iff]; exact hk), List.length_append]
  rfl
end KL
/-! orders, signs, supports: rules and promises -/
namespace KL
open PySem PySem.Spec PyProof.Rows L2 GA GxR
def rLcm : List V → Hp → VK → Prop := fun vs H Q => ∃ a b : Nat, vs = [V.int a, V.int b] ∧ a < 2 ^ 64 ∧ b < 2 ^ 64 ∧ Q (.int ((Nat.lcm a b : Nat) : Int)) H
theorem cr_lcm {X : Cx} : CallR X (.builtin "math.lcm") rLcm := by
  intro pins s σ H vs us Q I r h
  obtain ⟨a, b, rfl, ha, hb, q⟩ := h
  obtain ⟨t, u, rfl⟩ := Vals.int2 r
  exact PySem.W.mc_lcm (by show a < 2 ^ 64; exact ha) (by show b < 2 ^ 64; exact hb) fun _ => ⟨.int _, H, I.tok _, ⟨_, rfl⟩, q⟩
def lensL (R : List (List Int)) : List Int := R.map fun r => (r.length : Int)
def spLens : Sp := fun vs H Q _ => ∃ (a : Addr) (n : Nat) (p : List Int), vs = [.ref a] ∧ Pm H a n p ∧ n ≤ 12 ∧ ∀ (c : Addr) (H' : Hp) (R : List (List Int)) (ns : List Int), Ex H H' → Full n p R → ns.Perm (lensL R) → ns.Pairwise (· ≤ ·) → H' c = some (.tup (ns.map V.int)) → Q (.ref c) H'
def spCycles (K : PySem.W.Frag) : Sp := fun vs H Q _ => ∃ (a : Addr) (n : Nat) (p : List Int), vs = [.ref a] ∧ Pm H a n p ∧ 1 ≤ n ∧ n ≤ 12 ∧ TabG H (PP K) ∧ ∀ (c : Addr) (H' : Hp) (R : List (List Int)) (As : List Addr), Ex H H' → Full n p R → RowsAt H' As (R.filter fun r => decide (1 < r.length)) → H' c = some (.tup (As.map V.ref)) → Q (.ref c) H'
def spCycleLengths (K : PySem.W.Frag) : Sp := fun vs H Q _ => ∃ (a : Addr) (n : Nat) (p : List Int), vs = [.ref a] ∧ Pm H a n p ∧ 1 ≤ n ∧ n ≤ 12 ∧ TabG H (PP K) ∧ ∀ (c : Addr) (H' : Hp) (R : List (List Int)) (ns : List Int), Ex H H' → Full n p R → ns.Perm (lensL R) → ns.Pairwise (· ≤ ·) → H' c = some (.tup (ns.map V.int)) → Q (.ref c) H'
def spPeriod : Sp := fun vs H Q _ => ∃ (a : Addr) (n : Nat) (p : List Int), vs = [.ref a] ∧ Pm H a n p ∧ n ≤ 12 ∧ ∀ (o : Nat) (H' : Hp) (R : List (List Int)), Ex H H' → Full n p R → 1 ≤ o → (∀ r ∈ R, r.length ∣ o) → (∀ m, (∀ r ∈ R, r.length ∣ m) → o ∣ m) → Q (.int o) H'
def spOrd (K : PySem.W.Frag) : Sp := fun vs H Q _ => ∃ (a : Addr) (n : Nat) (p : List Int), vs = [.ref a] ∧ Pm H a n p ∧ 1 ≤ n ∧ n ≤ 12 ∧ TabG H (PP K) ∧
  ∀ (o : Nat) (H' : Hp) (R : List (List Int)), Ex H H' → Full n p R → 1 ≤ o → (∀ r ∈ R, r.length ∣ o) → (∀ m, (∀ r ∈ R, r.length ∣ m) → o ∣ m) → Q (.int o) H'
def spSign (K : PySem.W.Frag) : Sp := fun vs H Q _ => ∃ (a : Addr) (n : Nat) (p : List Int), vs = [.ref a] ∧ Pm H a n p ∧ 1 ≤ n ∧ n ≤ 12 ∧ TabG H (PP K) ∧ ∀ (H' : Hp) (R : List (List Int)), Ex H H' → Full n p R → Q (.int (if (n - R.length) % 2 = 0 then 1 else -1)) H'
def suppI (p : List Int) (i : Nat) : List Int := ((List.range i).map Int.ofNat).filter fun i => decide (i ≠ p.getD i.toNat 0)
theorem suppI_succ {p : List Int} {i : Nat} : suppI p (i + 1) = suppI p i ++ if (i : Int) ≠ p.getD i 0 then [(i : Int)] else [] := by
  unfold suppI
  rw [List.range_succ, List.map_append, List.filter_append]
  congr 1
  show List.filter _ [Int.ofNat i] = _
  by_cases h : (i : Int) ≠ p.getD i 0
  · rw [if_pos h, List.filter_cons_of_pos (by rw [decide_eq_true_iff]; exact h), List.filter_nil]
    rfl
  · rw [if_neg h, List.filter_cons_of_neg (by rw [decide_eq_true_iff]; exact h), List.filter_nil]
theorem suppI_len {p : List Int} {i : Nat} : (suppI p i).length ≤ i := by
  unfold suppI
  refine Nat.le_trans (List.length_filter_le ..) ?_
  rw [List.length_map, List.length_range]
  exact Nat.le_refl _
theorem Chain.back {n : Nat} {p : List Int} {first pt : Int} {L : List Int} (hp : IsPm n p) (c : Chain p first L pt) (nd : L.Nodup) (hb : ∀ x ∈ L, 0 ≤ x ∧ x < n) (hm : pt ∈ L) : pt = first := by
  obtain ⟨j, hj, ej⟩ := List.getElem_of_mem hm
  have hl : 0 < L.length := by omega
  have last := c.st (L.length - 1) L[L.length - 1] (List.getElem?_eq_getElem (by omega))
  rw [show L.length - 1 + 1 = L.length by omega, List.getElem?_append_right (Nat.le_refl _), Nat.sub_self] at last
  have last : p[(L[L.length - 1]).toNat]? = some pt := last
  have bl := hb _ (List.getElem_mem (h := (show L.length - 1 < L.length by omega)))
  by_cases j0 : j = 0
  · subst j0
    have hd := c.hd
    rw [List.getElem?_append_left hl, List.getElem?_eq_getElem hl, ej] at hd
    exact Option.some.inj hd
  · have st := c.st (j - 1) L[j - 1] (List.getElem?_eq_getElem (by omega))
    rw [show j - 1 + 1 = j by omega, List.getElem?_append_left hj, List.getElem?_eq_getElem hj, ej] at st
    have k := hp.inj st last
    have b2 := hb _ (List.getElem_mem (h := (show j - 1 < L.length by omega)))
    have k2 : L[j - 1] = L[L.length - 1] := by omega
    have := (List.getElem_inj nd).mp k2
    omega
theorem Chain.turn {p : List Int} {first : Int} {L : List Int} (c : Chain p first L first) (hl : 0 < L.length) : Turn p L := by
  refine ⟨hl, fun i x hx => ?_⟩
  rw [c.st i x hx]
  have hi := (List.getElem?_eq_some_iff.mp hx).1
  by_cases z : i + 1 < L.length
  · rw [List.getElem?_append_left z, Nat.mod_eq_of_lt z]
  · rw [show i + 1 = L.length by omega, Nat.mod_self, List.getElem?_append_right (Nat.le_refl _), Nat.sub_self]
    have hd := c.hd
    rw [List.getElem?_append_left hl] at hd
    rw [hd]
    rfl
def spRing : Sp := fun vs H Q _ => ∃ (a : Addr) (n : Nat) (p : List Int) (x : Int), vs = [.ref a, .int x] ∧ Pm H a n p ∧ n ≤ 12 ∧ 0 ≤ x ∧ x < n ∧ ∀ (c : Addr) (H' : Hp) (r : List Int), Ex H H' → Turn p r → r.Nodup → r[0]? = some x → (∀ y ∈ r, 0 ≤ y ∧ y < n) → H' c = some (.tup (r.map V.int)) → Q (.ref c) H'
def spLeast : Sp := fun vs H Q _ => ∃ (a : Addr) (n : Nat) (p : List Int), vs = [.ref a] ∧ Pm H a n p ∧ n ≤ 1000 ∧ ∀ (o : Nat) (H' : Hp), Ex H H' → ((1 ≤ o ∧ o ≤ 60 ∧ pwL n p o = unitL n ∧ ∀ N, 1 ≤ N → N < o → pwL n p N ≠ unitL n) ∨ ∀ N, 1 ≤ N → N ≤ 60 → pwL n p N ≠ unitL n) → Q (.int o) H'
def spBlocks (K : PySem.W.Frag) : Sp := fun vs H Q _ => ∃ (r s : Addr) (ns : List Int), vs = [.ref r] ∧ RowAt H r s ∧ SqL K H s (ns.map V.int) ∧ ∀ (c : Addr) (H' : Hp) (n : Nat) (p : List Int), Ex H H' → 1 ≤ n → n ≤ 12 → Pm H' c n p → Q (.ref c) H'
def blockI (m s i : Nat) : List Int := (List.range i).map fun k => ((m + (k + 1) % s : Nat) : Int)
theorem block_pm {m s : Nat} {L : List Int} (h : IsPm m L) (hs : 1 ≤ s) : IsPm (m + s) (L ++ blockI m s s) := by
  refine ⟨by unfold blockI; rw [List.length_append, h.len, List.length_map, List.length_range], ?_, fun x hx => ?_⟩
  · rw [List.nodup_append]
    refine ⟨h.nd, ?_, fun a ha b hb e => ?_⟩
    · unfold blockI
      rw [List.nodup_iff_pairwise_ne, List.pairwise_iff_getElem]
      intro a b ha hb hab e
      rw [List.length_map, List.length_range] at ha hb
      rw [List.getElem_map, List.getElem_map, List.getElem_range, List.getElem_range] at e
      have e : (a + 1) % s = (b + 1) % s := by omega
      by_cases z : b + 1 = s
      · rw [z, Nat.mod_self, Nat.mod_eq_of_lt (by omega)] at e
        omega
      · rw [Nat.mod_eq_of_lt (show b + 1 < s by omega), Nat.mod_eq_of_lt (show a + 1 < s by omega)] at e
        omega
    · obtain ⟨k, _, rfl⟩ := List.mem_map.mp hb
      have := h.bd a ha
      omega
  · rcases List.mem_append.mp hx with z | z
    · have := h.bd x z
      omega
    · obtain ⟨k, _, rfl⟩ := List.mem_map.mp z
      have := Nat.mod_lt (k + 1) (show s > 0 by omega)
      omega
def spSupport (K : PySem.W.Frag) : Sp := fun vs H Q _ => ∃ (a : Addr) (n : Nat) (p : List Int), vs = [.ref a] ∧ Pm H a n p ∧ 1 ≤ n ∧ n ≤ 12 ∧ TabG H (PP K) ∧ ∀ c H', Ex H H' → H' c = some (.tup ((suppI p n).map V.int)) → Q (.ref c) H'
def spLawConj : Sp := fun vs H Q _ => ∃ (a b : Addr) (n : Nat) (p g : List Int), vs = [.ref a, .ref b] ∧ Pm H a n p ∧ Pm H b n g ∧ n ≤ 1000 ∧ ∀ (c : Addr) (H' : Hp) (q : List Int), Ex H H' → Pm H' c n q → q = mulL (mulL (invL g) p) g → Q (.ref c) H'
end KL
/-! signs: inversions against cycles -/
namespace KL
open PySem PySem.Spec PyProof.Rows L2 GA GxR
def cntLt (z : Int) (l : List Int) : Nat := l.countP fun y => decide (y < z)
def cntGt (z : Int) (l : List Int) : Nat := l.countP fun y => decide (z < y)
def invN : List Int → Nat
  | [] => 0
  | x :: l => cntLt x l + invN l
theorem invN_snoc (x : Int) : ∀ l : List Int, invN (l ++ [x]) = invN l + cntGt x l
  | [] => rfl
  | z :: l => by
    show cntLt z (l ++ [x]) + invN (l ++ [x]) = cntLt z l + invN l + cntGt x (z :: l)
    rw [invN_snoc x l]
    unfold cntLt cntGt
    rw [List.countP_append, List.countP_cons, List.countP_cons, List.countP_nil]
    omega
theorem inv_adj {x y : Int} (h : x ≠ y) (b : List Int) : ∀ a : List Int, (invN (a ++ x :: y :: b) + 1) % 2 = invN (a ++ y :: x :: b) % 2
  | [] => by
    show (cntLt x (y :: b) + (cntLt y b + invN b) + 1) % 2 = (cntLt y (x :: b) + (cntLt x b + invN b)) % 2
    unfold cntLt
    rw [List.countP_cons, List.countP_cons]
    by_cases z : x < y
    · rw [if_neg (by rw [decide_eq_true_iff]; omega), if_pos (by rw [decide_eq_true_iff]; omega)]
      omega
    · rw [if_pos (by rw [decide_eq_true_iff]; omega), if_neg (by rw [decide_eq_true_iff]; omega)]
      omega
  | c :: a => by
    have ih := inv_adj h b a
    have e : cntLt c (a ++ x :: y :: b) = cntLt c (a ++ y :: x :: b) := by
      unfold cntLt
      simp only [List.countP_append, List.countP_cons]
      omega
    show (cntLt c (a ++ x :: y :: b) + invN (a ++ x :: y :: b) + 1) % 2 = (cntLt c (a ++ y :: x :: b) + invN (a ++ y :: x :: b)) % 2
    omega
theorem inv_far {x y : Int} (h : x ≠ y) (b : List Int) : ∀ m a : List Int, (∀ z ∈ m, x ≠ z ∧ y ≠ z) → (invN (a ++ x :: (m ++ y :: b)) + 1) % 2 = invN (a ++ y :: (m ++ x :: b)) % 2
  | [], a, _ => inv_adj h b a
  | z :: m, a, hz => by
    have k := hz z (List.mem_cons_self ..)
    have e1 := inv_adj k.1 (m ++ y :: b) a
    have e2 := inv_far h b m (a ++ [z]) fun w hw => hz w (List.mem_cons_of_mem _ hw)
    have e3 := inv_adj (Ne.symm k.2) (m ++ x :: b) a
    have a1 : ∀ l : List Int, a ++ [z] ++ l = a ++ z :: l := fun l => by rw [List.append_assoc]; rfl
    rw [a1, a1] at e2
    show (invN (a ++ x :: z :: (m ++ y :: b)) + 1) % 2 = invN (a ++ y :: z :: (m ++ x :: b)) % 2
    omega
theorem inv_swap {l : List Int} {i j : Nat} {x y : Int} (nd : l.Nodup) (hij : i < j) (hi : l[i]? = some x) (hj : l[j]? = some y) : (invN l + 1) % 2 = invN ((l.set i y).set j x) % 2 := by
  obtain ⟨li, ei⟩ := List.getElem?_eq_some_iff.mp hi
  obtain ⟨lj, ej⟩ := List.getElem?_eq_some_iff.mp hj
  have d1 : l = l.take i ++ x :: l.drop (i + 1) := by rw [← ei, ← List.drop_eq_getElem_cons li, List.take_append_drop]
  have h2 : (l.drop (i + 1))[j - i - 1]? = some y := by rw [List.getElem?_drop, ← hj]; congr 1; omega
  obtain ⟨l2, e2⟩ := List.getElem?_eq_some_iff.mp h2
  generalize hA : l.take i = A at d1
  generalize hD : l.drop (i + 1) = D at d1 h2 l2 e2
  have d2 : D = D.take (j - i - 1) ++ y :: D.drop (j - i - 1 + 1) := by rw [← e2, ← List.drop_eq_getElem_cons l2, List.take_append_drop]
  generalize hM : D.take (j - i - 1) = M at d2
  generalize D.drop (j - i - 1 + 1) = B at d2
  have lA : A.length = i := by rw [← hA, List.length_take]; omega
  have lM : M.length = j - i - 1 := by rw [← hM, List.length_take]; omega
  rw [d2] at d1
  subst d1
  have nd1 := List.nodup_append.mp nd
  have nd2 := List.nodup_cons.mp nd1.2.1
  have nd3 := List.nodup_append.mp nd2.2
  have xy : x ≠ y := fun e => nd2.1 (List.mem_append_right _ (by rw [e]; exact List.mem_cons_self ..))
  have es : ((A ++ x :: (M ++ y :: B)).set i y).set j x = A ++ y :: (M ++ x :: B) := by
    rw [List.set_append_right i y (by omega), lA, Nat.sub_self, List.set_cons_zero, List.set_append_right j x (by omega), lA, show j - i = (j - i - 1) + 1 by omega, List.set_cons_succ, List.set_append_right _ x (by omega), lM, Nat.sub_self, List.set_cons_zero]
  rw [es]
  exact inv_far xy B M A fun z hz => ⟨fun e => nd2.1 (List.mem_append_left _ (by rw [e]; exact hz)), fun e => nd3.2.2 z hz y (List.mem_cons_self ..) e.symm⟩
theorem inv_swap2 {l : List Int} {i j : Nat} {x y : Int} (nd : l.Nodup) (hij : i ≠ j) (hi : l[i]? = some x) (hj : l[j]? = some y) : (invN l + 1) % 2 = invN ((l.set i y).set j x) % 2 := by
  by_cases z : i < j
  · exact inv_swap nd z hi hj
  · have := inv_swap nd (show j < i by omega) hj hi
    rwa [List.set_comm _ _ hij.symm] at this
theorem inv_unit : ∀ n : Nat, invN (unitL n) = 0
  | 0 => rfl
  | n + 1 => by
    have e : unitL (n + 1) = unitL n ++ [(n : Int)] := by unfold unitL; rw [List.range_succ, List.map_append]; rfl
    rw [e, invN_snoc, inv_unit n]
    unfold cntGt
    rw [List.countP_eq_zero.mpr]
    intro x hx
    have := (unit_pm n).bd x hx
    rw [decide_eq_true_iff]
    omega
theorem parity {n : Nat} : ∀ (k : Nat) (p : List Int) (R : List (List Int)), IsPm n p → Cyc n p R → (∀ x : Int, 0 ≤ x → x < n → x ∈ R.flatten) → n - R.length = k → invN p % 2 = k % 2
  | k, p, R, hp, C, all, hk => by
    by_cases h1 : ∀ r ∈ R, r.length = 1
    · have ep : p = unitL n := by
        refine pm_ext (n := n) hp.len (unit_pm n).len fun j hj => ?_
        obtain ⟨r, hr, hx⟩ := List.mem_flatten.mp (all (j : Int) (by omega) (by omega))
        obtain ⟨i, hi, e⟩ := List.getElem_of_mem hx
        have l1 := h1 r hr
        have i0 : i = 0 := by omega
        subst i0
        have h0 : r[0]? = some (j : Int) := by rw [List.getElem?_eq_getElem hi, e]
        have st := (C.tn r hr).st 0 _ h0
        rw [l1, show (0 + 1) % 1 = 0 from rfl, h0, show ((j : Nat) : Int).toNat = j by omega] at st
        rw [st]
        exact (unitL_get hj).symm
      have el : R.length = R.flatten.length := by
        clear hk
        have : ∀ R : List (List Int), (∀ r ∈ R, r.length = 1) → R.length = R.flatten.length := fun R => by
          induction R with
          | nil => intro _; rfl
          | cons r R ih =>
            intro h
            rw [List.length_cons, List.flatten_cons, List.length_append, ← ih fun r hr => h r (List.mem_cons_of_mem _ hr), h r (List.mem_cons_self ..)]
            omega
        exact this R h1
      have en : n ≤ R.flatten.length := by
        have h := len_le_sub (ks := unitL n) (ns := R.flatten) (unit_pm n).nd fun x hx => all x ((unit_pm n).bd x hx).1 ((unit_pm n).bd x hx).2
        have hl : (unitL n).length = n := (unit_pm n).len
        rwa [hl] at h
      rw [ep, inv_unit]
      omega
    · obtain ⟨r, hr, hl⟩ : ∃ r ∈ R, r.length ≠ 1 := by
        apply Classical.byContradiction
        intro z
        exact h1 fun r hr => Classical.byContradiction fun q => z ⟨r, hr, q⟩
      have T := C.tn r hr
      have l0 := T.ne
      obtain ⟨R1, R2, eR⟩ := List.append_of_mem hr
      -- r = s ++ [a, b]
      obtain ⟨s, a, b, er⟩ : ∃ s a b, r = s ++ [a, b] := by
        have d1 : r = r.take (r.length - 2) ++ r.drop (r.length - 2) := (List.take_append_drop ..).symm
        have l2 : (r.drop (r.length - 2)).length = 2 := by rw [List.length_drop]; omega
        match hd : r.drop (r.length - 2), l2 with
        | [a, b], _ => exact ⟨_, a, b, by rw [← hd]; exact d1⟩
      subst er
      have ls : (s ++ [a, b]).length = s.length + 2 := by rw [List.length_append]; rfl
      have ga : (s ++ [a, b])[s.length]? = some a := by rw [List.getElem?_append_right (Nat.le_refl _), Nat.sub_self]; rfl
      have gb : (s ++ [a, b])[s.length + 1]? = some b := by rw [List.getElem?_append_right (by omega), show s.length + 1 - s.length = 1 by omega]; rfl
      obtain ⟨f, gf⟩ : ∃ f, (s ++ [a, b])[0]? = some f := ⟨_, List.getElem?_eq_getElem (by omega)⟩
      have pa : p[a.toNat]? = some b := by
        rw [T.st _ _ ga, ls, Nat.mod_eq_of_lt (by omega), gb]
      have pb : p[b.toNat]? = some f := by
        rw [T.st _ _ gb, ls, Nat.mod_self, gf]
      have mem : ∀ x ∈ s ++ [a, b], x ∈ R.flatten := fun x hx => List.mem_flatten.mpr ⟨_, hr, hx⟩
      have ba := C.bd a (mem a (List.mem_of_getElem? ga))
      have bb := C.bd b (mem b (List.mem_of_getElem? gb))
      have ndr := nodup_row C.nd _ hr
      have ab : a ≠ b := fun e => by
        obtain ⟨h3, e3⟩ := List.getElem?_eq_some_iff.mp ga
        obtain ⟨h4, e4⟩ := List.getElem?_eq_some_iff.mp gb
        have := (List.getElem_inj ndr).mp (e3.trans (e.trans e4.symm))
        omega
      have abn : a.toNat ≠ b.toNat := by omega
      have hq := hp.swap pa pb
      have flip := inv_swap2 hp.nd abn pa pb
      have lp := hp.len
      generalize hqe : (p.set a.toNat f).set b.toNat b = q at hq flip
      have qa : q[a.toNat]? = some f := by
        rw [← hqe, List.getElem?_set_ne (Ne.symm abn), List.getElem?_set_self (by omega)]
      have qb : q[b.toNat]? = some b := by
        rw [← hqe, List.getElem?_set_self (by rw [List.length_set]; omega)]
      have qo : ∀ x : Int, 0 ≤ x → x ≠ a → x ≠ b → q[x.toNat]? = p[x.toNat]? := fun x x0 xa xb => by
        rw [← hqe, List.getElem?_set_ne (by omega), List.getElem?_set_ne (by omega)]
      have efl : (R1 ++ (s ++ [a]) :: [b] :: R2).flatten = R.flatten := by
        rw [eR]
        simp
      have lR : (R1 ++ (s ++ [a]) :: [b] :: R2).length = R.length + 1 := by
        rw [eR, List.length_append, List.length_append]
        simp only [List.length_cons]
        omega
      have other : ∀ r' ∈ R, r' ≠ s ++ [a, b] → ∀ x ∈ r', x ≠ a ∧ x ≠ b := fun r' hr' hne x hx => by
        have u : x ∉ s ++ [a, b] := fun hx2 => hne (by
          obtain ⟨i, hi, ei⟩ := List.getElem_of_mem hr'
          obtain ⟨j, hj, ej⟩ := List.getElem_of_mem hr
          by_cases z : i = j
          · subst z; rw [← ei, ej]
          · have pw := (List.pairwise_flatten.mp C.nd).2
            rw [List.pairwise_iff_getElem] at pw
            rcases Nat.lt_or_gt_of_ne z with h | h
            · have := pw i j hi hj h
              rw [ei, ej] at this
              exact absurd rfl (this x hx x hx2)
            · have := pw j i hj hi h
              rw [ei, ej] at this
              exact absurd rfl (this x hx2 x hx))
        exact ⟨fun e => u (by rw [e]; exact List.mem_of_getElem? ga), fun e => u (by rw [e]; exact List.mem_of_getElem? gb)⟩
      have keep : ∀ r' ∈ R, r' ≠ s ++ [a, b] → Turn q r' := fun r' hr' hne => ⟨(C.tn r' hr').ne, fun i x hx => by
        have m := List.mem_of_getElem? hx
        have o := other r' hr' hne x m
        rw [qo x (C.bd x (List.mem_flatten.mpr ⟨r', hr', m⟩)).1 o.1 o.2]
        exact (C.tn r' hr').st i x hx⟩
      have nR : R.Nodup ∨ True := .inr trivial
      have uniq : ∀ r' ∈ R1 ++ R2, r' ∈ R ∧ r' ≠ s ++ [a, b] := fun r' hr' => by
        refine ⟨by rw [eR]; rcases List.mem_append.mp hr' with h | h; exact List.mem_append_left _ h; exact List.mem_append_right _ (List.mem_cons_of_mem _ h), fun e => ?_⟩
        have nd := C.nd
        rw [eR, List.flatten_append, List.flatten_cons] at nd
        have n1 := List.nodup_append.mp nd
        have n2 := List.nodup_append.mp n1.2.1
        have ma : a ∈ r' := e ▸ List.mem_of_getElem? ga
        rcases List.mem_append.mp hr' with h | h
        · exact n1.2.2 a (List.mem_flatten.mpr ⟨r', h, ma⟩) a (List.mem_append_left _ (List.mem_of_getElem? ga)) rfl
        · exact n2.2.2 a (List.mem_of_getElem? ga) a (List.mem_flatten.mpr ⟨r', h, ma⟩) rfl
      have C2 : Cyc n q (R1 ++ (s ++ [a]) :: [b] :: R2) := by
        refine ⟨fun r' hr' => ?_, by rw [efl]; exact C.nd, by rw [efl]; exact C.bd⟩
        rcases List.mem_append.mp hr' with h | h
        · have u := uniq r' (List.mem_append_left _ h)
          exact keep r' u.1 u.2
        · rcases List.mem_cons.mp h with h | h
          · rw [h]
            refine ⟨by rw [List.length_append]; exact Nat.succ_pos _, fun i x hx => ?_⟩
            have hi := (List.getElem?_eq_some_iff.mp hx).1
            have lsa : (s ++ [a]).length = s.length + 1 := by rw [List.length_append]; rfl
            rw [lsa] at hi ⊢
            have pre : ∀ i, i < s.length + 1 → (s ++ [a])[i]? = (s ++ [a, b])[i]? := fun i hi => by
              have e : s ++ [a, b] = (s ++ [a]) ++ [b] := by rw [List.append_assoc]; rfl
              rw [e, List.getElem?_append_left (l₁ := s ++ [a]) (by rw [lsa]; exact hi)]
            rw [pre i hi] at hx
            by_cases z : i = s.length
            · subst z
              rw [ga] at hx
              cases hx
              rw [qa, Nat.mod_self, pre 0 (by omega), gf]
            · have m := List.mem_of_getElem? hx
              have xa : x ≠ a := fun e => by
                subst e
                obtain ⟨h3, e3⟩ := List.getElem?_eq_some_iff.mp ga
                obtain ⟨h4, e4⟩ := List.getElem?_eq_some_iff.mp hx
                exact z ((List.getElem_inj ndr).mp (e4.trans e3.symm))
              have xb : x ≠ b := fun e => by
                subst e
                obtain ⟨h3, e3⟩ := List.getElem?_eq_some_iff.mp gb
                obtain ⟨h4, e4⟩ := List.getElem?_eq_some_iff.mp hx
                have := (List.getElem_inj ndr).mp (e4.trans e3.symm)
                omega
              rw [qo x (C.bd x (mem x m)).1 xa xb, T.st i x hx, ls, Nat.mod_eq_of_lt (by omega), Nat.mod_eq_of_lt (by omega), pre _ (by omega)]
          · rcases List.mem_cons.mp h with h | h
            · rw [h]
              refine ⟨Nat.succ_pos _, fun i x hx => ?_⟩
              have hi := (List.getElem?_eq_some_iff.mp hx).1
              have i0 : i = 0 := by
                have hi : i < 1 := hi
                omega
              subst i0
              cases hx
              rw [qb, show (0 + 1) % [b].length = 0 from Nat.mod_self 1]
              rfl
            · have u := uniq r' (List.mem_append_right _ h)
              exact keep r' u.1 u.2
      have le := Nat.le_trans (rows_le C2.tn) (bd_len C2.nd C2.bd)
      rw [lR] at le
      have ih := parity (n - (R.length + 1)) q _ hq C2 (by rw [efl]; exact all) (by rw [lR])
      omega
termination_by k => k
decreasing_by omega
end KL
/-! min of a tuple of ints -/
namespace KL
open PySem PySem.Spec PyProof.Rows L2 GA GxR
theorem min_tupInts {prog : Program} {w : World} {A : Around} {E : Value → Shared → Prop} {s : Shared} {t : Addr} {vs : List Value} {ns : List Int} {Q : Value → Shared → Prop} (calm : A.handled = none) (ht : s.heap.IsTuple t vs.toArray) (vi : IntsAre vs ns) (some_ : 0 < ns.length)
    (q : ∀ (h1 : Heap) (k : Nat) (m : Int) (tm : Tok), (∀ b o, s.heap.get? b = some o → h1.get? b = some o) → m ∈ ns → (∀ y ∈ ns, m ≤ y) → Q (.int m tm) { s with heap := h1, toks := k }) :
    wpAny (model prog w) A (call (.builtin "min") [.ref t]) Q E s := by
  obtain ⟨ps, ep⟩ := IntsAre.allInts vi |>.items
  have en : numsOf (PySem.intItems ps).toList = ns := by
    rw [← ep]
    exact IntsAre.numsOf vi
  rw [nums_intItems] at en
  subst en
  rw [ep] at ht
  have p0 : 0 < ps.size := by simpa using some_
  have tlt : t < s.heap.objs.size := by
    obtain ⟨_, e, _⟩ := ht
    exact Heap.lt_size e
  refine PySem.call_min_walk (wpAny_pyIter_tuple ht ?_)
  refine ⟨_, [_, t], [_], _, _, _, _, rfl, PySem.Walks.tuple (A := A.in1) calm _ t (Nat.ne_of_lt tlt) (PySem.intItems ps), ⟨⟨_, Heap.get?_push_size _ rfl, rfl, rfl⟩, ht.push _⟩, fun c hc => ?_, by simpa [PySem.intItems] using p0, PySem.CmpOf.ints_lt (PySem.numAt ps) (fun _ _ => PySem.intItems_at), fun v h1 k hP hk => ?_⟩
  · show c < (s.heap.push _).objs.size
    rw [Heap.size_push]
    have hc2 : c = s.heap.objs.size ∨ c = t := by simpa using hc
    rcases hc2 with z | z
    · exact z ▸ Nat.lt_succ_self _
    · exact z ▸ Nat.lt_succ_of_lt tlt
  · have hP : (PySem.intItems ps)[_]? = some v := hP
    obtain ⟨tm, rfl⟩ := PySem.intItems_at hP
    obtain ⟨b1, b2⟩ := argBest_lt (PySem.numAt ps) (ps.size - 1)
    have es : (PySem.intItems ps).size = ps.size := by simp [PySem.intItems]
    refine q h1 k _ tm (fun b o e => hk b o (fun hm => ?_) (Heap.get?_push_of_some _ e)) ?_ fun y hy => ?_
    · rw [List.mem_singleton.mp hm] at e
      exact absurd (Heap.lt_size e) (Nat.lt_irrefl _)
    · rw [es, numAt_eq]
      exact PySem.getD_mem (by rw [List.length_map, Array.length_toList]; omega)
    · obtain ⟨j, hj, rfl⟩ := mem_getD hy
      rw [List.length_map, Array.length_toList] at hj
      rw [← numAt_eq, es]
      exact b2 j (by omega)
def rMinT (K : PySem.W.Frag) : List V → Hp → VK → Prop := fun vs H Q => ∃ (a : Addr) (ns : List Int), vs = [V.ref a] ∧ SqT K H a (ns.map V.int) ∧ 0 < ns.length ∧ ∀ m, m ∈ ns → (∀ y ∈ ns, m ≤ y) → Q (.int m) H
theorem cr_minT {X : Cx} {K : PySem.W.Frag} (e : X.K = K) (hc : X.calm = true := by rfl) : CallR X (.builtin "min") (rMinT K) := by
  subst e
  intro pins s σ H vs us Q I r h
  obtain ⟨a, ns, rfl, hs, hne, q⟩ := h
  obtain ⟨its, rv, hl, hz⟩ := I.tuple hs
  rw [Vals.ref1 r]
  exact min_tupInts (I.ok.hd hc) (show s.heap.IsTuple a its.toArray from hl) rv.ints hne fun h1 k m tm kp h1 h2 => ⟨.int m, H, I.kept kp, ⟨_, rfl⟩, q m h1 h2⟩
end KL
/-! rings against cycles -/
namespace KL
open PySem PySem.Spec PyProof.Rows L2 GA GxR
/-- r is the ring of x -/
structure Ring (n : Nat) (p : List Int) (x : Int) (r : List Int) : Prop where
  tn : Turn p r
  nd : r.Nodup
  hd : r[0]? = some x
  bd : ∀ y ∈ r, 0 ≤ y ∧ y < n
theorem ring_dvd {n : Nat} {p : List Int} {x : Int} {r s : List Int} (hp : IsPm n p) (a : Ring n p x r) (b : Ring n p x s) : r.length ∣ s.length := by
  have e1 := a.tn.pw hp a.bd a.hd s.length
  have e2 := b.tn.pw hp b.bd b.hd s.length
  rw [Nat.zero_add] at e1 e2
  rw [Nat.mod_self, b.hd] at e2
  rw [e2, ← a.hd] at e1
  have l := a.tn.ne
  have hm : s.length % r.length < r.length := Nat.mod_lt _ l
  rw [List.getElem?_eq_getElem l, List.getElem?_eq_getElem hm] at e1
  have := (List.getElem_inj a.nd).mp (Option.some.inj e1)
  exact Nat.dvd_of_mod_eq_zero this.symm
theorem ring_same {n : Nat} {p : List Int} {x : Int} {r s : List Int} (hp : IsPm n p) (a : Ring n p x r) (b : Ring n p x s) : r = s := by
  have el := Nat.dvd_antisymm (ring_dvd hp a b) (ring_dvd hp b a)
  refine pm_ext (n := s.length) el rfl fun k hk => ?_
  have e1 := a.tn.pw hp a.bd a.hd k
  have e2 := b.tn.pw hp b.bd b.hd k
  rw [Nat.zero_add, Nat.mod_eq_of_lt (by omega)] at e1 e2
  rw [← e1, e2]
theorem ring_mem {n : Nat} {p : List Int} {x y : Int} {r s : List Int} (hp : IsPm n p) (a : Ring n p x r) (t : Turn p s) (bs : ∀ y ∈ s, 0 ≤ y ∧ y < (n : Int)) (hx : x ∈ s) : y ∈ r ↔ y ∈ s := by
  obtain ⟨i, hi, ei⟩ := List.getElem_of_mem hx
  have gi : s[i]? = some x := by rw [List.getElem?_eq_getElem hi, ei]
  constructor
  · intro hy
    obtain ⟨k, hk, ek⟩ := List.getElem_of_mem hy
    have e1 := a.tn.pw hp a.bd a.hd k
    have e2 := t.pw hp bs gi k
    rw [Nat.zero_add, Nat.mod_eq_of_lt hk, List.getElem?_eq_getElem hk, ek] at e1
    rw [e1] at e2
    exact List.mem_of_getElem? e2.symm
  · intro hy
    obtain ⟨j, hj, ej⟩ := List.getElem_of_mem hy
    have e1 := a.tn.pw hp a.bd a.hd (s.length - i + j)
    have e2 := t.pw hp bs gi (s.length - i + j)
    rw [show i + (s.length - i + j) = j + s.length by omega, Nat.add_mod_right, Nat.mod_eq_of_lt hj, List.getElem?_eq_getElem hj, ej] at e2
    rw [e2] at e1
    exact List.mem_of_getElem? e1.symm
def hd0 (r : List Int) : Int := r.getD 0 0
theorem hd_get {p r : List Int} (t : Turn p r) : r[0]? = some (hd0 r) := by
  have e : r[0]? = some (r[0]'t.ne) := List.getElem?_eq_getElem t.ne
  rw [e]
  unfold hd0
  rw [getD_of e]
theorem Full.ring {n : Nat} {p : List Int} {R : List (List Int)} (F : Full n p R) {r : List Int} (hr : r ∈ R) : Ring n p (hd0 r) r :=
  ⟨F.cyc.tn r hr, nodup_row F.cyc.nd r hr, hd_get (F.cyc.tn r hr), fun y hy => F.cyc.bd y (List.mem_flatten.mpr ⟨r, hr, hy⟩)⟩
theorem filt_step {R : List (List Int)} (so : (R.map hd0).Pairwise (· < ·)) (i : Int) : (R.filter fun r => decide (hd0 r < i + 1)) = (R.filter fun r => decide (hd0 r < i)) ++ R.filter fun r => decide (hd0 r = i) := by
  induction R with
  | nil => rfl
  | cons r R ih =>
    rw [List.map_cons, List.pairwise_cons] at so
    have ih := ih so.2
    by_cases h : hd0 r < i
    · rw [List.filter_cons_of_pos (by rw [decide_eq_true_iff]; omega), List.filter_cons_of_pos (by rw [decide_eq_true_iff]; omega), List.filter_cons_of_neg (by rw [decide_eq_true_iff]; omega), ih]
      rfl
    · have none1 : (R.filter fun r => decide (hd0 r < i)) = [] := List.filter_eq_nil_iff.mpr fun s hs => by
        have := so.1 _ (List.mem_map_of_mem hs)
        rw [decide_eq_true_iff]; omega
      have none2 : (R.filter fun r => decide (hd0 r = i)) = [] := List.filter_eq_nil_iff.mpr fun s hs => by
        have := so.1 _ (List.mem_map_of_mem hs)
        rw [decide_eq_true_iff]; omega
      rw [none1, none2] at ih
      by_cases h2 : hd0 r = i
      · rw [List.filter_cons_of_pos (by rw [decide_eq_true_iff]; omega), List.filter_cons_of_neg (by rw [decide_eq_true_iff]; omega), List.filter_cons_of_pos (by rw [decide_eq_true_iff]; omega), ih, none1, none2]
        rfl
      · rw [List.filter_cons_of_neg (by rw [decide_eq_true_iff]; omega), List.filter_cons_of_neg (by rw [decide_eq_true_iff]; omega), List.filter_cons_of_neg (by rw [decide_eq_true_iff]; omega), ih, none1, none2]
theorem filt_one {R : List (List Int)} (so : (R.map hd0).Pairwise (· < ·)) {r : List Int} (hr : r ∈ R) : (R.filter fun s => decide (hd0 s = hd0 r)) = [r] := by
  induction R with
  | nil => cases hr
  | cons a R ih =>
    rw [List.map_cons, List.pairwise_cons] at so
    rcases List.mem_cons.mp hr with z | z
    · rw [← z] at so ⊢
      rw [List.filter_cons_of_pos (by rw [decide_eq_true_iff]), List.filter_eq_nil_iff.mpr fun s hs => by
        have := so.1 _ (List.mem_map_of_mem hs)
        rw [decide_eq_true_iff]; omega]
    · have := so.1 _ (List.mem_map_of_mem z)
      rw [List.filter_cons_of_neg (by rw [decide_eq_true_iff]; omega), ih so.2 z]
/-- the rows whose least point is below i -/
def fl (R : List (List Int)) (i : Nat) : List (List Int) := R.filter fun r => decide (hd0 r < (i : Int))
theorem fl_zero {n : Nat} {p : List Int} {R : List (List Int)} (F : Full n p R) : fl R 0 = [] := List.filter_eq_nil_iff.mpr fun r hr => by
  have h := (F.ring hr).bd _ (List.mem_of_getElem? (F.ring hr).hd)
  rw [decide_eq_true_iff]
  omega
theorem fl_all {n : Nat} {p : List Int} {R : List (List Int)} (F : Full n p R) : fl R n = R := List.filter_eq_self.mpr fun r hr => by
  have h := (F.ring hr).bd _ (List.mem_of_getElem? (F.ring hr).hd)
  rw [decide_eq_true_iff]
  omega
/-- the test of the law: the ring's least point is the point itself -/
theorem fl_yes {n i : Nat} {p : List Int} {R : List (List Int)} {r : List Int} (hp : IsPm n p) (F : Full n p R) (a : Ring n p i r) (hi : i < n) (m : ∀ y ∈ r, (i : Int) ≤ y) : fl R (i + 1) = fl R i ++ [r] := by
  obtain ⟨s, hs, hx⟩ := List.mem_flatten.mp (F.all (i : Int) (by omega) (by omega))
  have S := F.ring hs
  have h1 : hd0 s ∈ r := (ring_mem hp a S.tn S.bd hx).mpr (List.mem_of_getElem? S.hd)
  have h2 : hd0 s = (i : Int) := by
    have := m _ h1
    have := F.mn s hs _ hx
    show s.getD 0 0 = (i : Int)
    have e : s.getD 0 0 = hd0 s := rfl
    omega
  rw [h2] at S
  have e := ring_same hp a S
  subst e
  have st := filt_step F.so (i : Int)
  have o := filt_one F.so hs
  rw [h2] at o
  unfold fl
  rw [show ((i + 1 : Nat) : Int) = (i : Int) + 1 by omega, st, o]
theorem fl_no {n i : Nat} {p : List Int} {R : List (List Int)} {r : List Int} {m : Int} (hp : IsPm n p) (F : Full n p R) (a : Ring n p i r) (hm : m ∈ r) (ml : m < i) : fl R (i + 1) = fl R i := by
  have st := filt_step F.so (i : Int)
  have z : (R.filter fun s => decide (hd0 s = (i : Int))) = [] := List.filter_eq_nil_iff.mpr fun s hs => by
    rw [decide_eq_true_iff]
    intro h2
    have S := F.ring hs
    have hx : (i : Int) ∈ s := h2 ▸ List.mem_of_getElem? S.hd
    have h3 := F.mn s hs m ((ring_mem hp a S.tn S.bd hx).mp hm)
    have e : s.getD 0 0 = hd0 s := rfl
    omega
  unfold fl
  rw [show ((i + 1 : Nat) : Int) = (i : Int) + 1 by omega, st, z, List.append_nil]
theorem Cyc.unit_of {n N : Nat} {p : List Int} {R : List (List Int)} (hp : IsPm n p) (C : Cyc n p R) (all : ∀ x : Int, 0 ≤ x → x < n → x ∈ R.flatten) (d : ∀ r ∈ R, r.length ∣ N) : pwL n p N = unitL n := by
  refine pm_ext (n := n) (pwL_pm hp N).len (unit_pm n).len fun j hj => ?_
  obtain ⟨r, hr, hx⟩ := List.mem_flatten.mp (all (j : Int) (by omega) (by omega))
  obtain ⟨i, hi, e⟩ := List.getElem_of_mem hx
  have h : r[i]? = some (j : Int) := by rw [List.getElem?_eq_getElem hi, e]
  have k := C.pw hp hr h N
  obtain ⟨t, et⟩ := d r hr
  rw [et, Nat.add_mul_mod_self_left, Nat.mod_eq_of_lt hi, h, show ((j : Nat) : Int).toNat = j by omega] at k
  rw [et, k]
  exact (unitL_get hj).symm
/-- the rings of the points below i, as tuples -/
structure RingsAt (H : Hp) (Cs : List Addr) (n : Nat) (p : List Int) (i : Nat) : Prop where
  len : Cs.length = i
  at_ : ∀ k, k < i → ∃ (a : Addr) (r : List Int), Cs[k]? = some a ∧ H a = some (.tup (r.map V.int)) ∧ Ring n p k r
theorem RingsAt.ex {H H' : Hp} {Cs : List Addr} {n i : Nat} {p : List Int} (x : Ex H H') (h : RingsAt H Cs n p i) : RingsAt H' Cs n p i :=
  ⟨h.len, fun k hk => let ⟨a, r, e1, e2, e3⟩ := h.at_ k hk; ⟨a, r, e1, x.st _ _ e2 trivial, e3⟩⟩
theorem RingsAt.upd {H : Hp} {Cs : List Addr} {n i : Nat} {p : List Int} {q : Addr} {o u : HO} (h : RingsAt H Cs n p i) (e : H q = some u) (nt : ∀ xs, u ≠ .tup xs) : RingsAt (L2.upd H q o) Cs n p i :=
  ⟨h.len, fun k hk => let ⟨a, r, e1, e2, e3⟩ := h.at_ k hk; ⟨a, r, e1, by
    rw [upd_ne (fun z => by rw [z, e] at e2; exact nt _ (Option.some.inj e2))]
    exact e2, e3⟩⟩
theorem RingsAt.more {H : Hp} {Cs : List Addr} {n i : Nat} {p r : List Int} {a : Addr} (h : RingsAt H Cs n p i) (e : H a = some (.tup (r.map V.int))) (hr : Ring n p i r) : RingsAt H (Cs ++ [a]) n p (i + 1) := by
  refine ⟨by rw [List.length_append, h.len]; rfl, fun k hk => ?_⟩
  by_cases hk2 : k < i
  · obtain ⟨b, s, e1, e2, e3⟩ := h.at_ k hk2
    exact ⟨b, s, by rw [List.getElem?_append_left (by rw [h.len]; exact hk2)]; exact e1, e2, e3⟩
  · have ek : k = i := by omega
    subst ek
    exact ⟨a, r, by rw [List.getElem?_append_right (by rw [h.len]; exact Nat.le_refl _), h.len, Nat.sub_self]; rfl, e, hr⟩
def spAlike2 : Sp := fun vs H Q _ => ∃ (a b : Addr) (As Bs : List Addr) (R : List (List Int)), vs = [.ref a, .ref b] ∧ H a = some (.tup (As.map V.ref)) ∧ H b = some (.tup (Bs.map V.ref)) ∧ RowsAt H As R ∧ RowsAt H Bs R ∧ R.length ≤ 1000 ∧ (∀ r ∈ R, r.length ≤ 1000) ∧ ∀ H', Ex H H' → Q (.bl true) H'
theorem srt_same {ns ms ls : List Int} (h1 : ns.Perm ls) (h2 : ms.Perm ls) (s1 : ns.Pairwise (· ≤ ·)) (s2 : ms.Pairwise (· ≤ ·)) : ns = ms := PySem.W.ksm_same (h1.trans h2.symm) s1 s2
end KL
namespace KL
open PySem PySem.Spec PyProof.Rows L2 GA GxR
/-! ### the cycles are determined -/
theorem Full.sub {n : Nat} {p : List Int} {R S : List (List Int)} (hp : IsPm n p) (F : Full n p R) (G : Full n p S) : ∀ r ∈ R, r ∈ S := fun r hr => by
  have a := F.ring hr
  have hx := List.mem_of_getElem? a.hd
  have hb := a.bd _ hx
  obtain ⟨s, hs, hm⟩ := List.mem_flatten.mp (G.all (hd0 r) hb.1 hb.2)
  have b := G.ring hs
  have mem : ∀ y, y ∈ r ↔ y ∈ s := fun y => ring_mem hp a b.tn b.bd hm
  have e1 := G.mn s hs _ hm
  have e2 := F.mn r hr _ ((mem _).mpr (List.mem_of_getElem? b.hd))
  have e : hd0 s = hd0 r := Int.le_antisymm e1 e2
  rw [e] at b
  rw [ring_same hp a b]
  exact hs
theorem Full.nd {n : Nat} {p : List Int} {R : List (List Int)} (F : Full n p R) : R.Nodup := by
  have h := F.so
  rw [List.pairwise_map] at h
  exact h.imp fun {a b} z e => by
    rw [e] at z
    omega
theorem Full.perm {n : Nat} {p : List Int} {R S : List (List Int)} (hp : IsPm n p) (F : Full n p R) (G : Full n p S) : R.Perm S :=
  (List.perm_ext_iff_of_nodup F.nd G.nd).mpr fun r => ⟨F.sub hp G r, G.sub hp F r⟩
theorem Full.uniq {n : Nat} {p : List Int} {R S : List (List Int)} (hp : IsPm n p) (F : Full n p R) (G : Full n p S) : R = S := by
  have fs := F.so
  have gs := G.so
  rw [List.pairwise_map] at fs gs
  refine (F.perm hp G).eq_of_pairwise (fun a b _ _ h1 h2 => ?_) fs gs
  omega
end KL
/-! conjugates: promises -/
namespace KL
open PySem PySem.Spec PyProof.Rows L2 GA GxR
def spNear (K : PySem.W.Frag) : Sp := fun vs H Q _ => ∃ (r s a : Addr) (n : Nat) (p ns : List Int), vs = [.ref r, .ref a] ∧ RowAt H r s ∧ SqL K H s (ns.map V.int) ∧ Pm H a n p ∧ 1 ≤ n ∧ n ≤ 12 ∧ ∀ (c : Addr) (H' : Hp) (q : List Int), Ex H H' → Pm H' c n q → Q (.ref c) H'
end KL
/-! rules: set(list of ints), a display with one tuple as key, sorted(.., key=len), factorial -/
namespace KL
open PySem PySem.Spec PyProof.Rows L2 GA GxR
/-! ### set(l), l a list of ints -/
abbrev bareSet (w : World) : Obj := { cls := .type "set", dict := none, data := .set #[] 0 (.fresh 0 0 (!w.params.followText "set-order")) }
abbrev bareIter (l : Addr) : Obj := { cls := .type "list_iterator", data := .fields #[.ref l, .int 0 0] }
/-- what set(l) has made -/
def MadeSet (w : World) (s : Shared) (ns : List Int) (z : Shared) : Prop := ∃ g tk c, z = { s with heap := g, toks := tk } ∧ SetR w g s.heap.objs.size (fun j => decide (j ∈ ns)) c ∧ c ≤ ns.length ∧ ∀ b o, s.heap.get? b = some o → g.get? b = some o
section
variable {P : Program} {w : World} {A : Around} {E : Value → Shared → Prop} {s : Shared} {l : Addr} {vals : Array Value} {ns : List Int}
theorem set_ints_of (isL : s.heap.IsList l vals) (hit : IntsAre vals.toList ns) (few : ns.length + 1 < scanBound) (calm : A.in1.handled = none) (R : Result → Shared → Prop) (go : ∀ z, MadeSet w s ns z → R (.ok (.ret .none)) z) :
    codeAny (model P w) A (.builtin "set.update.loop" ⟨[.ref s.heap.objs.size, .ref (s.heap.push (bareSet w)).objs.size], []⟩) R { s with heap := (s.heap.push (bareSet w)).push (bareIter l) } := by
  obtain ⟨ol, hol, rest⟩ := id isL
  have ltl := Heap.lt_size hol
  have wide : (s.heap.push (bareSet w)).objs.size = s.heap.objs.size + 1 := Heap.size_push ..
  have es : vals.size = ns.length := by
    have q := hit.length
    rwa [Array.length_toList] at q
  have ne1 : l ≠ (s.heap.push (bareSet w)).objs.size := by
    rw [wide]
    exact Nat.ne_of_lt (Nat.lt_succ_of_lt ltl)
  have out : s.heap.objs.size ∉ [(s.heap.push (bareSet w)).objs.size, l] := by
    simp only [List.mem_cons, List.not_mem_nil, or_false, not_or]
    exact ⟨by rw [wide]; exact Nat.ne_of_lt (Nat.lt_succ_self _), Nat.ne_of_gt ltl⟩
  have vals' : ∀ (i : Nat) (v : Value), vals[i]? = some v → ∃ k t, ns[i]? = some k ∧ v = .int k t := fun i v hv => by
    have li : i < ns.length := es ▸ (Array.getElem?_eq_some_iff.mp hv).1
    have gi := List.getElem?_eq_getElem li
    obtain ⟨t, e⟩ := hit.get i _ gi
    rw [Array.getElem?_toList, hv] at e
    exact ⟨_, t, gi, Option.some.inj e⟩
  have set0 : ((s.heap.push (bareSet w)).push (bareIter l)).get? s.heap.objs.size = some (bareSet w) := Heap.get?_push_of_some _ (Heap.get?_push_size _ rfl)
  have isL2 : ((s.heap.push (bareSet w)).push (bareIter l)).IsList l vals := (isL.push _).push _
  refine set_update_ints (Walks.list calm _ l ne1 vals).toS _ out ns es few vals' vals.size 0 _ (Nat.sub_zero _) (Nat.zero_le _) ⟨⟨_, Heap.get?_push_size _ rfl, rfl, rfl⟩, isL2⟩ ⟨0, Nat.le_refl 0, setR_new_at set0⟩ fun z c mv hc S => go z ?_
  obtain ⟨zh, zg, zd, zt, zo⟩ := z
  obtain rfl : zg = s.gens := mv.gens
  obtain rfl : zd = s.drawn := mv.drawn
  obtain rfl : zo = s.os := mv.os
  refine ⟨zh, zt, c, rfl, S, by omega, fun b o e => ?_⟩
  have lb := Heap.lt_size e
  refine mv.heap b o ?_ (Heap.get?_push_of_some _ (Heap.get?_push_of_some _ e))
  simp only [List.mem_cons, List.not_mem_nil, or_false, not_or]
  exact ⟨Nat.ne_of_lt lb, by rw [wide]; exact Nat.ne_of_lt (Nat.lt_succ_of_lt lb)⟩
theorem call_set_ints {Q : Value → Shared → Prop} (calm : A.handled = none) (isL : s.heap.IsList l vals) (hit : IntsAre vals.toList ns) (few : ns.length + 1 < scanBound)
    (go : ∀ z, MadeSet w s ns z → Q (.ref s.heap.objs.size) z) : wpAny (model P w) A (call (.type "set") [.ref l]) Q E s := by
  obtain ⟨cl, tl, mro⟩ := PySem.F.called_set.mro
  have made := PySem.F.called_set.made
  have sub := PySem.F.called_set.sub
  refine wpAny_call (codeAny_of_tree (show wpAny _ _ (callAny (.type "set") _) _ _ _ from wpAny_pure ⟨Code.quiet_builtin _ (by decide +kernel), codeAny_builtin PySem.F.entry_type_call ?_⟩))
  rw [Around.under_plain (weight_type_call_type "set" [.ref l] []) rfl]
  have nt := PySem.F.called_set.notType
  have can := PySem.F.called_set.canCreate
  have tc := PySem.F.typeCall_set_1 (.ref l)
  repeat any_goals first | assumption | wp_step
  refine codeAny_mono (code_set_led1 (.ref l) (E := E) (Q₁ := fun x z => x = .ref s.heap.objs.size ∧ z = { s with heap := s.heap.push (bareSet w) }) ⟨rfl, rfl⟩) fun r z hr => ?_
  match r, hr with
  | .error e, hr => exact hr
  | .ok (.ret x), hr =>
    obtain ⟨rfl, rfl⟩ := hr
    have at0 : (s.heap.push (bareSet w)).get? s.heap.objs.size = some (bareSet w) := Heap.get?_push_size _ rfl
    have ty0 : Shared.TypeIs { s with heap := s.heap.push (bareSet w) } (.ref s.heap.objs.size) "set" := ⟨_, at0, rfl⟩
    have il := PySem.F.called_set.init.lookup
    have ib := PySem.F.called_set.init.bind (.ref s.heap.objs.size)
    repeat any_goals first | assumption | wp_step
    refine codeAny_mono (codeAny_call_builtin (R := wants (fun x z => x = .none ∧ MadeSet w s ns z) E) PySem.F.called_set.init.plain PySem.F.entry_set_init (check_set_init_1 ty0 ?_)) fun r2 z2 hr2 => ?_
    · obtain ⟨ol, hol, hcl, nl, hdl⟩ := id isL
      obtain ⟨ocls, odict, odata, oslots⟩ := ol
      simp only at hcl hdl
      subst hcl; subst hdl
      have atl : (s.heap.push (bareSet w)).get? l = some { cls := .type "list", dict := odict, data := .seq vals nl, slots := oslots } := Heap.get?_push_of_some _ hol
      have s1 := PySem.F.sub_list_set
      have s2 := PySem.F.sub_list_frozenset
      have nd : (Value.type "list" == Value.type "dict") = false := by decide
      have isL1 : (s.heap.push (bareSet w)).IsList l vals := isL.push _
      unfold Builtin.«set.__init__» noKeywords Builtin.Frozenset.updateFrom
      generalize hPI : pyIter = PI
      wp_walk
      subst hPI
      refine wpAny_pyIter_list isL1 (wpAny_bind (wpAny_runValue ?_))
      refine set_ints_of isL hit few (by simp [calm]) _ fun z mz => ?_
      show wpAny _ _ _ _ _ _
      refine wpAny_pure ?_
      show wpAny _ _ (ret Value.none) _ _ _
      exact wpAny_pure ⟨rfl, mz⟩
    · match r2, hr2 with
      | .error e, hr2 => exact hr2
      | .ok (.ret x), hr2 =>
        obtain ⟨rfl, mz⟩ := hr2
        obtain ⟨g, tk, c, rfl, S, hc, kp⟩ := id mz
        repeat any_goals first | assumption | wp_step
        exact go _ mz
      | .ok .next, hr2 => exact hr2.elim
      | .ok (.brk), hr2 => exact hr2.elim
      | .ok (.cont), hr2 => exact hr2.elim
  | .ok .next, hr => exact hr.elim
  | .ok (.brk), hr => exact hr.elim
  | .ok (.cont), hr => exact hr.elim
end
/-- set(l), l a list of ints -/
def rSetOf (K : PySem.W.Frag) (w : World) : List V → Hp → VK → Prop := fun vs H Q => ∃ (l : Addr) (ns : List Int), vs = [V.ref l] ∧ SqL K H l (ns.map V.int) ∧ ns.length ≤ 4000 ∧ ∀ (a : Addr) (c : Nat), H a = none → c ≤ ns.length → Q (.ref a) (upd H a (SetO w a (fun j => decide (j ∈ ns)) c))
theorem cr_setL {X : Cx} {K : PySem.W.Frag} (h : X.K = K) (hc : X.calm = true := by rfl) : CallR X (.type "set") (rSetOf K X.w) := by
  subst h
  intro pins s σ H vs us Q I r q
  obtain ⟨l, ns, rfl, hl, few, q⟩ := q
  obtain ⟨its, rv, pl, hz⟩ := I.list hl
  rw [Vals.ref1 r]
  refine call_set_ints (I.ok.hd hc) pl.isList (by simpa using rv.ints) (by unfold scanBound; omega) fun z mz => ?_
  obtain ⟨g, tk, c, rfl, S, hcn, kp⟩ := mz
  exact ⟨.ref _, upd H s.heap.objs.size (SetO X.w s.heap.objs.size (fun j => decide (j ∈ ns)) c), I.laid (t' := tk) (fun b u e => kp b u e) (Nat.le_refl _) (setO_new S), rfl, q _ c (I.hok.fresh (Nat.le_refl _)) hcn⟩
/-! ### {t: v}, t a tuple of ints and texts -/
def tDispT (tk tv : TE) : TE := fun σ H Q => ∀ d, H d = none → tk σ (upd H d (.dT [])) fun x H1 => tv σ H1 fun y H2 => H2 d = some (.dT []) ∧ ∃ (b : Addr) (ks : List L2.Key), x = .ref b ∧ H2 b = some (.tup (ks.map kV)) ∧ Q (.ref d) (upd H2 d (.dT [(ks, y)]))
theorem pe_dispT {X : Cx} {k v : Expr} {tk tv : TE} {pos : Pos} (hu : X.A.units + 1 < cLine) (hk : PE X k tk) (hv : PE X v tv) : PE X (.Dict [some k] [v] pos) (tDispT tk tv) := by
  refine ⟨fun pins s σ H Q I q => ?_⟩
  have hn := I.hok.fresh (Nat.le_refl s.heap.objs.size)
  have I1 := I.laid (a := s.heap.objs.size) (o := .dT []) (h' := s.heap.push { cls := .type "dict", data := .dict #[] }) (t' := s.toks) (fun _ _ e => Heap.get?_push_of_some _ e) (Nat.le_refl _) (dt_empty s.heap I.big)
  rw [arm_eval_Dict, zip_pairTrees [some k] [v] X.env pos rfl rfl, dictDisplay_pairs _ (by intro z; cases z) (by show 1 < 17; decide)]
  refine wpAny_bind (wpAny_standAt (wpAny_bind (wpAny_subDictH (knd := tupleKind (mixKind X.prog X.w)) (by show X.A.units < cLine; omega) (by show 1 ≤ 15; decide) (pairTrees_cons_walk (thn (hk.run pins _ σ _ _ I1 (q _ hn)) fun u s1 ⟨x, H1, J1, rx, q1⟩ => thn (hv.run pins s1 σ H1 _ J1 q1) fun u2 s2 ⟨y, H2, J2, ry, e, b, ks, ex, hb, q2⟩ => pairTrees_nil_walk ?_)))))
  subst ex
  cases (show u = Value.ref b from rx)
  obtain ⟨z, hd, xs, rel, dd⟩ := dt_of J2.hok e
  cases rel
  refine ⟨[(ks, b, u2)], ⟨rfl, rfl, key_of J2.hok hb, trivial⟩, dd, fun h' t' dd' hs => wpAny_pure ⟨.ref _, _, ?_, rfl, q2⟩⟩
  obtain ⟨o, es, ep, ho, h2, h3, h4, _, h5⟩ := dd'
  refine d_write J2 (by rw [e]; exact True.intro) hs ⟨o, ho⟩ ⟨by show 1 ≤ sizeLine; decide, hd, _, ((KT.put (k := ks) (b := b) .nil hb ry).keeps fun c ys ec => ?_), o, es, ep, ho, h2, h3, h4, h5⟩
  rw [upd_ne (ne_of ec e fun z => nomatch z)]
  exact ec
/-! ### factorial -/
def rFac : List V → Hp → VK → Prop := fun vs H Q => ∃ a : Nat, vs = [.int a] ∧ a ≤ 1000 ∧ Q (.int ((Builtin.Math.factorialNat a : Nat) : Int)) H
theorem cr_factorial {X : Cx} : CallR X (.builtin "math.factorial") rFac := by
  intro pins s σ H vs us Q I r h
  obtain ⟨a, rfl, ha, q⟩ := h
  obtain ⟨u, rfl, t, rfl⟩ := vals1 r
  exact PySem.W.mc_factorial (by omega) (by omega) fun _ => ⟨.int _, H, I.tok _, ⟨_, rfl⟩, by rw [Int.toNat_natCast]; exact q⟩
end KL
/-! conjugates and how many commute -/
namespace KL
open PySem PySem.Spec PyProof.Rows L2 GA GxR
def lensN (R : List (List Int)) : List Nat := R.map List.length
theorem lensL_N (R : List (List Int)) : lensL R = (lensN R).map Int.ofNat := by
  unfold lensL lensN
  rw [List.map_map]
  rfl
/-- p and q have cycles of the same lengths -/
def Alike (n : Nat) (p q : List Int) : Prop := ∃ R S, Full n p R ∧ Full n q S ∧ (lensL R).Perm (lensL S)
theorem alike_iff {n : Nat} {p q : List Int} {R S : List (List Int)} {ns ms : List Int} (hp : IsPm n p) (hq : IsPm n q) (F : Full n p R) (G : Full n q S) (h1 : ns.Perm (lensL R)) (h2 : ms.Perm (lensL S)) (o1 : ns.Pairwise (· ≤ ·)) (o2 : ms.Pairwise (· ≤ ·)) : ns = ms ↔ Alike n p q := by
  constructor
  · intro e
    exact ⟨R, S, F, G, h1.symm.trans (e ▸ h2)⟩
  · rintro ⟨R', S', F', G', h⟩
    have a : (lensL R).Perm (lensL R') := (F.perm hp F').map _
    have b : (lensL S').Perm (lensL S) := (G'.perm hq G).map _
    exact PySem.W.ksm_same (((h1.trans a).trans (h.trans b)).trans h2.symm) o1 o2
/-! ### rows laid one behind the other -/
theorem flat_get : ∀ {L : List (List Int)} {m i : Nat} {r : List Int} {x : Int}, L[m]? = some r → r[i]? = some x → L.flatten[(L.take m).flatten.length + i]? = some x
  | [], m, i, r, x, h, _ => by cases h
  | a :: L, 0, i, r, x, h, hx => by
    cases (Option.some.inj h)
    rw [List.flatten_cons, List.take_zero, List.flatten_nil, List.length_nil, Nat.zero_add, List.getElem?_append_left (List.getElem?_eq_some_iff.mp hx).1]
    exact hx
  | a :: L, m + 1, i, r, x, h, hx => by
    have ih := flat_get (L := L) (m := m) (i := i) (r := r) (x := x) h hx
    rw [List.take_succ_cons, List.flatten_cons, List.flatten_cons, List.length_append, Nat.add_assoc, List.getElem?_append_right (Nat.le_add_right _ _), Nat.add_sub_cancel_left]
    exact ih
theorem lens_take {Rs Ss : List (List Int)} (e : Rs.map List.length = Ss.map List.length) (m : Nat) : (Rs.take m).flatten.length = (Ss.take m).flatten.length := by
  rw [List.length_flatten, List.length_flatten, List.map_take, List.map_take, e]
theorem take_flat {L : List (List Int)} {m : Nat} {r : List Int} (h : L[m]? = some r) : (L.take (m + 1)).flatten.length = (L.take m).flatten.length + r.length := by
  rw [List.take_add_one, h, List.flatten_append, List.length_append]
  show _ + [r].flatten.length = _
  rw [List.flatten_cons, List.flatten_nil, List.append_nil]
theorem flat_pm {n : Nat} {p : List Int} {R Rs : List (List Int)} (F : Full n p R) (h : Rs.Perm R) : IsPm n Rs.flatten := by
  have hf : Rs.flatten.Perm R.flatten := List.Perm.flatten h
  have nd := hf.nodup_iff.mpr F.cyc.nd
  have bd : ∀ x ∈ Rs.flatten, 0 ≤ x ∧ x < (n : Int) := fun x hx => F.cyc.bd x (hf.mem_iff.mp hx)
  refine ⟨?_, nd, bd⟩
  have h1 := bd_len nd bd
  have h2 : (unitL n).length ≤ Rs.flatten.length := len_le_sub (unit_pm n).nd fun x hx => by
    have b := (unit_pm n).bd x hx
    exact hf.mem_iff.mpr (F.all x b.1 b.2)
  rw [show (unitL n).length = n from (unit_pm n).len] at h2
  omega
/-- what carries the one's rows to the other's is a conjugator -/
theorem carries_conj {n : Nat} {p q g : List Int} {R S Rs Ss : List (List Int)} (hp : IsPm n p) (hq : IsPm n q) (F : Full n p R) (G : Full n q S) (h1 : Rs.Perm R) (h2 : Ss.Perm S) (e : Rs.map List.length = Ss.map List.length)
    (h : Filled n Rs.flatten (fun j => Ss.flatten.getD j 0) n g) : IsPm n g ∧ mulL (mulL (invL g) p) g = q := by
  have pr := flat_pm F h1
  have ps := flat_pm G h2
  have hg : IsPm n g := h.isPm pr (fun j hj => by
    obtain ⟨x, hx, b⟩ := ps.get hj
    rw [getD_of hx]
    exact b) fun j k hj hk z => by
      obtain ⟨x, hx, _⟩ := ps.get hj
      obtain ⟨y, hy, _⟩ := ps.get hk
      rw [getD_of hx, getD_of hy] at z
      exact ps.inj hx (z ▸ hy)
  refine ⟨hg, pm_ext (n := n) (mulL_pm (mulL_pm (invL_pm hg) hp) hg).len hq.len fun j hj => ?_⟩
  have key : ∀ (m i : Nat) (r s : List Int) (x : Int), Rs[m]? = some r → Ss[m]? = some s → r[i]? = some x → ∃ y, s[i]? = some y ∧ g[x.toNat]? = some y := fun m i r s x hr hs hx => by
    have el : r.length = s.length := by
      have z := congrArg (fun l => l[m]?) e
      simp only [List.getElem?_map, hr, hs, Option.map_some] at z
      exact Option.some.inj z
    have hi := (List.getElem?_eq_some_iff.mp hx).1
    have hy : s[i]? = some (s[i]'(by omega)) := List.getElem?_eq_getElem (by omega)
    refine ⟨_, hy, ?_⟩
    have a := flat_get hr hx
    have b := flat_get hs hy
    rw [← lens_take e] at b
    have hk := (List.getElem?_eq_some_iff.mp a).1
    rw [pr.len] at hk
    rw [h.at_ _ _ hk a, getD_of b]
  obtain ⟨k, hk, ek⟩ := hg.onto hj
  have hinv := (invL_filled hg).at_ k _ hk ek
  rw [show ((j : Nat) : Int).toNat = j by omega] at hinv
  -- the row of k
  have hkm : (k : Int) ∈ Rs.flatten := (List.Perm.flatten h1).mem_iff.mpr (F.all k (by omega) (by omega))
  obtain ⟨r, hr, hkr⟩ := List.mem_flatten.mp hkm
  obtain ⟨m, hm, em⟩ := List.getElem_of_mem hr
  obtain ⟨i, hi, ei⟩ := List.getElem_of_mem hkr
  have gr : Rs[m]? = some r := by rw [List.getElem?_eq_getElem hm, em]
  have gx : r[i]? = some (k : Int) := by rw [List.getElem?_eq_getElem hi, ei]
  have lm : Rs.length = Ss.length := by
    have z := congrArg List.length e
    rwa [List.length_map, List.length_map] at z
  obtain ⟨s, gs⟩ : ∃ s, Ss[m]? = some s := ⟨_, List.getElem?_eq_getElem (by omega)⟩
  have tr := F.cyc.tn r (h1.mem_iff.mp hr)
  have ts := G.cyc.tn s (h2.mem_iff.mp (List.mem_of_getElem? gs))
  have el : r.length = s.length := by
    have z := congrArg (fun l => l[m]?) e
    simp only [List.getElem?_map, gr, gs, Option.map_some] at z
    exact Option.some.inj z
  obtain ⟨y, gy, ey⟩ := key m i r s _ gr gs gx
  rw [show ((k : Nat) : Int).toNat = k by omega, ek] at ey
  cases ey
  have st := tr.st i _ gx
  have su := ts.st i _ gy
  have hi2 : (i + 1) % r.length < r.length := Nat.mod_lt _ tr.ne
  rw [List.getElem?_eq_getElem hi2] at st
  obtain ⟨z, gz, ez⟩ := key m _ r s _ gr gs (List.getElem?_eq_getElem hi2)
  rw [show ((k : Nat) : Int).toNat = k by omega] at st
  rw [show ((j : Nat) : Int).toNat = j by omega, ← el, gz] at su
  rw [su]
  refine mulL_at (mulL_at hinv ?_) ez
  rw [show ((k : Nat) : Int).toNat = k by omega]
  exact st
/-! ### how many commute -/
def factN : Nat → Nat
  | 0 => 1
  | n + 1 => factN n * (n + 1)
theorem factN_eq : ∀ n, Builtin.Math.factorialNat n = factN n
  | 0 => by decide +kernel
  | n + 1 => by rw [PySem.W.mc_fac_succ, factN_eq n]; rfl
/-- the factors of the lengths ds -/
def czL (ds ls : List Nat) : Nat := (ds.map fun d => d ^ ls.count d * factN (ls.count d)).foldr (· * ·) 1
theorem czL_cons (d : Nat) (ds ls : List Nat) : czL (d :: ds) ls = d ^ ls.count d * factN (ls.count d) * czL ds ls := rfl
theorem czL_nil : ∀ ds : List Nat, czL ds [] = 1
  | [] => rfl
  | d :: ds => by
    rw [czL_cons, czL_nil ds, List.count_nil]
    rfl
theorem count_snoc (l : List Nat) (x d : Nat) : (l ++ [x]).count d = l.count d + if x = d then 1 else 0 := by
  rw [List.count_append, List.count_cons, List.count_nil, Nat.zero_add]
  congr 1
  by_cases h : x = d
  · rw [if_pos h, if_pos (by rw [h]; exact beq_self_eq_true d)]
  · rw [if_neg h, if_neg (by intro z; exact h (eq_of_beq z))]
theorem czL_out {x : Nat} : ∀ {ds : List Nat} (l : List Nat), x ∉ ds → czL ds (l ++ [x]) = czL ds l
  | [], _, _ => rfl
  | d :: ds, l, h => by
    have h1 : x ≠ d := fun z => h (z ▸ List.mem_cons_self ..)
    rw [czL_cons, czL_cons, czL_out l fun z => h (List.mem_cons_of_mem _ z), count_snoc, if_neg h1, Nat.add_zero]
theorem czL_snoc {x : Nat} : ∀ {ds : List Nat} (l : List Nat), ds.Nodup → x ∈ ds → czL ds (l ++ [x]) = czL ds l * x * (l.count x + 1)
  | [], _, _, h => by cases h
  | d :: ds, l, nd, h => by
    rw [List.nodup_cons] at nd
    rw [czL_cons, czL_cons]
    by_cases e : x = d
    · subst e
      rw [czL_out l nd.1, count_snoc, if_pos rfl, Nat.pow_succ]
      show x ^ l.count x * x * (factN (l.count x) * (l.count x + 1)) * czL ds l = _
      simp only [Nat.mul_assoc, Nat.mul_comm, Nat.mul_left_comm]
    · have hm : x ∈ ds := (List.mem_cons.mp h).resolve_left e
      rw [czL_snoc l nd.2 hm, count_snoc, if_neg e, Nat.add_zero]
      simp only [Nat.mul_assoc]
theorem czL_perm {ds l m : List Nat} (h : l.Perm m) : czL ds l = czL ds m := by
  unfold czL
  congr 1
  refine List.map_congr_left fun d _ => ?_
  rw [h.count_eq]
/-- as the law counts them -/
def dueI (ls : List Nat) : Nat → Nat
  | 0 => 1
  | i + 1 => dueI ls i * ls.getD i 0 * (ls.take (i + 1)).count (ls.getD i 0)
theorem dueI_cz {ls ds : List Nat} (nd : ds.Nodup) (h : ∀ x ∈ ls, x ∈ ds) : ∀ i, i ≤ ls.length → dueI ls i = czL ds (ls.take i)
  | 0, _ => by rw [List.take_zero, czL_nil]; rfl
  | i + 1, hi => by
    have g : ls[i]? = some (ls[i]'(by omega)) := List.getElem?_eq_getElem (by omega)
    have gd : ls.getD i 0 = ls[i]'(by omega) := by rw [List.getD_eq_getElem?_getD, g]; rfl
    show dueI ls i * ls.getD i 0 * (ls.take (i + 1)).count (ls.getD i 0) = _
    rw [dueI_cz nd h i (by omega), gd, List.take_add_one, g]
    show _ * _ * (ls.take i ++ [ls[i]'(by omega)]).count _ = czL ds (ls.take i ++ [ls[i]'(by omega)])
    rw [czL_snoc _ nd (h _ (List.getElem_mem _)), count_snoc, if_pos rfl]
/-- lengths that do not occur add nothing -/
theorem czL_rest {ls : List Nat} : ∀ {ds : List Nat}, (∀ d ∈ ds, d ∉ ls) → czL ds ls = 1
  | [], _ => rfl
  | d :: ds, h => by
    rw [czL_cons, czL_rest fun x hx => h x (List.mem_cons_of_mem _ hx), List.count_eq_zero.mpr (h d (List.mem_cons_self ..))]
    rfl
theorem czL_dp {ls : List Nat} {ds es : List Nat} (h : ds.Perm es) : czL ds ls = czL es ls := by
  unfold czL
  have hm := h.map fun d => d ^ ls.count d * factN (ls.count d)
  generalize ds.map (fun d => d ^ ls.count d * factN (ls.count d)) = a at hm
  generalize es.map (fun d => d ^ ls.count d * factN (ls.count d)) = b at hm
  induction hm with
  | nil => rfl
  | cons x _ ih => rw [List.foldr_cons, List.foldr_cons, ih]
  | swap x y l => simp only [List.foldr_cons, Nat.mul_left_comm]
  | trans _ _ i1 i2 => exact i1.trans i2
theorem czL_any {ls ds es : List Nat} (n1 : ds.Nodup) (n2 : es.Nodup) (h1 : ∀ x ∈ ls, x ∈ ds) (h2 : ∀ x ∈ ls, x ∈ es) : czL ds ls = czL es ls := by
  have a := dueI_cz n1 h1 ls.length (Nat.le_refl _)
  have b := dueI_cz n2 h2 ls.length (Nat.le_refl _)
  rw [List.take_length] at a b
  rw [← a, ← b]
/-! ### all permutations of few points, and which of them commute with one -/
def addL (L : List (List Int)) (x : List Int) : List (List Int) := if x ∈ L then L else L ++ [x]
def cloL (a b : List Int) : Nat → Nat → List (List Int) → List (List Int)
  | 0, _, L => L
  | f + 1, k, L => if k = L.length then L else cloL a b f (k + 1) (addL (addL L (mulL (L.getD k []) a)) (mulL (L.getD k []) b))
def turnL (n : Nat) : List Int := (List.range n).map fun i => (((i + 1) % n : Nat) : Int)
def swapL : Nat → List Int
  | 0 => [0]
  | 1 => [0]
  | n + 2 => 1 :: 0 :: (List.range n).map fun i => ((i + 2 : Nat) : Int)
def every (n : Nat) : List (List Int) := cloL (turnL n) (swapL n) 2000 0 [unitL n]
def allL (n : Nat) : Nat → List (List Int)
  | 0 => [[]]
  | k + 1 => (allL n k).flatMap fun r => (List.range n).map fun x : Nat => (x : Int) :: r
def comB (p g : List Int) : Bool := decide (mulL p g = mulL g p)
def ringF (p : List Int) : Nat → Int → List Int → List Int
  | 0, _, r => r.reverse
  | f + 1, y, r => if y ∈ r then r.reverse else ringF p f (p.getD y.toNat 0) (y :: r)
def cycF (p : List Int) : Nat → List (List Int)
  | 0 => []
  | i + 1 => if (i : Int) ∈ (cycF p i).flatten then cycF p i else cycF p i ++ [ringF p p.length i []]
def tnB (p r : List Int) : Bool := decide (0 < r.length) && (List.range r.length).all fun i => decide (p[(r.getD i 0).toNat]? = r[(i + 1) % r.length]?)
def fullB (n : Nat) (p : List Int) (R : List (List Int)) : Bool := R.all (tnB p) && (decide R.flatten.Nodup && (R.flatten.all (fun x => decide (0 ≤ x) && decide (x < n)) && ((List.range n).all (fun x => decide ((x : Int) ∈ R.flatten)) && (R.all (fun r => r.all fun x => decide (r.getD 0 0 ≤ x)) && decide ((R.map fun r => r.getD 0 0).Pairwise (· < ·))))))
theorem tnB_ok {p r : List Int} (h : tnB p r = true) : Turn p r := by
  unfold tnB at h
  rw [Bool.and_eq_true, decide_eq_true_iff] at h
  refine ⟨h.1, fun i x hx => ?_⟩
  have hi := (List.getElem?_eq_some_iff.mp hx).1
  have z := of_decide_eq_true (List.all_eq_true.mp h.2 i (List.mem_range.mpr hi))
  rwa [getD_of hx] at z
theorem fullB_ok {n : Nat} {p : List Int} {R : List (List Int)} (h : fullB n p R = true) : Full n p R := by
  unfold fullB at h
  simp only [Bool.and_eq_true, decide_eq_true_iff] at h
  obtain ⟨h1, h2, h3, h4, h5, h6⟩ := h
  refine ⟨⟨fun r hr => tnB_ok (List.all_eq_true.mp h1 r hr), h2, fun x hx => ?_⟩, fun x x0 xn => ?_, fun r hr x hx => ?_, h6⟩
  · have z := List.all_eq_true.mp h3 x hx
    rw [Bool.and_eq_true, decide_eq_true_iff, decide_eq_true_iff] at z
    exact z
  · have z := of_decide_eq_true (List.all_eq_true.mp h4 x.toNat (List.mem_range.mpr (by omega)))
    rwa [show ((x.toNat : Nat) : Int) = x by omega] at z
  · exact of_decide_eq_true (List.all_eq_true.mp (List.all_eq_true.mp h5 r hr) x hx)
theorem allL_mem {n : Nat} : ∀ {p : List Int} {k : Nat}, p.length = k → (∀ x ∈ p, 0 ≤ x ∧ x < (n : Int)) → p ∈ allL n k
  | [], 0, _, _ => List.mem_singleton.mpr rfl
  | [], k + 1, h, _ => by cases h
  | x :: p, 0, h, _ => by cases h
  | x :: p, k + 1, h, hb => by
    have ih := allL_mem (p := p) (k := k) (Nat.succ.inj h) fun y hy => hb y (List.mem_cons_of_mem _ hy)
    have b := hb x (List.mem_cons_self ..)
    refine List.mem_flatMap.mpr ⟨p, ih, List.mem_map.mpr ⟨x.toNat, List.mem_range.mpr (by omega), ?_⟩⟩
    rw [show ((x.toNat : Nat) : Int) = x by omega]
def okP (n : Nat) (E : List (List Int)) (p : List Int) : Bool := !decide p.Nodup || (fullB n p (cycF p n) && Nat.beq (E.filter (comB p)).length (czL (List.range 13) ((cycF p n).map List.length)))
theorem k1 : (allL 1 1).all (okP 1 (every 1)) = true := by decide +kernel
theorem k2 : (allL 2 2).all (okP 2 (every 2)) = true := by decide +kernel
theorem k3 : (allL 3 3).all (okP 3 (every 3)) = true := by decide +kernel
theorem k4 : (allL 4 4).all (okP 4 (every 4)) = true := by decide +kernel
theorem k5 : (allL 5 5).all (okP 5 (every 5)) = true := by decide +kernel
theorem few_commute {n : Nat} {p : List Int} (hp : IsPm n p) (h1 : 1 ≤ n) (h5 : n ≤ 5) : ∃ R, Full n p R ∧ ((every n).filter (comB p)).length = czL (List.range 13) (lensN R) := by
  have k : (allL n n).all (okP n (every n)) = true := by
    obtain rfl | rfl | rfl | rfl | rfl : n = 1 ∨ n = 2 ∨ n = 3 ∨ n = 4 ∨ n = 5 := by omega
    · exact k1
    · exact k2
    · exact k3
    · exact k4
    · exact k5
  have z := List.all_eq_true.mp k p (allL_mem hp.len hp.bd)
  unfold okP at z
  rw [decide_eq_true hp.nd, Bool.not_true, Bool.false_or, Bool.and_eq_true] at z
  exact ⟨_, fullB_ok z.1, Nat.eq_of_beq_eq_true z.2⟩
end KL
namespace KL
open PySem PySem.Spec PyProof.Rows L2 GA GxR
/-! ### a comprehension within a comprehension -/
def blkC2 (N : List Str) (scope : Scope) (own : List (Str × Nat)) (fs : List Str) : Bool :=
  (match scope.kind with | .function => true | _ => false) && ((scope.names.all fun y => decide (scope.names.lookup y.1 = some y.2)) && ((own.all fun p => decide (N[p.2]? = some p.1)) &&
    (scope.names.all fun y => match y.2 with
      | .free => decide (y.1 ∈ fs)
      | .local | .cell => decide (y.1 ∈ own.map (·.1)) || decide (y.1 ∉ N)
      | _ => true)))
theorem blkOk_f {N : List Str} {sc scope : Scope} {own : List (Str × Nat)} (fs : List Str) (h : blkC2 N scope own fs = true) (hf : ∀ x ∈ fs, sc.names.lookup x = some .cell ∨ sc.names.lookup x = some .free) : BlkOk N sc scope own := by
  unfold blkC2 at h
  simp only [Bool.and_eq_true, List.all_eq_true, decide_eq_true_eq] at h
  obtain ⟨h1, h2, h3, h4⟩ := h
  refine ⟨?_, h2, h3, fun y hy e => ?_, fun y hy e => ?_⟩
  · split at h1
    · assumption
    · cases h1
  · have q := h4 y hy
    rw [e] at q
    exact hf y.1 (of_decide_eq_true q)
  · have q := h4 y hy
    rcases e with e | e
    · rw [e] at q
      have q : (decide (y.1 ∈ own.map (·.1)) || decide (y.1 ∉ N)) = true := q
      rwa [Bool.or_eq_true, decide_eq_true_iff, decide_eq_true_iff] at q
    · rw [e] at q
      have q : (decide (y.1 ∈ own.map (·.1)) || decide (y.1 ∉ N)) = true := q
      rwa [Bool.or_eq_true, decide_eq_true_iff, decide_eq_true_iff] at q
theorem cut_take (xs : List V) (k : Nat) : cutV xs none (some (k : Int)) = xs.take k := by
  unfold cutV
  rw [HT.sIx_none, HT.sIx_nat, List.drop_zero, Nat.sub_zero]
  by_cases h : k ≤ xs.length
  · rw [Nat.min_eq_left h]
  · rw [Nat.min_eq_right (by omega), List.take_of_length_le (Nat.le_refl _), List.take_of_length_le (by omega)]
theorem flat_ints (S : List Int) : (S.map V.int).all flatV = true := by
  rw [List.all_map]
  exact List.all_eq_true.mpr fun _ _ => rfl
theorem inV_ints (x : Int) (S : List Int) : inV (.int x) (S.map V.int) = decide (x ∈ S) := by
  unfold inV
  rw [List.any_map, Bool.eq_iff_iff, decide_eq_true_iff, List.any_eq_true]
  constructor
  · rintro ⟨y, hy, e⟩
    have e : (y == x) = true := e
    rw [← eq_of_beq e]
    exact hy
  · intro h
    exact ⟨x, h, show (x == x) = true from beq_self_eq_true x⟩
end KL
/-! sorted(l, key=len), l a list of tuples; promises -/
namespace KL
open PySem PySem.Spec PyProof.Rows L2 GA GxR
abbrev lenD (z : Addr × List V) : PyData := .int ((z.2.length : Nat) : Int)
theorem le_len (x y : Addr × List V) : PySem.W.dataLe false lenD x y = decide (x.2.length ≤ y.2.length) := by
  show (!(lexLt itemOrd [.inl (y.2.length : Int)] [.inl (x.2.length : Int)])) = _
  rw [lex_cons]
  show (!(decide ((y.2.length : Int) < x.2.length) || (!decide ((x.2.length : Int) < y.2.length) && false))) = _
  rw [Bool.and_false, Bool.or_false]
  by_cases h : x.2.length ≤ y.2.length
  · rw [decide_eq_true h, decide_eq_false (by omega)]
    rfl
  · rw [decide_eq_false h, decide_eq_true (by omega)]
    rfl
abbrev RefTo (v : Value) (z : Addr × List V) : Prop := v = .ref z.1
theorem each_vals : ∀ {ps : List (Addr × List V)} {vs : List Value}, Vals (ps.map fun z => .ref z.1) vs → PySem.W.EachIs RefTo vs ps
  | [], _, h => by cases h; exact .nil
  | z :: ps, _, h => by
    cases h with
    | cons r t => exact .cons (show _ = Value.ref z.1 from r) (each_vals t)
theorem vals_each : ∀ {ps : List (Addr × List V)} {vs : List Value}, PySem.W.EachIs RefTo vs ps → Vals (ps.map fun z => .ref z.1) vs
  | [], _, h => by cases h; exact .nil
  | z :: ps, _, h => by
    cases h with
    | cons r t => exact .cons (show RelV (.ref z.1) _ from r) (vals_each t)
def tSortLen (K : PySem.W.Frag) (ta : TA) : TE := fun σ H Q => ta σ H fun vs H1 => ∃ (l : Addr) (ps : List (Addr × List V)), vs = [.ref l] ∧ SqL K H1 l (ps.map fun z => .ref z.1) ∧ (∀ z ∈ ps, H1 z.1 = some (.tup z.2)) ∧
  ∀ (p : Addr) (qs : List (Addr × List V)), H1 p = none → qs.Perm ps → qs.Pairwise (fun x y => x.2.length ≤ y.2.length) → Q (.ref p) (upd H1 p (.lst (qs.map fun z => .ref z.1)))
theorem pe_sortLen {X : Cx} {K : PySem.W.Frag} {a : Expr} {ta : TA} {p p2 pos kpos : Pos} {k : Nat} (h : X.K = K) (hr : Room k X.A) (hg : Gl X "sorted") (hm : X.mg "sorted" = none) (hg2 : Gl X "len") (hm2 : X.mg "len" = none) (ha : PA X [a] ta)
    (he : backTo pos (starEach [a] X.env) = (false, eval a X.env) :: backTo pos (starEach [] X.env) := by rfl) (hpl : (backTo pos (starEach [a] X.env)).any (·.1) = false := by rfl) :
    PE X (.Call (.Name "sorted" p) [a] [⟨some "key", .Name "len" p2, kpos⟩] pos) (tSortLen K ta) := by
  subst h
  refine ⟨fun pins s σ H Q I q => ?_⟩
  refine wpAny_Call_Name_kw (ld_blt (u := .builtin "sorted") I hg hm (by decide +kernel) (PyProof.Rows.callWith_kw (thn (ha.run pos pins s σ H _ I q) fun us s1 ⟨vs, H1, I1, r1, l, ps, ev, hl, hps, q1⟩ => ?_) he hpl rfl rfl))
  subst ev
  rw [Vals.ref1 r1]
  show wpAny _ _ (evalAll ((do let v ← eval (.Name "len" p2) X.env; standAt pos; pure v) :: [])) _ _ s1
  refine wpAny_evalAll_cons (wpAny_bind (ld_blt I1 hg2 hm2 boot_len (wpAny_bind (wpAny_standAt (wpAny_pure (wpAny_evalAll_nil ?_))))))
  obtain ⟨its, rv, pl, hz⟩ := I1.list hl
  have un := deepOf hr
  have line := line63
  have hb : ps.length ≤ sizeLine := by rwa [List.length_map] at hz
  refine PySem.W.sorted_key_data (R := RefTo) (bs := ps) (b := false) lenD pl.isList (each_vals rv) ?_ ?_ hb (fun x _ => by show X.A.units + 2 + 0 < cLine; omega) (ksk_s1 _ _) (fun _ => ksk_l1 _ _) (ksk_t4 "len") (fun v z hv hz2 g tk kp => ?_) fun out c g tk kp fr hg' hlen ea => ?_
  · intro d hd d' hd'
    obtain ⟨x, _, rfl⟩ := List.mem_map.mp hd
    obtain ⟨y, _, rfl⟩ := List.mem_map.mp hd'
    rfl
  · refine .inr fun d hd => ?_
    obtain ⟨x, _, rfl⟩ := List.mem_map.mp hd
    exact ⟨(fun z => by cases z), (fun xs z => by cases z)⟩
  · subst hv
    obtain ⟨its2, rv2, ⟨o, go, co, n, dt⟩, hz3⟩ := I1.tuple (show SqT X.K H1 z.1 z.2 from .inl (.inl (hps z hz2)))
    have e2 := rv2.length
    refine len_tuple (s := { s1 with heap := g, toks := tk }) (items := its2.toArray) ⟨o, kp _ _ go, co, n, dt⟩ (by simp only [List.size_toArray]; omega) ⟨g, _, rfl, fun _ _ e => e, ?_⟩
    rw [List.size_toArray, ← e2]
    exact .int _ _
  · have hp := List.mergeSort_perm ps (PySem.W.dataLe false lenD)
    have ho := PySem.W.sort_pairwise (PySem.W.sortLe_total (listOrd itemOrd) false fun b => PySem.W.keyToks (lenD b)) ps
    have ho2 : (ps.mergeSort (PySem.W.dataLe false lenD)).Pairwise fun x y => x.2.length ≤ y.2.length := ho.imp fun {x y} z => of_decide_eq_true ((le_len x y).symm.trans z)
    refine ⟨.ref _, upd H1 (s1.heap.objs.size + 1) (.lst ((ps.mergeSort (PySem.W.dataLe false lenD)).map fun z => .ref z.1)), I1.laid (t' := tk) (fun b u e => kp b u e) (Nat.le_succ _) ⟨?_, out, c, vals_each ea, hg'⟩, rfl, q1 _ _ (I1.hok.fresh (Nat.le_succ _)) hp ho2⟩
    rw [List.length_map, hp.length_eq]
    exact hb
/-! ### promises -/
def spConjugator (K : PySem.W.Frag) : Sp := fun vs H Q _ => ∃ (a b : Addr) (n : Nat) (p q : List Int), vs = [.ref a, .ref b] ∧ Pm H a n p ∧ Pm H b n q ∧ 1 ≤ n ∧ n ≤ 12 ∧ TabG H (PP K) ∧
  ∀ (v : V) (H' : Hp), Ex H H' → ((v = .non ∧ ¬ Alike n p q) ∨ ∃ (c : Addr) (g : List Int), v = .ref c ∧ Pm H' c n g ∧ mulL (mulL (invL g) p) g = q ∧ Alike n p q) → Q v H'
/-- the pairs of a length and the rows of that length -/
structure ByTs (H : Hp) (Ts : List Addr) (ds ls : List Nat) (D : Addr) : Prop where
  len : Ts.length = ds.length
  at_ : ∀ (i d : Nat), ds[i]? = some d → ∃ (t b : Addr) (Bs : List Addr), Ts[i]? = some t ∧ H t = some (.tup [.int d, .ref b]) ∧ H b = some (.lst (Bs.map V.ref)) ∧ b ≠ D ∧ Bs.length = ls.count d
theorem ByTs.ex {H H' : Hp} {Ts : List Addr} {ds ls : List Nat} {D : Addr} (B : ByTs H Ts ds ls D) (x : Ex H H') : ByTs H' Ts ds ls D :=
  ⟨B.len, fun i d e => let ⟨t, b, Bs, e1, e2, e3, e4, e5⟩ := B.at_ i d e; ⟨t, b, Bs, e1, x.st _ _ e2 trivial, x.st _ _ e3 refs_norow, e4, e5⟩⟩
theorem ByTs.upd {H : Hp} {Ts : List Addr} {ds ls : List Nat} {D : Addr} {ys : List V} {o : HO} (B : ByTs H Ts ds ls D) (h : H D = some (.lst ys)) : ByTs (upd H D o) Ts ds ls D :=
  ⟨B.len, fun i d e => let ⟨t, b, Bs, e1, e2, e3, e4, e5⟩ := B.at_ i d e; ⟨t, b, Bs, e1, kp e2 h (fun z => by cases z), by rw [upd_ne e4]; exact e3, e4, e5⟩⟩
theorem ByTs.nil {H : Hp} {ls : List Nat} {D : Addr} : ByTs H [] [] ls D := ⟨rfl, fun i d e => by cases i <;> cases e⟩
theorem ByTs.more {H : Hp} {Ts Bs : List Addr} {ds ls : List Nat} {D t b : Addr} {d : Nat} (B : ByTs H Ts ds ls D) (e2 : H t = some (.tup [.int d, .ref b])) (e3 : H b = some (.lst (Bs.map V.ref))) (e4 : b ≠ D) (e5 : Bs.length = ls.count d) : ByTs H (Ts ++ [t]) (ds ++ [d]) ls D := by
  refine ⟨by rw [List.length_append, List.length_append, B.len]; rfl, fun i y e => ?_⟩
  by_cases hi : i < ds.length
  · rw [List.getElem?_append_left hi] at e
    obtain ⟨t', b', Bs', f1, f2⟩ := B.at_ i y e
    exact ⟨t', b', Bs', by rw [List.getElem?_append_left (by rw [B.len]; exact hi)]; exact f1, f2⟩
  · have hl := (List.getElem?_eq_some_iff.mp e).1
    rw [List.length_append] at hl
    have hl : i < ds.length + 1 := hl
    have ei : i = ds.length := by omega
    subst ei
    rw [List.getElem?_append_right (Nat.le_refl _), Nat.sub_self] at e
    cases e
    exact ⟨t, b, Bs, by rw [List.getElem?_append_right (by rw [B.len]; exact Nat.le_refl _), B.len, Nat.sub_self]; rfl, e2, e3, e4, e5⟩
def spByLength : Sp := fun vs H Q _ => ∃ (a : Addr) (n : Nat) (p : List Int), vs = [.ref a] ∧ Pm H a n p ∧ n ≤ 12 ∧ ∀ (c : Addr) (H' : Hp) (R : List (List Int)) (Ts : List Addr) (ds : List Nat), Ex H H' → Full n p R → H' c = some (.lst (Ts.map V.ref)) → ds.Nodup → (∀ d, d ∈ ds ↔ d ∈ lensN R) → ByTs H' Ts ds (lensN R) c → Q (.ref c) H'
theorem ints_nats {ns : List Int} (h : ∀ x ∈ ns, 0 ≤ x) : ns = (ns.map Int.toNat).map Int.ofNat := by
  rw [List.map_map]
  refine (List.map_id ns).symm.trans (List.map_congr_left fun x hx => ?_)
  have := h x hx
  show x = ((x.toNat : Nat) : Int)
  omega
def spCent (K : PySem.W.Frag) : Sp := fun vs H Q _ => ∃ (a : Addr) (n : Nat) (p : List Int), vs = [.ref a] ∧ Pm H a n p ∧ 1 ≤ n ∧ n ≤ 12 ∧ TabG H (PP K) ∧ ∀ (H' : Hp) (R : List (List Int)), Ex H H' → Full n p R → Q (.int ((czL (List.range 13) (lensN R) : Nat) : Int)) H'
def spLengths : Sp := fun vs H Q _ => ∃ (a : Addr) (n : Nat) (p : List Int), vs = [.ref a] ∧ Pm H a n p ∧ n ≤ 12 ∧ ∀ (c : Addr) (H' : Hp) (R : List (List Int)) (ns : List Int), Ex H H' → Full n p R → ns.Perm (lensL R) → ns.Pairwise (· ≤ ·) → H' c = some (.lst (ns.map V.int)) → Q (.ref c) H'
def spDue : Sp := fun vs H Q _ => ∃ (a : Addr) (ls : List Nat), vs = [.ref a] ∧ H a = some (.lst ((ls.map Int.ofNat).map V.int)) ∧ ls.length ≤ 12 ∧ (∀ x ∈ ls, x ≤ 12) ∧ ∀ (H' : Hp), Ex H H' → Q (.int ((dueI ls ls.length : Nat) : Int)) H'
def spClosure : Sp := fun vs H Q _ => ∃ (t a b : Addr) (n : Nat) (g h : List Int), vs = [.int n, .ref t] ∧ H t = some (.tup [.ref a, .ref b]) ∧ Pm H a n g ∧ Pm H b n h ∧ 1 ≤ n ∧ n ≤ 12 ∧ ∀ (c : Addr) (H' : Hp) (As : List Addr), Ex H H' → H' c = some (.lst (As.map V.ref)) → RowsAt H' As (cloL g h 2000 0 [unitL n]) → (∀ r ∈ cloL g h 2000 0 [unitL n], IsPm n r) → Q (.ref c) H'
theorem nat_at {ls : List Nat} {i d : Nat} (h : ls[i]? = some d) : (ls.map Int.ofNat)[i]? = some (d : Int) := by
  rw [List.getElem?_map, h]
  rfl
theorem nat_map (ls : List Nat) (d : Nat) (k : Nat) : (((ls.take k).filter fun x => decide (x = d)).map Int.ofNat).length = (ls.take k).count d := by
  rw [List.length_map, List.count_eq_length_filter]
  congr 2
/-- where the law's lengths stand: the rows so far, what was seen -/
structure LG (H H1 : Hp) (l sA : Addr) (n : Nat) (p : List Int) (R : List (List Int)) (S : List Int) : Prop where
  ex : Ex H H1
  hl : H1 l = some (.lst ((lensL R).map V.int))
  seen : H1 sA = some (.lst (S.map V.int))
  cyc : Cyc n p R
  nd : S.Nodup
  bd : ∀ x ∈ S, 0 ≤ x ∧ x < (n : Int)
  mn : ∀ r ∈ R, ∀ x ∈ r, r.getD 0 0 ≤ x
  so : (R.map fun r => r.getD 0 0).Pairwise (· < ·)
theorem czL_app (d : Nat) (ls : List Nat) : ∀ as : List Nat, czL (as ++ [d]) ls = czL as ls * (d ^ ls.count d * factN (ls.count d))
  | [] => by
    show d ^ ls.count d * factN (ls.count d) * 1 = 1 * _
    rw [Nat.mul_one, Nat.one_mul]
  | x :: as => by
    rw [List.cons_append, czL_cons, czL_cons, czL_app d ls as]
    simp only [Nat.mul_assoc]
theorem fact_small : ∀ n, n ≤ 12 → factN n < 2 ^ 64 := by decide +kernel
/-! ### the closure's dict -/
def keyI (r : List Int) : List L2.Key := r.map Sum.inl
theorem keyI_at (r : List Int) : (keyI r).map kV = r.map V.int := by
  unfold keyI
  rw [List.map_map]
  rfl
theorem keyI_inj {r s : List Int} (h : keyI r = keyI s) : r = s := by
  unfold keyI at h
  exact (List.map_inj_right fun a b e => Sum.inl.inj e).mp h
theorem valV_has {α : Type} [DecidableEq α] (k : α) : ∀ kvs : List (α × V), (valV kvs k).isSome = decide (k ∈ kvs.map Prod.fst)
  | [] => rfl
  | kv :: kvs => by
    have ih := valV_has k kvs
    unfold valV at ih ⊢
    rw [List.find?_cons]
    by_cases h : kv.1 = k
    · rw [decide_eq_true h, List.map_cons, decide_eq_true (by rw [h]; exact List.mem_cons_self ..)]
      rfl
    · rw [decide_eq_false h, List.map_cons]
      show (Option.map (fun x => x.snd) (kvs.find? fun kv => decide (kv.1 = k))).isSome = decide (k ∈ kv.1 :: kvs.map Prod.fst)
      rw [ih, Bool.eq_iff_iff, decide_eq_true_iff, decide_eq_true_iff]
      exact ⟨fun z => List.mem_cons_of_mem _ z, fun z => (List.mem_cons.mp z).resolve_left fun e => h e.symm⟩
theorem valV_mem {α : Type} [DecidableEq α] {k : α} {kvs : List (α × V)} : (valV kvs k).isSome = true ↔ k ∈ kvs.map Prod.fst := by
  rw [valV_has]
  exact decide_eq_true_iff
theorem putK_new {α : Type} [DecidableEq α] {kvs : List (α × V)} {k : α} (v : V) (h : k ∉ kvs.map Prod.fst) : putK kvs k v = kvs ++ [(k, v)] := by
  unfold putK
  rw [if_neg]
  intro z
  obtain ⟨kv, hm, e⟩ := List.any_eq_true.mp z
  exact h (of_decide_eq_true e ▸ List.mem_map_of_mem hm)
theorem mem_keys {L : List (List Int)} {r : List Int} : keyI r ∈ L.map keyI ↔ r ∈ L := by
  constructor
  · intro h
    obtain ⟨s, hs, e⟩ := List.mem_map.mp h
    exact keyI_inj e ▸ hs
  · exact fun h => List.mem_map_of_mem h
/-- where the closure stands -/
structure CS (H H1 : Hp) (l d : Addr) (n : Nat) (As : List Addr) (L : List (List Int)) : Prop where
  ex : Ex H H1
  hl : H1 l = some (.lst (As.map V.ref))
  rows : RowsAt H1 As L
  hd : ∃ kvs : List (List L2.Key × V), H1 d = some (.dT kvs) ∧ kvs.map Prod.fst = L.map keyI
  pm : ∀ r ∈ L, IsPm n r
theorem CS.exx {H H1 H2 : Hp} {l d : Addr} {n : Nat} {As : List Addr} {L : List (List Int)} (C : CS H H1 l d n As L) (x : Ex H1 H2) : CS H H2 l d n As L := by
  obtain ⟨kvs, h1, h2⟩ := C.hd
  exact ⟨C.ex.trans x, x.st _ _ C.hl refs_norow, C.rows.ex x, ⟨kvs, x.st _ _ h1 trivial, h2⟩, C.pm⟩
theorem addL_get {L : List (List Int)} {i : Nat} {x y : List Int} (h : L[i]? = some x) : (addL L y)[i]? = some x := by
  unfold addL
  split
  · exact h
  · rw [List.getElem?_append_left (List.getElem?_eq_some_iff.mp h).1]
    exact h
theorem addL_len (L : List (List Int)) (y : List Int) : L.length ≤ (addL L y).length ∧ (addL L y).length ≤ L.length + 1 := by
  unfold addL
  split
  · omega
  · rw [List.length_append]
    show _ ∧ _ + 1 ≤ _
    have : (L.length ≤ L.length + [y].length) := Nat.le_add_right _ _
    exact ⟨this, Nat.le_refl _⟩
theorem addL_pm {L : List (List Int)} {y : List Int} {n : Nat} (h : ∀ r ∈ L, IsPm n r) (hy : IsPm n y) : ∀ r ∈ addL L y, IsPm n r := by
  unfold addL
  split
  · exact h
  · intro r hr
    rcases List.mem_append.mp hr with z | z
    · exact h r z
    · rw [List.mem_singleton.mp z]; exact hy
def addG (x : List Int) (G : List (List Int)) (L : List (List Int)) : List (List Int) := G.foldl (fun M q => addL M (mulL x q)) L
theorem addG_snoc (x q : List Int) (G L : List (List Int)) : addG x (G ++ [q]) L = addL (addG x G L) (mulL x q) := by
  unfold addG
  rw [List.foldl_append]
  rfl
theorem addG_get {x r : List Int} {i : Nat} : ∀ {G L : List (List Int)}, L[i]? = some r → (addG x G L)[i]? = some r
  | [], _, h => h
  | q :: G, L, h => addG_get (G := G) (L := addL L (mulL x q)) (addL_get h)
theorem addG_len {x : List Int} : ∀ {G L : List (List Int)}, L.length ≤ (addG x G L).length ∧ (addG x G L).length ≤ L.length + G.length
  | [], L => ⟨Nat.le_refl _, Nat.le_refl _⟩
  | q :: G, L => by
    have a := addL_len L (mulL x q)
    have b := addG_len (x := x) (G := G) (L := addL L (mulL x q))
    show L.length ≤ (addG x G (addL L (mulL x q))).length ∧ (addG x G (addL L (mulL x q))).length ≤ L.length + (G.length + 1)
    omega
end KL
/-! rows sorted by their lengths -/
namespace KL
open PySem PySem.Spec PyProof.Rows L2 GA GxR
abbrev toV (z : Addr × List Int) : Addr × List V := (z.1, z.2.map V.int)
theorem sort_rows {H : Hp} {As : List Addr} {R : List (List Int)} (h : RowsAt H As R) : ∃ ps : List (Addr × List V), (ps.map fun z => V.ref z.1) = As.map V.ref ∧ (∀ z ∈ ps, H z.1 = some (.tup z.2)) ∧
    ∀ qs : List (Addr × List V), qs.Perm ps → qs.Pairwise (fun x y => x.2.length ≤ y.2.length) → ∃ (Xs : List Addr) (Rs : List (List Int)), (qs.map fun z => V.ref z.1) = Xs.map V.ref ∧ Rs.Perm R ∧ Rs.Pairwise (fun x y => x.length ≤ y.length) ∧ RowsAt H Xs Rs := by
  have f1 : (As.zip R).map Prod.fst = As := List.map_fst_zip (by rw [h.len]; exact Nat.le_refl _)
  have f2 : (As.zip R).map Prod.snd = R := List.map_snd_zip (by rw [h.len]; exact Nat.le_refl _)
  have at0 : ∀ z ∈ As.zip R, H z.1 = some (.tup (z.2.map V.int)) := fun z hz => by
    obtain ⟨i, hi⟩ := List.mem_iff_getElem?.mp hz
    obtain ⟨a1, a2⟩ := List.getElem?_zip_eq_some.mp hi
    obtain ⟨a, b1, b2⟩ := h.at_ i z.2 a2
    rw [a1] at b1
    rw [Option.some.inj b1]
    exact b2
  refine ⟨(As.zip R).map toV, ?_, fun z hz => ?_, fun qs hp ho => ?_⟩
  · rw [List.map_map]
    conv => rhs; rw [← f1]
    rw [List.map_map]
    rfl
  · obtain ⟨y, hy, rfl⟩ := List.mem_map.mp hz
    exact at0 y hy
  · obtain ⟨ZI, zp, rfl⟩ := perm_lift toV hp (As.zip R) rfl
    refine ⟨ZI.map Prod.fst, ZI.map Prod.snd, ?_, ?_, ?_, ?_⟩
    · rw [List.map_map, List.map_map]
      rfl
    · have z := zp.map Prod.snd
      rwa [f2] at z
    · rw [List.pairwise_map] at ho ⊢
      exact ho.imp fun {x y} z => by
        have z : (x.2.map V.int).length ≤ (y.2.map V.int).length := z
        rwa [List.length_map, List.length_map] at z
    · refine ⟨by rw [List.length_map, List.length_map], fun i r e => ?_⟩
      rw [List.getElem?_map] at e
      obtain ⟨z, hz, rfl⟩ := Option.map_eq_some_iff.mp e
      exact ⟨z.1, by rw [List.getElem?_map, hz]; rfl, at0 z (zp.mem_iff.mp (List.mem_of_getElem? hz))⟩
theorem eqvL_ints (ns ms : List Int) : PyData.eqv (.list (ns.map PyData.int)) (.list (ms.map PyData.int)) = decide (ns = ms) := by
  rw [← PySem.W.ked_eqvAll, PyData.eqv]
theorem lens_sorted {Rs : List (List Int)} (h : Rs.Pairwise fun x y => x.length ≤ y.length) : (lensL Rs).Pairwise (· ≤ ·) := by
  unfold lensL
  rw [List.pairwise_map]
  exact h.imp fun z => Int.ofNat_le.mpr z
theorem lens_eq {Rs Ss : List (List Int)} (h : lensL Rs = lensL Ss) : Rs.map List.length = Ss.map List.length := by
  rw [lensL_N, lensL_N] at h
  exact (List.map_inj_right fun a b e => Int.ofNat.inj e).mp h
theorem turn_pm {n : Nat} (h1 : 1 ≤ n) (h5 : n ≤ 5) : IsPm n (turnL n) := by
  obtain rfl | rfl | rfl | rfl | rfl : n = 1 ∨ n = 2 ∨ n = 3 ∨ n = 4 ∨ n = 5 := by omega
  all_goals exact ⟨by decide, by decide, by decide⟩
theorem swap_pm {n : Nat} (h1 : 1 ≤ n) (h5 : n ≤ 5) : IsPm n (swapL n) := by
  obtain rfl | rfl | rfl | rfl | rfl : n = 1 ∨ n = 2 ∨ n = 3 ∨ n = 4 ∨ n = 5 := by omega
  all_goals exact ⟨by decide, by decide, by decide⟩
theorem swap_big {n : Nat} (h : 2 ≤ n) : [V.int 1, V.int 0] ++ rgV 2 n = (swapL n).map V.int := by
  obtain ⟨m, rfl⟩ : ∃ m, n = m + 2 := ⟨n - 2, by omega⟩
  show [V.int 1, V.int 0] ++ rgV 2 ((m + 2 : Nat) : Int) = V.int 1 :: V.int 0 :: ((List.range m).map fun i => ((i + 2 : Nat) : Int)).map V.int
  unfold rgV
  rw [show (((m + 2 : Nat) : Int) - 2).toNat = m by omega, List.map_map]
  show V.int 1 :: V.int 0 :: _ = _
  congr 2
  refine List.map_congr_left fun i _ => ?_
  show V.int (2 + (i : Int)) = V.int ((i + 2 : Nat) : Int)
  congr 1
  omega
def turnI (n i : Nat) : List Int := (List.range i).map fun i => (((i + 1) % n : Nat) : Int)
theorem cent_same {n : Nat} {p : List Int} {R S : List (List Int)} (hp : IsPm n p) (F : Full n p R) (G : Full n p S) : czL (List.range 13) (lensN R) = czL (List.range 13) (lensN S) :=
  czL_perm ((F.perm hp G).map List.length : (lensN R).Perm (lensN S))
theorem due_cent {n : Nat} {p : List Int} {R S : List (List Int)} {ns : List Int} {ls : List Nat} (hp : IsPm n p) (hn : n ≤ 12) (F : Full n p R) (G : Full n p S) (h : ns.Perm (lensL S)) (e : ns = ls.map Int.ofNat) : czL (List.range 13) (lensN R) = dueI ls ls.length ∧ ls.length ≤ 12 ∧ ∀ x ∈ ls, x ≤ 12 := by
  have hl : ls.Perm (lensN S) := by
    rw [e, lensL_N] at h
    have z := h.map Int.toNat
    rw [List.map_map, List.map_map] at z
    have i1 : ∀ l : List Nat, l.map (Int.toNat ∘ Int.ofNat) = l := fun l => (List.map_congr_left fun x _ => rfl).trans (List.map_id l)
    rwa [i1, i1] at z
  have le : ∀ x ∈ ls, x ≤ 12 := fun x hx => by
    obtain ⟨r, hr, rfl⟩ := List.mem_map.mp (hl.mem_iff.mp hx)
    have b := bd_len (nodup_row G.cyc.nd r hr) fun y hy => G.cyc.bd y (List.mem_flatten.mpr ⟨r, hr, hy⟩)
    omega
  have len : ls.length ≤ 12 := by
    rw [hl.length_eq]
    unfold lensN
    rw [List.length_map]
    have a := Nat.le_trans (rows_le G.cyc.tn) (bd_len G.cyc.nd G.cyc.bd)
    omega
  have d := dueI_cz (ds := List.range 13) List.nodup_range (fun x hx => List.mem_range.mpr (by have := le x hx; omega)) ls.length (Nat.le_refl _)
  rw [List.take_length] at d
  exact ⟨by rw [d, cent_same hp F G, czL_perm hl], len, le⟩
end KL
/-! texts of permutations: their signs, how they are read -/
namespace KL
open PySem PySem.Spec PyProof.Rows L2 GA GxR
/-- the code points -/
abbrev cp (x : Str) : List Nat := x.cps.toList
def ofL (l : List Nat) : Str := ⟨l.toArray⟩
theorem cp_ofL (l : List Nat) : cp (ofL l) = l := by
  unfold cp ofL
  simp
theorem ofL_cp (x : Str) : ofL (cp x) = x := by
  unfold cp ofL
  simp
theorem cp_inj {x y : Str} (h : cp x = cp y) : x = y := by rw [← ofL_cp x, ← ofL_cp y, h]
theorem cp_app (x y : Str) : cp (x ++ y) = cp x ++ cp y := by
  show (x.cps ++ y.cps).toList = _
  rw [Array.toList_append]
theorem cp_len (x : Str) : x.length = (cp x).length := by
  show x.cps.size = _
  rw [Array.length_toList]
/-! ### join with the table known -/
theorem pe_joinK {X : Cx} {K : PySem.W.Frag} {o e : Expr} {to te : TE} {apos pos : Pos} (hK : X.K = K) (ho : PE X o to) (he : PE X e te) (hs : starEach [e] X.env = [(false, eval e X.env)] := by rfl) (hbase : attributeBase o "join" X.env (eval o X.env) = eval o X.env := by rfl) (hline : (apos.endLine == pos.line) = true := by rfl) :
    PE X (.Call (.Attribute o "join" apos) [e] [] pos) (tM1 (fun x xs H Q => ∃ a p, ∃ ys : List Str, x = .str a ∧ xs = [.ref p] ∧ (SqL K H p (ys.map V.str) ∨ SqT K H p (ys.map V.str)) ∧
      (ys.map (·.length)).sum + ys.length * a.length ≤ 16777216 ∧ Q (.str (Txt.join a ys)) H) to te) := by
  subst hK
  exact pe_join ho he hs hbase hline
/-! ### s * n, s one sign -/
def rMulS : R2 := fun x y H Q => ∃ (c : Nat) (n : Nat), x = .str ⟨#[c]⟩ ∧ y = .int n ∧ n ≤ 1000 ∧ Q (.str (ofL (List.replicate n c))) H
theorem fold_one (c : Nat) : ∀ (n : Nat) (acc : Array Nat), (List.replicate n #[c]).foldl (· ++ ·) acc = acc ++ (List.replicate n c).toArray
  | 0, acc => by simp
  | n + 1, acc => by
    rw [List.replicate_succ, List.foldl_cons, fold_one c n, List.replicate_succ]
    apply Array.toList_inj.mp
    simp
theorem op_repS {X : Cx} : OpR X (binaryOp .Mult) rMulS := by
  intro pins s σ H x y v u Q I rx ry h
  obtain ⟨c, n, rfl, rfl, hn, q⟩ := h
  obtain ⟨t, rfl⟩ := rx
  obtain ⟨t', rfl⟩ := ry
  have l1 : Str.length ⟨#[c]⟩ = 1 := rfl
  refine PySem.P.mul_str (by rw [decide_eq_false (by omega), decide_eq_false (by omega)]; rfl) (fun h1 _ => ?_) (fun _ _ => ?_) ?_
  · rw [l1]
    have : (1 : Int) ≤ (2 ^ 63 - 1) / (n : Int) := by
      apply Int.le_ediv_of_mul_le (by omega)
      omega
    omega
  · rw [l1, Nat.one_mul, Int.toNat_natCast]
    show decide (n > sizeLine) = false
    exact decide_eq_false (by have : (1000 : Nat) < sizeLine := by decide
                              omega)
  · by_cases h0 : n = 0
    · subst h0
      exact ⟨by decide, .str _, H, I.tok _, ⟨_, rfl⟩, q⟩
    · rw [if_neg (show ¬ ((n : Int) < 1) by omega)]
      by_cases h1 : n = 1
      · subst h1
        exact ⟨.str _, H, I, ⟨_, rfl⟩, q⟩
      · rw [if_neg (by
          rw [l1]
          intro z
          have z : ((n : Int) == 1 || false) = true := z
          rw [Bool.or_false] at z
          have := eq_of_beq z
          omega)]
        rw [Int.toNat_natCast, fold_one, Array.empty_append]
        refine ⟨?_, .str _, H, I.tok _, ⟨_, rfl⟩, q⟩
        show (List.replicate n c).toArray.size ≤ sizeLine
        rw [List.size_toArray, List.length_replicate]
        have : (1000 : Nat) < sizeLine := by decide
        omega
/-! ### numbers as texts -/
def digs (n : Nat) : List Nat := if n < 10 then [48 + n] else [48 + n / 10, 48 + n % 10]
theorem digs_all : ∀ n, n < 13 → cp (Str.ofString (toString ((n : Nat) : Int))) = digs n ∧ PySem.intText? (ofL (digs n)) = some ((n : Nat) : Int) := by decide +kernel
theorem digs_str {n : Nat} (h : n < 13) : (Str.ofString (toString ((n : Nat) : Int))) = ofL (digs n) := cp_inj (by rw [(digs_all n h).1, cp_ofL])
abbrev TEN : Str := Str.ofString "0123456789"
theorem ten : cp TEN = [48, 49, 50, 51, 52, 53, 54, 55, 56, 57] := by decide +kernel
def isDig (c : Nat) : Bool := decide (48 ≤ c) && decide (c ≤ 57)
theorem in_ten (c : Nat) : decide (c ∈ cp TEN) = isDig c := by
  rw [ten, Bool.eq_iff_iff, decide_eq_true_iff]
  unfold isDig
  rw [Bool.and_eq_true, decide_eq_true_iff, decide_eq_true_iff]
  simp only [List.mem_cons, List.not_mem_nil, or_false]
  omega
theorem digs_dig {n : Nat} (h : n < 13) : ∀ c ∈ digs n, isDig c = true := by
  unfold digs isDig
  intro c hc
  rw [Bool.and_eq_true, decide_eq_true_iff, decide_eq_true_iff]
  split at hc
  · rw [List.mem_singleton.mp hc]; omega
  · simp only [List.mem_cons, List.not_mem_nil, or_false] at hc
    omega
theorem digs_ne (n : Nat) : ∃ c r, digs n = c :: r ∧ r.length ≤ 1 ∧ (0 < r.length → 10 ≤ n ∧ c = 48 + n / 10) := by
  unfold digs
  split
  · exact ⟨_, [], rfl, Nat.zero_le _, fun h => absurd h (Nat.lt_irrefl _)⟩
  · exact ⟨_, [_], rfl, Nat.le_refl _, fun _ => ⟨by omega, rfl⟩⟩
/-! ### texts in pieces -/
inductive Tok where
  | sp
  | num (n : Nat)
def encT : Tok → List Nat
  | .sp => [32]
  | .num n => digs n
def encB (b : List Tok) : List Nat := (b.map encT).flatten
def nums : List Tok → List Int
  | [] => []
  | .sp :: r => nums r
  | .num n :: r => (n : Int) :: nums r
theorem encB_app (a b : List Tok) : encB (a ++ b) = encB a ++ encB b := by
  unfold encB
  rw [List.map_append, List.flatten_append]
theorem nums_app : ∀ a b : List Tok, nums (a ++ b) = nums a ++ nums b
  | [], b => rfl
  | .sp :: r, b => nums_app r b
  | .num n :: r, b => congrArg ((n : Int) :: ·) (nums_app r b)
/-- no two numbers side by side; all below 12 -/
def Fine : List Tok → Prop
  | [] => True
  | .sp :: r => Fine r
  | .num n :: r => n < 12 ∧ (∀ m s, r ≠ .num m :: s) ∧ Fine r
inductive Pc where
  | sp
  | cyc (b : List Tok)
def encP : Pc → List Nat
  | .sp => [32]
  | .cyc b => 40 :: (encB b ++ [41])
def encPs (ps : List Pc) : List Nat := (ps.map encP).flatten
theorem encPs_app (a b : List Pc) : encPs (a ++ b) = encPs a ++ encPs b := by
  unfold encPs
  rw [List.map_append, List.flatten_append]
def rowsP : List Pc → List (List Int)
  | [] => []
  | .sp :: r => rowsP r
  | .cyc b :: r => nums b :: rowsP r
theorem rowsP_app : ∀ a b : List Pc, rowsP (a ++ b) = rowsP a ++ rowsP b
  | [], b => rfl
  | .sp :: r, b => rowsP_app r b
  | .cyc c :: r, b => congrArg (nums c :: ·) (rowsP_app r b)
def FineP : List Pc → Prop
  | [] => True
  | .sp :: r => FineP r
  | .cyc b :: r => Fine b ∧ FineP r
/-- the sign at a place -/
theorem sign_at {t : Str} {pre post : List Nat} {c : Nat} (h : cp t = pre ++ c :: post) : atI (cp t) ((pre.length : Nat) : Int) = some c := by
  rw [h]
  exact atI_nat (by rw [List.getElem?_append_right (Nat.le_refl _), Nat.sub_self]; rfl)
theorem text_cut {t : Str} {pre ds post : List Nat} (h : cp t = pre ++ (ds ++ post)) : cutS t (some ((pre.length : Nat) : Int)) (some ((pre.length + ds.length : Nat) : Int)) = ofL ds := by
  unfold cutS
  rw [HT.sIx_nat, HT.sIx_nat, cp_len, h]
  have l : (pre ++ (ds ++ post)).length = pre.length + (ds.length + post.length) := by rw [List.length_append, List.length_append]
  rw [l, Nat.min_eq_left (by omega), Nat.min_eq_left (by omega), show t.cps.toList = pre ++ (ds ++ post) from h, List.drop_left, Nat.add_sub_cancel_left, List.take_left]
  rfl
theorem one_sign {c k : Nat} {x : Str} (h : x = ⟨#[k]⟩) : decide (V.str ⟨#[c]⟩ = V.str x) = decide (c = k) := by
  subst h
  by_cases e : c = k
  · rw [e, decide_eq_true rfl, decide_eq_true rfl]
  · rw [decide_eq_false e, decide_eq_false]
    intro z
    have z2 := congrArg cp (V.str.inj z)
    exact e (List.cons.inj z2).1
theorem closing (c : Nat) : decide (V.str ⟨#[c]⟩ = V.str (Str.ofString ")")) = decide (c = 41) := one_sign (by decide +kernel)
theorem opening (c : Nat) : decide (V.str ⟨#[c]⟩ = V.str (Str.ofString "(")) = decide (c = 40) := one_sign (by decide +kernel)
theorem blank (c : Nat) : decide (V.str ⟨#[c]⟩ = V.str (Str.ofString " ")) = decide (c = 32) := one_sign (by decide +kernel)
theorem fine_after {n : Nat} {b : List Tok} {post : List Nat} (h : Fine (.num n :: b)) : ∀ c r, encB b ++ 41 :: post = c :: r → isDig c = false := by
  intro c r e
  cases b with
  | nil =>
    have e : 41 :: post = c :: r := e
    rw [← (List.cons.inj e).1]
    rfl
  | cons k b =>
    cases k with
    | sp =>
      have e : 32 :: (encB b ++ 41 :: post) = c :: r := e
      rw [← (List.cons.inj e).1]
      rfl
    | num m => exact absurd rfl (h.2.1 m b)
/-! ### promises -/
def spEndOf : Sp := fun vs H Q _ => ∃ (t : Str) (pre ds post : List Nat), vs = [.str t, .int ((pre.length : Nat) : Int)] ∧ cp t = pre ++ (ds ++ post) ∧ t.length ≤ 1000 ∧ (∀ c ∈ ds, isDig c = true) ∧ (∀ c r, post = c :: r → isDig c = false) ∧ Q (.int ((pre.length + ds.length : Nat) : Int)) H
def spNamed : Sp := fun vs H Q _ => ∃ (d n : Nat), vs = [.int d, .str (ofL (digs n))] ∧ n < 12 ∧ n < d ∧ Q (.int n) H
def spReadCycle : Sp := fun vs H Q _ => ∃ (t : Str) (d : Nat) (u : Addr) (us : List Int) (pre post : List Nat) (b : List Tok), vs = [.int d, .str t, .int ((pre.length : Nat) : Int), .ref u] ∧ cp t = pre ++ (encB b ++ 41 :: post) ∧ t.length ≤ 1000 ∧ Fine b ∧ H u = some (.lst (us.map V.int)) ∧ (us ++ nums b).Nodup ∧ (us ++ nums b).length ≤ 12 ∧ (∀ x ∈ nums b, x < d) ∧
  ∀ (a c : Addr) (H' : Hp), Ex H H' → H' a = some (.tup [.ref c, .int ((pre.length + (encB b).length + 1 : Nat) : Int)]) → H' c = some (.lst ((nums b).map V.int)) → H c = none → Q (.ref a) H'
/-- p turns each row, and fixes what is in none -/
structure FromRows (n : Nat) (p : List Int) (Rs : List (List Int)) : Prop where
  pm : IsPm n p
  tn : ∀ r ∈ Rs, r = [] ∨ Turn p r
  fx : ∀ x : Int, 0 ≤ x → x < n → x ∉ Rs.flatten → p[x.toNat]? = some x
  nd : Rs.flatten.Nodup
  bd : ∀ x ∈ Rs.flatten, 0 ≤ x ∧ x < (n : Int)
/-- L has p's images at the points of S, its own elsewhere -/
structure Turned (n : Nat) (p S L : List Int) : Prop where
  len : L.length = n
  at_ : ∀ x : Int, 0 ≤ x → x < n → L[x.toNat]? = if x ∈ S then p[x.toNat]? else some x
theorem Turned.start {n : Nat} {p : List Int} : Turned n p [] (unitL n) := by
  refine ⟨(unit_pm n).len, fun x h0 h1 => ?_⟩
  rw [if_neg (fun h => by cases h), unitL_get (by omega)]
  congr 1
  omega
theorem Turned.step {n : Nat} {p S L : List Int} {x y : Int} (t : Turned n p S L) (h0 : 0 ≤ x) (h1 : x < n) (hy : p[x.toNat]? = some y) : Turned n p (S ++ [x]) (L.set x.toNat y) := by
  refine ⟨by rw [List.length_set]; exact t.len, fun z z0 z1 => ?_⟩
  by_cases e : z = x
  · subst e
    rw [List.getElem?_set_self (by rw [t.len]; omega), if_pos (List.mem_append_right _ (List.mem_cons_self ..)), hy]
  · rw [List.getElem?_set_ne (by omega), t.at_ z z0 z1]
    by_cases c : z ∈ S
    · rw [if_pos c, if_pos (List.mem_append_left _ c)]
    · rw [if_neg c, if_neg (fun h => by
        rcases List.mem_append.mp h with h | h
        · exact c h
        · exact e (List.mem_singleton.mp h))]
theorem Turned.done {n : Nat} {p L : List Int} {Rs : List (List Int)} (t : Turned n p Rs.flatten L) (F : FromRows n p Rs) : L = p := by
  refine pm_ext (n := n) t.len F.pm.len fun j hj => ?_
  have z := t.at_ (j : Int) (by omega) (by omega)
  rw [show ((j : Nat) : Int).toNat = j by omega] at z
  rw [z]
  by_cases c : (j : Int) ∈ Rs.flatten
  · rw [if_pos c]
  · rw [if_neg c]
    have f := F.fx (j : Int) (by omega) (by omega) c
    rw [show ((j : Nat) : Int).toNat = j by omega] at f
    exact f.symm
/-- the rows as lists -/
structure ListsAt (H : Hp) (As : List Addr) (R : List (List Int)) : Prop where
  len : As.length = R.length
  at_ : ∀ (i : Nat) (r : List Int), R[i]? = some r → ∃ a : Addr, As[i]? = some a ∧ H a = some (.lst (r.map V.int))
theorem ListsAt.ex {H H' : Hp} {As : List Addr} {R : List (List Int)} (x : Ex H H') (h : ListsAt H As R) : ListsAt H' As R :=
  ⟨h.len, fun i r e => let ⟨a, e1, e2⟩ := h.at_ i r e; ⟨a, e1, x.i e2⟩⟩
def spFromCycles : Sp := fun vs H Q _ => ∃ (a : Addr) (n : Nat) (p : List Int) (As : List Addr) (Rs : List (List Int)), vs = [.int n, .ref a] ∧ H a = some (.lst (As.map V.ref)) ∧ ListsAt H As Rs ∧ FromRows n p Rs ∧ n ≤ 12 ∧ Rs.length ≤ 1000 ∧ ∀ c H', Ex H H' → Pm H' c n p → Q (.ref c) H'
def spRead : Sp := fun vs H Q _ => ∃ (t : Str) (n : Nat) (ps : List Pc) (p : List Int), vs = [.int n, .str t] ∧ 1 ≤ n ∧ n ≤ 12 ∧ cp t = encPs ps ∧ t.length ≤ 1000 ∧ FineP ps ∧ rowsP ps ≠ [] ∧ FromRows n p (rowsP ps) ∧ ∀ c H', Ex H H' → Pm H' c n p → Q (.ref c) H'
theorem rowsP_len : ∀ ps : List Pc, (rowsP ps).length ≤ (encPs ps).length
  | [] => Nat.le_refl _
  | .sp :: r => by
    have := rowsP_len r
    show (rowsP r).length ≤ ([32] ++ encPs r).length
    rw [List.length_append]
    omega
  | .cyc b :: r => by
    have := rowsP_len r
    show (nums b :: rowsP r).length ≤ (40 :: (encB b ++ [41]) ++ encPs r).length
    rw [List.length_append, List.length_cons, List.length_cons]
    omega
/-- where the reading stands -/
structure RD (H H1 : Hp) (l u : Addr) (As : List Addr) (R : List (List Int)) : Prop where
  ex : Ex H H1
  hl : H1 l = some (.lst (As.map V.ref))
  rows : ListsAt H1 As R
  hu : H1 u = some (.lst (R.flatten.map V.int))
  nl : ∀ a ∈ As, a ≠ l
  ul : u ≠ l
theorem RD.more {H H1 H2 : Hp} {l u c v : Addr} {As : List Addr} {R : List (List Int)} {r : List Int} (D : RD H H1 l u As R) (nl0 : H l = none) (x : Ex H1 H2) (hc : H2 c = some (.lst (r.map V.int))) (nc : H1 c = none) (nv : upd H2 l (.lst (As.map V.ref ++ [V.ref c])) v = none) :
    RD H (upd (upd H2 l (.lst (As.map V.ref ++ [V.ref c]))) v (.lst (R.flatten.map V.int ++ r.map V.int))) l v (As ++ [c]) (R ++ [r]) := by
  have hl2 := x.st _ _ D.hl refs_norow
  have cl : c ≠ l := fun z => by rw [z, D.hl] at nc; cases nc
  have x3 : Ex H (upd H2 l (.lst (As.map V.ref ++ [V.ref c]))) := (D.ex.trans x).own nl0
  have hl3 : upd H2 l (.lst (As.map V.ref ++ [V.ref c])) l = some (.lst (As.map V.ref ++ [V.ref c])) := upd_same
  have vl : v ≠ l := fun z => by rw [z, hl3] at nv; cases nv
  refine ⟨x3.trans (Ex.new nv), by rw [upd_ne (Ne.symm vl), hl3, List.map_append]; rfl, ⟨by rw [List.length_append, List.length_append, D.rows.len]; rfl, fun i s e => ?_⟩, ?_, ?_, vl⟩
  · by_cases hi : i < R.length
    · rw [List.getElem?_append_left hi] at e
      obtain ⟨a, f1, f2⟩ := (D.rows.ex x).at_ i s e
      have al := D.nl a (List.mem_of_getElem? f1)
      have a3 : upd H2 l (.lst (As.map V.ref ++ [V.ref c])) a = some (.lst (s.map V.int)) := by rw [upd_ne al]; exact f2
      exact ⟨a, by rw [List.getElem?_append_left (by rw [D.rows.len]; exact hi)]; exact f1, by rw [upd_ne (ne_of_none a3 nv)]; exact a3⟩
    · have hl := (List.getElem?_eq_some_iff.mp e).1
      rw [List.length_append] at hl
      have hl : i < R.length + 1 := hl
      have ei : i = R.length := by omega
      subst ei
      rw [List.getElem?_append_right (Nat.le_refl _), Nat.sub_self] at e
      cases e
      have c3 : upd H2 l (.lst (As.map V.ref ++ [V.ref c])) c = some (.lst (r.map V.int)) := by rw [upd_ne cl]; exact hc
      exact ⟨c, by rw [List.getElem?_append_right (by rw [D.rows.len]; exact Nat.le_refl _), D.rows.len, Nat.sub_self]; rfl, by rw [upd_ne (ne_of_none c3 nv)]; exact c3⟩
  · rw [upd_same, List.flatten_append, List.flatten_cons, List.flatten_nil, List.append_nil, List.map_append]
  · intro a ha
    rcases List.mem_append.mp ha with z | z
    · exact D.nl a z
    · rw [List.mem_singleton.mp z]; exact cl
end KL
/-! texts of permutations: how they are written -/
namespace KL
open PySem PySem.Spec PyProof.Rows L2 GA GxR
def gl (s : List Nat) : List (List Nat) → List Nat
  | [] => []
  | [x] => x
  | x :: y :: r => x ++ (s ++ gl s (y :: r))
theorem glued_fold (g : Array Nat) : ∀ (ws : List Str) (acc : Array Nat), (ws.foldl (fun a (p : Str) => a ++ g ++ p.cps) acc).toList = acc.toList ++ (ws.map fun w => g.toList ++ cp w).flatten
  | [], acc => by simp
  | w :: ws, acc => by
    rw [List.foldl_cons, glued_fold g ws]
    simp [cp]
theorem gl_fold (s : List Nat) : ∀ (x : List Nat) (r : List (List Nat)), gl s (x :: r) = x ++ (r.map fun w => s ++ w).flatten
  | x, [] => by simp [gl]
  | x, y :: r => by
    show x ++ (s ++ gl s (y :: r)) = _
    rw [gl_fold s y r]
    simp
theorem cp_join (sep : Str) : ∀ ws : List Str, cp (Txt.join sep ws) = gl (cp sep) (ws.map cp)
  | [] => rfl
  | x :: r => by
    rw [List.map_cons, gl_fold, List.map_map]
    exact glued_fold sep.cps r x.cps
def sps (k : Nat) : List Tok := List.replicate k .sp
def wrS (k : Nat) : List Int → List Tok
  | [] => []
  | [x] => [.num x.toNat]
  | x :: y :: r => .num x.toNat :: (sps k ++ wrS k (y :: r))
theorem encB_sps : ∀ k, encB (sps k) = List.replicate k 32
  | 0 => rfl
  | k + 1 => by
    show 32 :: encB (sps k) = _
    rw [encB_sps k, List.replicate_succ]
theorem nums_sps : ∀ k, nums (sps k) = []
  | 0 => rfl
  | k + 1 => nums_sps k
theorem fine_sps {b : List Tok} (h : Fine b) : ∀ k, Fine (sps k ++ b)
  | 0 => h
  | k + 1 => fine_sps h k
theorem encB_wrS (k : Nat) : ∀ r : List Int, encB (wrS k r) = gl (List.replicate k 32) (r.map fun x => digs x.toNat)
  | [] => rfl
  | [x] => List.append_nil _
  | x :: y :: r => by
    show digs x.toNat ++ encB (sps k ++ wrS k (y :: r)) = digs x.toNat ++ (List.replicate k 32 ++ gl _ ((y :: r).map fun x => digs x.toNat))
    rw [encB_app, encB_sps, encB_wrS k (y :: r)]
theorem nums_wrS (k : Nat) : ∀ r : List Int, (∀ x ∈ r, 0 ≤ x) → nums (wrS k r) = r
  | [], _ => rfl
  | [x], h => by
    show [((x.toNat : Nat) : Int)] = [x]
    rw [Int.toNat_of_nonneg (h x (List.mem_cons_self ..))]
  | x :: y :: r, h => by
    show ((x.toNat : Nat) : Int) :: nums (sps k ++ wrS k (y :: r)) = _
    rw [Int.toNat_of_nonneg (h x (List.mem_cons_self ..)), nums_app, nums_sps, List.nil_append, nums_wrS k (y :: r) fun z hz => h z (List.mem_cons_of_mem _ hz)]
theorem fine_wrS {k : Nat} (hk : 1 ≤ k) (k2 : Nat) : ∀ r : List Int, (∀ x ∈ r, x < 12) → Fine (wrS k r ++ sps k2)
  | [], _ => fine_sps (b := []) trivial k2 |> fun h => by rw [List.append_nil] at h; exact h
  | [x], h => by
    have hx := h x (List.mem_cons_self ..)
    refine ⟨by omega, fun m s e => ?_, fine_sps (b := []) trivial k2 |> fun h => by rw [List.append_nil] at h; exact h⟩
    cases k2 with
    | zero => cases e
    | succ k => cases e
  | x :: y :: r, h => by
    have hx := h x (List.mem_cons_self ..)
    have ih := fine_wrS hk k2 (y :: r) fun z hz => h z (List.mem_cons_of_mem _ hz)
    show Fine (.num x.toNat :: (sps k ++ wrS k (y :: r) ++ sps k2))
    rw [List.append_assoc]
    refine ⟨by omega, fun m s e => ?_, fine_sps ih k⟩
    cases k with
    | zero => omega
    | succ k => cases e
theorem digs_len (n : Nat) : (digs n).length ≤ 2 := by
  unfold digs
  split
  · show 1 ≤ 2; omega
  · exact Nat.le_refl _
theorem encB_len (k : Nat) : ∀ r : List Int, (encB (wrS k r)).length ≤ (2 + k) * r.length
  | [] => Nat.zero_le _
  | [x] => by
    have := digs_len x.toNat
    show (digs x.toNat ++ []).length ≤ (2 + k) * 1
    rw [List.append_nil]
    omega
  | x :: y :: r => by
    have := digs_len x.toNat
    have ih := encB_len k (y :: r)
    show (digs x.toNat ++ encB (sps k ++ wrS k (y :: r))).length ≤ (2 + k) * ((y :: r).length + 1)
    rw [List.length_append, encB_app, List.length_append, encB_sps, List.length_replicate, Nat.mul_succ]
    omega
def numS (x : Int) : Str := ofL (digs x.toNat)
theorem str_num {x : Int} (h0 : 0 ≤ x) (h : x < 13) : Str.ofString (toString x) = numS x := by
  obtain ⟨n, rfl⟩ := Int.eq_ofNat_of_zero_le h0
  exact digs_str (n := n) (by omega)
theorem join_row {sep : Str} {k : Nat} (h : cp sep = List.replicate k 32) (r : List Int) : cp (Txt.join sep (r.map numS)) = encB (wrS k r) := by
  rw [cp_join, h, encB_wrS, List.map_map]
  exact congrArg (gl _) (List.map_congr_left fun x _ => cp_ofL _)
theorem numS_len (r : List Int) : ((r.map numS).map (·.length)).sum ≤ 2 * r.length := by
  induction r with
  | nil => exact Nat.zero_le _
  | cons x r ih =>
    have h := digs_len x.toNat
    have e : (numS x).length = (digs x.toNat).length := by rw [cp_len]; exact congrArg List.length (cp_ofL _)
    rw [List.map_cons, List.map_cons, List.sum_cons, List.length_cons]
    omega
/-! ### rows of a permutation -/
def bigs (R : List (List Int)) : List (List Int) := R.filter fun r => decide (1 < r.length)
def pcs (R : List (List Int)) : List Pc := if bigs R = [] then [.cyc []] else (bigs R).map fun r => .cyc (wrS 1 r)
theorem rowsP_map (k : Nat) : ∀ l : List (List Int), (∀ r ∈ l, ∀ x ∈ r, 0 ≤ x) → rowsP (l.map fun r => .cyc (wrS k r)) = l
  | [], _ => rfl
  | r :: l, h => by
    show nums (wrS k r) :: rowsP (l.map fun r => Pc.cyc (wrS k r)) = _
    rw [nums_wrS k r (h r (List.mem_cons_self ..)), rowsP_map k l fun s hs => h s (List.mem_cons_of_mem _ hs)]
theorem fineP_app : ∀ {a b : List Pc}, FineP a → FineP b → FineP (a ++ b)
  | [], b, _, h => h
  | .sp :: a, b, h1, h => fineP_app (a := a) h1 h
  | .cyc c :: a, b, h1, h => ⟨h1.1, fineP_app (a := a) h1.2 h⟩
theorem fineP_map {k : Nat} (hk : 1 ≤ k) : ∀ l : List (List Int), (∀ r ∈ l, ∀ x ∈ r, x < 12) → FineP (l.map fun r => .cyc (wrS k r))
  | [], _ => trivial
  | r :: l, h => ⟨by have := fine_wrS hk 0 r (h r (List.mem_cons_self ..)); rw [show sps 0 = [] from rfl, List.append_nil] at this; exact this, fineP_map hk l fun s hs => h s (List.mem_cons_of_mem _ hs)⟩
theorem Turn.one {p r : List Int} (T : Turn p r) (h : r.length ≤ 1) {x : Int} (hx : x ∈ r) : p[x.toNat]? = some x := by
  match r, T, h, hx with
  | [], T, _, hx => cases hx
  | [y], T, _, hx =>
    rw [List.mem_singleton.mp hx]
    exact (T.st 0 y rfl).trans (by show [y][(0 + 1) % 1]? = some y; rfl)
  | y :: z :: r, _, h, _ =>
    rw [List.length_cons, List.length_cons] at h
    omega
theorem Full.from {n : Nat} {p : List Int} {R Rs : List (List Int)} (hp : IsPm n p) (F : Full n p R) (tn : ∀ r ∈ Rs, r = [] ∨ Turn p r) (nd : Rs.flatten.Nodup) (bd : ∀ x ∈ Rs.flatten, x ∈ R.flatten) (cov : ∀ r ∈ R, 1 < r.length → ∀ x ∈ r, x ∈ Rs.flatten) : FromRows n p Rs := by
  refine ⟨hp, tn, fun x x0 xn hx => ?_, nd, fun x hx => F.cyc.bd x (bd x hx)⟩
  obtain ⟨r, hr, hm⟩ := List.mem_flatten.mp (F.all x x0 xn)
  refine (F.cyc.tn r hr).one ?_ hm
  apply Classical.byContradiction
  intro z
  exact hx (cov r hr (by omega) x hm)
theorem flat_bigs {R : List (List Int)} : (rowsP (pcs R)).flatten = (rowsP (pcs R)).flatten := rfl
theorem flat_sub (f : List Int → Bool) : ∀ R : List (List Int), (R.filter f).flatten.Sublist R.flatten
  | [] => .slnil
  | r :: R => by
    rw [List.filter_cons]
    split
    · exact (List.Sublist.refl r).append (flat_sub f R)
    · exact (flat_sub f R).trans (List.sublist_append_right _ _)
theorem nd_filter {f : List Int → Bool} {R : List (List Int)} (h : R.flatten.Nodup) : (R.filter f).flatten.Nodup := h.sublist (flat_sub f R)
theorem rows_pcs {R : List (List Int)} (h : ∀ x ∈ R.flatten, 0 ≤ x) : rowsP (pcs R) = if bigs R = [] then [[]] else bigs R := by
  unfold pcs
  split
  · rfl
  · exact rowsP_map 1 _ fun r hr x hx => h x (List.mem_flatten.mpr ⟨r, (List.mem_filter.mp hr).1, hx⟩)
theorem Full.pcs {n : Nat} {p : List Int} {R : List (List Int)} (hp : IsPm n p) (F : Full n p R) : FromRows n p (rowsP (pcs R)) := by
  rw [rows_pcs fun x hx => (F.cyc.bd x hx).1]
  split
  · rename_i e
    refine F.from hp (fun r hr => .inl (List.mem_singleton.mp hr)) List.nodup_nil (fun x hx => by cases hx) fun r hr h1 x hx => ?_
    have : r ∈ bigs R := List.mem_filter.mpr ⟨hr, decide_eq_true h1⟩
    rw [e] at this
    cases this
  · refine F.from hp (fun r hr => .inr (F.cyc.tn r (List.mem_filter.mp hr).1)) (nd_filter F.cyc.nd) (fun x hx => ?_) fun r hr h1 x hx => List.mem_flatten.mpr ⟨r, List.mem_filter.mpr ⟨hr, decide_eq_true h1⟩, hx⟩
    obtain ⟨r, hr, hm⟩ := List.mem_flatten.mp hx
    exact List.mem_flatten.mpr ⟨r, (List.mem_filter.mp hr).1, hm⟩
theorem fine_pcs {R : List (List Int)} (h : ∀ x ∈ R.flatten, x < 12) : FineP (pcs R) := by
  unfold pcs
  split
  · exact ⟨trivial, trivial⟩
  · exact fineP_map (Nat.le_refl 1) _ fun r hr x hx => h x (List.mem_flatten.mpr ⟨r, (List.mem_filter.mp hr).1, hx⟩)
theorem pcs_ne {R : List (List Int)} (h : ∀ x ∈ R.flatten, 0 ≤ x) : rowsP (pcs R) ≠ [] := by
  rw [rows_pcs h]
  split
  · exact List.cons_ne_nil _ _
  · assumption
def rowText (r : List Int) : Str := ofL (40 :: (encB (wrS 1 r) ++ [41]))
theorem gl_nil : ∀ l : List (List Nat), gl [] l = l.flatten
  | [] => rfl
  | [x] => (List.append_nil _).symm
  | x :: y :: r => by
    show x ++ ([] ++ gl [] (y :: r)) = _
    rw [List.nil_append, gl_nil (y :: r)]
    rfl
theorem sum_le {k : Nat} : ∀ l : List Nat, (∀ x ∈ l, x ≤ k) → l.sum ≤ k * l.length
  | [], _ => Nat.zero_le _
  | x :: l, h => by
    have a := h x (List.mem_cons_self ..)
    have b := sum_le l fun y hy => h y (List.mem_cons_of_mem _ hy)
    rw [List.sum_cons, List.length_cons, Nat.mul_succ]
    omega
theorem rowText_len (r : List Int) : (rowText r).length ≤ 3 * r.length + 2 := by
  have h := encB_len 1 r
  have e : (rowText r).length = (40 :: (encB (wrS 1 r) ++ [41])).length := by rw [cp_len]; exact congrArg List.length (cp_ofL _)
  rw [e, List.length_cons, List.length_append]
  show (encB (wrS 1 r)).length + 1 + 1 ≤ _
  omega
theorem join_rows {sep : Str} (h : cp sep = []) (l : List (List Int)) : Txt.join sep (l.map rowText) = ofL (encPs (l.map fun r => .cyc (wrS 1 r))) := by
  refine cp_inj ?_
  rw [cp_ofL, cp_join, h, gl_nil, List.map_map]
  unfold encPs
  rw [List.map_map]
  exact congrArg List.flatten (List.map_congr_left fun r _ => cp_ofL _)
theorem texts_sum (l : List (List Int)) (h : ∀ r ∈ l, r.length ≤ 12) : ((l.map rowText).map (·.length)).sum ≤ 38 * l.length := by
  have z := sum_le (k := 38) ((l.map rowText).map (·.length)) fun x hx => by
    rw [List.map_map] at hx
    obtain ⟨r, hr, rfl⟩ := List.mem_map.mp hx
    have a := rowText_len r
    have b := h r hr
    show (rowText r).length ≤ 38
    omega
  rw [List.length_map, List.length_map] at z
  exact z
theorem strs_norow {ws : List Str} : ¬ RowO (.lst (ws.map V.str)) := fun ⟨s, i, j, k, e⟩ => by
  have e1 : ws.map V.str = [.ref s, .int i, .int j, .int k] := HO.lst.inj e
  match ws, e1 with
  | _ :: _, e1 => cases (List.cons.inj e1).1
/-! ### one point more -/
theorem IsPm.snoc {n : Nat} {p : List Int} (h : IsPm n p) : IsPm (n + 1) (p ++ [(n : Int)]) := by
  refine ⟨by rw [List.length_append, h.len]; rfl, ?_, fun x hx => ?_⟩
  · refine List.nodup_append.mpr ⟨h.nd, List.nodup_cons.mpr ⟨(fun z => by cases z), List.nodup_nil⟩, fun a ha b hb e => ?_⟩
    have := h.bd a ha
    rw [List.mem_singleton.mp hb] at e
    omega
  · rcases List.mem_append.mp hx with z | z
    · have := h.bd x z
      omega
    · rw [List.mem_singleton.mp z]
      omega
theorem FromRows.more {n : Nat} {p : List Int} {Rs : List (List Int)} (F : FromRows n p Rs) : FromRows (n + 1) (p ++ [(n : Int)]) Rs := by
  have at_ : ∀ x : Int, 0 ≤ x → x < n → (p ++ [(n : Int)])[x.toNat]? = p[x.toNat]? := fun x h0 h1 => List.getElem?_append_left (by rw [F.pm.len]; omega)
  refine ⟨F.pm.snoc, fun r hr => ?_, fun x h0 h1 hx => ?_, F.nd, fun x hx => by have := F.bd x hx; omega⟩
  · rcases F.tn r hr with z | z
    · exact .inl z
    · refine .inr ⟨z.ne, fun i x h => ?_⟩
      have b := F.bd x (List.mem_flatten.mpr ⟨r, hr, List.mem_of_getElem? h⟩)
      rw [at_ x b.1 b.2]
      exact z.st i x h
  · by_cases c : x < n
    · rw [at_ x h0 c]
      exact F.fx x h0 c hx
    · have e : x = n := by omega
      rw [e, List.getElem?_append_right (by rw [F.pm.len]; omega), F.pm.len, show ((n : Nat) : Int).toNat - n = 0 by omega]
      rfl
theorem rot_get {r : List Int} {b i : Nat} (hb : b ≤ r.length) (hi : i < r.length) : (r.drop b ++ r.take b)[i]? = r[(b + i) % r.length]? := by
  by_cases c : i < r.length - b
  · rw [List.getElem?_append_left (by rw [List.length_drop]; exact c), List.getElem?_drop, Nat.mod_eq_of_lt (by omega)]
  · rw [List.getElem?_append_right (by rw [List.length_drop]; omega), List.length_drop, List.getElem?_take_of_lt (by omega), Nat.mod_eq_sub_mod (by omega), Nat.mod_eq_of_lt (by omega)]
    congr 1
    omega
theorem rot_len {r : List Int} {b : Nat} (hb : b ≤ r.length) : (r.drop b ++ r.take b).length = r.length := by
  rw [List.length_append, List.length_drop, List.length_take]
  omega
theorem rot_perm (r : List Int) (b : Nat) : (r.drop b ++ r.take b).Perm r := by
  have h : (r.drop b ++ r.take b).Perm (r.take b ++ r.drop b) := List.perm_append_comm
  rw [List.take_append_drop] at h
  exact h
theorem Turn.rot {p r : List Int} (T : Turn p r) {b : Nat} (hb : b ≤ r.length) : Turn p (r.drop b ++ r.take b) := by
  have hl := rot_len hb
  refine ⟨by rw [hl]; exact T.ne, fun i x h => ?_⟩
  have hi : i < r.length := by
    have := (List.getElem?_eq_some_iff.mp h).1
    omega
  rw [rot_get hb hi] at h
  rw [hl, rot_get hb (Nat.mod_lt _ T.ne), T.st _ x h, Nat.mod_add_mod, Nat.add_mod_mod, Nat.add_assoc]
/-! ### another text of the cycles -/
def blk (k : Nat) : List Pc := List.replicate k .sp
theorem encPs_blk : ∀ k, encPs (blk k) = List.replicate k 32
  | 0 => rfl
  | k + 1 => by
    show 32 :: encPs (blk k) = _
    rw [encPs_blk k, List.replicate_succ]
theorem rowsP_blk : ∀ k, rowsP (blk k) = []
  | 0 => rfl
  | k + 1 => rowsP_blk k
theorem fineP_blk : ∀ k, FineP (blk k)
  | 0 => trivial
  | k + 1 => fineP_blk k
structure Loose (p : List Int) (R : List (List Int)) (js : List Int) (ps : List Pc) (c : Nat) : Prop where
  fine : FineP ps
  tn : ∀ r ∈ rowsP ps, r = [] ∨ Turn p r
  nd : (rowsP ps).flatten.Nodup
  src : ∀ x ∈ (rowsP ps).flatten, ∃ j ∈ js, ∃ r, R[j.toNat]? = some r ∧ x ∈ r
  cov : ∀ j ∈ js, ∀ r, R[j.toNat]? = some r → 1 < r.length → ∀ x ∈ r, x ∈ (rowsP ps).flatten
  len : (encPs ps).length ≤ 3 + 6 * (rowsP ps).flatten.length + 8 * c
theorem Loose.start {p : List Int} {R : List (List Int)} {k : Nat} (h : k ≤ 3) : Loose p R [] (blk k) 0 := by
  refine ⟨fineP_blk k, ?_, ?_, ?_, (fun _ h => by cases h), ?_⟩
  · rw [rowsP_blk]
    exact fun _ h => by cases h
  · rw [rowsP_blk]
    exact List.nodup_nil
  · rw [rowsP_blk]
    exact fun _ h => by cases h
  · rw [encPs_blk, List.length_replicate]
    omega
theorem Loose.skip {p : List Int} {R : List (List Int)} {js : List Int} {ps : List Pc} {c : Nat} {j : Int} {r : List Int} (L : Loose p R js ps c) (hr : R[j.toNat]? = some r) (h : ¬ 1 < r.length) : Loose p R (js ++ [j]) ps c := by
  refine ⟨L.fine, L.tn, L.nd, fun x hx => ?_, fun i hi s hs h1 => ?_, L.len⟩
  · obtain ⟨i, hi, z⟩ := L.src x hx
    exact ⟨i, List.mem_append_left _ hi, z⟩
  · rcases List.mem_append.mp hi with z | z
    · exact L.cov i z s hs h1
    · rw [List.mem_singleton.mp z, hr] at hs
      cases hs
      exact absurd h1 h
theorem Loose.gap {p : List Int} {R : List (List Int)} {js : List Int} {ps : List Pc} {c k1 k2 : Nat} (L : Loose p R js ps c) (h1 : k1 ≤ 3) (h2 : k2 ≤ 3) : Loose p R js (ps ++ (.cyc (sps k1) :: blk k2)) (c + 1) := by
  have er : rowsP (ps ++ (.cyc (sps k1) :: blk k2)) = rowsP ps ++ [[]] := by
    rw [rowsP_app]
    show rowsP ps ++ (nums (sps k1) :: rowsP (blk k2)) = _
    rw [nums_sps, rowsP_blk]
  have ef : (rowsP (ps ++ (.cyc (sps k1) :: blk k2))).flatten = (rowsP ps).flatten := by
    rw [er, List.flatten_append]
    exact List.append_nil _
  refine ⟨fineP_app L.fine ⟨by have := fine_sps (b := []) trivial k1; rw [List.append_nil] at this; exact this, fineP_blk k2⟩, ?_, by rw [ef]; exact L.nd, by rw [ef]; exact L.src, by rw [ef]; exact L.cov, ?_⟩
  · rw [er]
    intro r hr
    rcases List.mem_append.mp hr with z | z
    · exact L.tn r z
    · exact .inl (List.mem_singleton.mp z)
  · rw [ef, encPs_app, List.length_append]
    have := L.len
    have e : (encPs (.cyc (sps k1) :: blk k2)).length = k1 + k2 + 2 := by
      show (40 :: (encB (sps k1) ++ [41]) ++ encPs (blk k2)).length = _
      rw [List.length_append, List.length_cons, List.length_append, encB_sps, encPs_blk, List.length_replicate, List.length_replicate]
      show k1 + 1 + 1 + k2 = _
      omega
    omega
theorem rows_apart {R : List (List Int)} (nd : R.flatten.Nodup) {a b : Nat} {r s : List Int} {x : Int} (ha : R[a]? = some r) (hb : R[b]? = some s) (hr : x ∈ r) (hs : x ∈ s) : a = b := by
  have h := (List.pairwise_flatten.mp nd).2
  have la := (List.getElem?_eq_some_iff.mp ha)
  have lb := (List.getElem?_eq_some_iff.mp hb)
  obtain ⟨la, ea⟩ := la
  obtain ⟨lb, eb⟩ := lb
  have P := List.pairwise_iff_getElem.mp h
  rcases Nat.lt_trichotomy a b with z | z | z
  · exact absurd rfl (P a b la lb z x (by rw [ea]; exact hr) x (by rw [eb]; exact hs))
  · exact z
  · exact absurd rfl (P b a lb la z x (by rw [eb]; exact hs) x (by rw [ea]; exact hr))
theorem Loose.row {p : List Int} {R : List (List Int)} {js : List Int} {ps : List Pc} {c : Nat} {j : Int} {r r' : List Int} {b : List Tok} (L : Loose p R js ps c) (nd : R.flatten.Nodup) (hj : ∀ i ∈ js, i.toNat ≠ j.toNat) (hr : R[j.toNat]? = some r)
    (pm : r'.Perm r) (T : Turn p r') (hn : nums b = r') (hF : Fine b) (hl : (encB b).length ≤ 6 + 6 * r.length) : Loose p R (js ++ [j]) (ps ++ [.cyc b]) (c + 1) := by
  have er : rowsP (ps ++ [.cyc b]) = rowsP ps ++ [r'] := by
    rw [rowsP_app]
    show rowsP ps ++ [nums b] = _
    rw [hn]
  have ef : (rowsP (ps ++ [.cyc b])).flatten = (rowsP ps).flatten ++ r' := by
    rw [er, List.flatten_append, List.flatten_cons, List.flatten_nil, List.append_nil]
  refine ⟨fineP_app L.fine ⟨hF, trivial⟩, ?_, ?_, ?_, ?_, ?_⟩
  · rw [er]
    intro s hs
    rcases List.mem_append.mp hs with z | z
    · exact L.tn s z
    · rw [List.mem_singleton.mp z]
      exact .inr T
  · rw [ef]
    have ndr := (List.pairwise_flatten.mp nd).1 r (List.mem_of_getElem? hr)
    refine List.nodup_append.mpr ⟨L.nd, pm.nodup_iff.mpr ndr, fun x hx y hy e => ?_⟩
    subst e
    obtain ⟨i, hi, s, hs, hm⟩ := L.src x hx
    exact hj i hi (rows_apart nd hs hr hm (pm.mem_iff.mp hy))
  · rw [ef]
    intro x hx
    rcases List.mem_append.mp hx with z | z
    · obtain ⟨i, hi, w⟩ := L.src x z
      exact ⟨i, List.mem_append_left _ hi, w⟩
    · exact ⟨j, List.mem_append_right _ (List.mem_cons_self ..), r, hr, pm.mem_iff.mp z⟩
  · rw [ef]
    intro i hi s hs h1 x hx
    rcases List.mem_append.mp hi with z | z
    · exact List.mem_append_left _ (L.cov i z s hs h1 x hx)
    · rw [List.mem_singleton.mp z, hr] at hs
      cases hs
      exact List.mem_append_right _ (pm.mem_iff.mpr hx)
  · rw [ef, encPs_app, List.length_append, List.length_append]
    have := L.len
    have e : (encPs [.cyc b]).length = (encB b).length + 2 := by
      show (40 :: (encB b ++ [41]) ++ []).length = _
      rw [List.append_nil, List.length_cons, List.length_append]
      rfl
    have el := pm.length_eq
    omega
theorem Loose.done {n : Nat} {p : List Int} {R : List (List Int)} {js : List Int} {ps : List Pc} {c : Nat} (L : Loose p R js ps c) (hp : IsPm n p) (F : Full n p R) (hj : IsPm R.length js) : FromRows n p (rowsP ps) := by
  refine F.from hp L.tn L.nd (fun x hx => ?_) fun r hr h1 x hx => ?_
  · obtain ⟨j, _, r, hr, hm⟩ := L.src x hx
    exact List.mem_flatten.mpr ⟨r, List.mem_of_getElem? hr, hm⟩
  · obtain ⟨k, hk, e⟩ := List.getElem_of_mem hr
    obtain ⟨i, hi, ei⟩ := hj.onto hk
    exact L.cov (k : Int) (List.mem_of_getElem? ei) r (by rw [show ((k : Nat) : Int).toNat = k by omega, List.getElem?_eq_getElem hk, e]) h1 x hx
theorem Loose.short {n : Nat} {p : List Int} {R : List (List Int)} {js : List Int} {ps : List Pc} {c : Nat} (L : Loose p R js ps c) (F : Full n p R) (hn : n ≤ 12) (hc : c ≤ 24) : (encPs ps).length ≤ 267 := by
  have h := bd_len (n := n) L.nd fun x hx => by
    obtain ⟨j, _, r, hr, hm⟩ := L.src x hx
    exact F.cyc.bd x (List.mem_flatten.mpr ⟨r, List.mem_of_getElem? hr, hm⟩)
  have := L.len
  omega
theorem no_close : ∀ ps : List Pc, rowsP ps = [] → 41 ∉ encPs ps
  | [], _, h => by cases h
  | .sp :: r, e, h => by
    have h : 41 ∈ 32 :: encPs r := h
    rcases List.mem_cons.mp h with z | z
    · cases z
    · exact no_close r e z
  | .cyc b :: r, e, _ => by cases e
theorem chain_in {n : Nat} {p : List Int} {R : List (List Int)} {first pt : Int} {L : List Int} (hp : IsPm n p) (C : Cyc n p R) (c : Chain p first L pt) (nd : (R.flatten ++ L).Nodup) (hb : ∀ x ∈ L, 0 ≤ x ∧ x < n) (hf : first ∉ R.flatten) (hm : pt ∈ R.flatten) : pt ∈ L := by
  have T := c.close hp C nd hb hf (List.mem_append_left _ hm)
  have h0 : L.length - 1 < L.length := by have := T.ne; omega
  have hx := List.getElem?_eq_getElem h0
  have a := T.st _ _ hx
  have b := c.st _ _ hx
  rw [show L.length - 1 + 1 = L.length by have := T.ne; omega] at a b
  rw [List.getElem?_append_right (Nat.le_refl _), Nat.sub_self] at b
  rw [b, Nat.mod_self] at a
  exact List.mem_of_getElem? a.symm
theorem cut_drop {xs : List V} {k : Nat} (h : k ≤ xs.length) : cutV xs (some (k : Int)) none = xs.drop k := by
  unfold cutV
  rw [HT.sIx_none, HT.sIx_nat, Nat.min_eq_left h]
  exact List.take_of_length_le (by rw [List.length_drop]; exact Nat.le_refl _)
theorem encPs_len {k : Nat} : ∀ ps : List Pc, (∀ q ∈ ps, (encP q).length ≤ k) → (encPs ps).length ≤ k * ps.length
  | [], _ => Nat.zero_le _
  | q :: ps, h => by
    have a := h q (List.mem_cons_self ..)
    have b := encPs_len ps fun y hy => h y (List.mem_cons_of_mem _ hy)
    show (encP q ++ encPs ps).length ≤ k * (ps.length + 1)
    rw [List.length_append, Nat.mul_succ]
    omega
theorem pcs_len {R : List (List Int)} (l12 : R.length ≤ 12) (h : ∀ r ∈ R, r.length ≤ 12) : (encPs (pcs R)).length ≤ 456 := by
  unfold pcs
  split
  · show 2 ≤ 456
    omega
  · have a := encPs_len (k := 38) ((bigs R).map fun r => Pc.cyc (wrS 1 r)) fun q hq => by
      obtain ⟨r, hr, rfl⟩ := List.mem_map.mp hq
      have b := encB_len 1 r
      have c := h r (List.mem_filter.mp hr).1
      show (40 :: (encB (wrS 1 r) ++ [41])).length ≤ 38
      rw [List.length_cons, List.length_append]
      show (encB (wrS 1 r)).length + 1 + 1 ≤ 38
      omega
    rw [List.length_map] at a
    have b : (bigs R).length ≤ R.length := List.length_filter_le ..
    omega
theorem encB_low : ∀ b : List Tok, Fine b → ∀ c ∈ encB b, c < 128
  | [], _, c, h => by cases h
  | .sp :: b, f, c, h => by
    have h : c ∈ 32 :: encB b := h
    rcases List.mem_cons.mp h with z | z
    · omega
    · exact encB_low b f c z
  | .num n :: b, f, c, h => by
    have h : c ∈ digs n ++ encB b := h
    have f : n < 12 ∧ (∀ m s, b ≠ .num m :: s) ∧ Fine b := f
    rcases List.mem_append.mp h with z | z
    · have d := digs_dig (n := n) (by omega) c z
      unfold isDig at d
      rw [Bool.and_eq_true, decide_eq_true_iff, decide_eq_true_iff] at d
      omega
    · exact encB_low b f.2.2 c z
theorem encPs_low : ∀ ps : List Pc, FineP ps → ∀ c ∈ encPs ps, c < 128
  | [], _, c, h => by cases h
  | .sp :: b, f, c, h => by
    have h : c ∈ 32 :: encPs b := h
    rcases List.mem_cons.mp h with z | z
    · omega
    · exact encPs_low b f c z
  | .cyc k :: b, f, c, h => by
    have h : c ∈ (40 :: (encB k ++ [41])) ++ encPs b := h
    have f : Fine k ∧ FineP b := f
    rcases List.mem_append.mp h with z | z
    · rcases List.mem_cons.mp z with z | z
      · omega
      · rcases List.mem_append.mp z with z | z
        · exact encB_low k f.1 c z
        · rw [List.mem_singleton.mp z]
          omega
    · exact encPs_low b f.2 c z
theorem IsPm.run {m : Nat} {p : List Int} (h : IsPm m p) : ∀ k, IsPm (m + k) (p ++ (List.range k).map fun i => (m : Int) + (i : Nat))
  | 0 => by
    show IsPm m (p ++ [])
    rw [List.append_nil]
    exact h
  | k + 1 => by
    have a := (IsPm.run h k).snoc
    rw [List.range_succ, List.map_append, ← List.append_assoc]
    have e : ((m + k : Nat) : Int) = (m : Int) + (k : Nat) := by omega
    rw [e] at a
    exact a
theorem rg_run {m n : Nat} (h : m ≤ n) : rgV m n = ((List.range (n - m)).map fun i => (m : Int) + (i : Nat)).map V.int := by
  unfold rgV
  rw [List.map_map, show ((n : Int) - (m : Int)).toNat = n - m by omega]
  rfl
theorem shaped_str {x : Str} (h : ∀ c ∈ cp x, c < 128) : SeqAt.shaped (.str x) = true := by
  have a : PyData.canLay0 (.str x) = true := by
    show x.cps.all (· < 0x110000) = true
    rw [← Array.all_toList]
    exact List.all_eq_true.mpr fun c hc => decide_eq_true (by have := h c hc; omega)
  unfold SeqAt.shaped
  rw [a]
  rfl
theorem canAll_strs : ∀ ws : List Str, (∀ x ∈ ws, ∀ c ∈ cp x, c < 128) → PyData.canLayAll0 (ws.map PyData.str) = true
  | [], _ => rfl
  | x :: ws, h => by
    have a := SeqAt.canLay_of_shaped (shaped_str (h x (List.mem_cons_self ..)))
    show (PyData.canLay0 (.str x) && PyData.canLayAll0 (ws.map PyData.str)) = true
    rw [a, canAll_strs ws fun y hy => h y (List.mem_cons_of_mem _ hy)]
    rfl
theorem depth_strs : ∀ ws : List Str, PyData.depthAll (ws.map PyData.str) = 0
  | [] => rfl
  | x :: ws => by
    show max (PyData.depth (.str x)) (PyData.depthAll (ws.map PyData.str)) = 0
    rw [depth_strs ws]
    rfl
theorem shaped_strs {ws : List Str} (h : ∀ x ∈ ws, ∀ c ∈ cp x, c < 128) : SeqAt.shaped (.list (ws.map PyData.str)) = true := by
  unfold SeqAt.shaped
  rw [Bool.and_eq_true]
  refine ⟨canAll_strs ws h, decide_eq_true ?_⟩
  show PyData.depthAll (ws.map PyData.str) + 1 ≤ 64
  rw [depth_strs]
  omega
theorem eqv_nil : ∀ ws : List Str, PyData.eqv (.list (ws.map PyData.str)) (.list []) = ws.isEmpty
  | [] => rfl
  | x :: ws => rfl
theorem dp_strs {K : PySem.W.Frag} {H : Hp} : ∀ ws : List Str, DpAll K H (ws.map V.str) (ws.map PyData.str)
  | [] => .nil
  | x :: r => .cons (.str x) (dp_strs r)
/-! ### promises -/
def spWriteCycle : Sp := fun vs H Q _ => ∃ (a : Addr) (r : List Int), vs = [.ref a] ∧ H a = some (.tup (r.map V.int)) ∧ r.length ≤ 12 ∧ (∀ x ∈ r, 0 ≤ x ∧ x < 12) ∧ ∀ H', Ex H H' → Q (.str (ofL (40 :: (encB (wrS 1 r) ++ [41])))) H'
def spWrite (K : PySem.W.Frag) : Sp := fun vs H Q _ => ∃ (a : Addr) (n : Nat) (p : List Int), vs = [.ref a] ∧ Pm H a n p ∧ 1 ≤ n ∧ n ≤ 12 ∧ TabG H (PP K) ∧ ∀ R H', Ex H H' → Full n p R → Q (.str (ofL (encPs (pcs R)))) H'
def spLawCycles : Sp := fun vs H Q _ => ∃ (a : Addr) (n : Nat) (p : List Int), vs = [.ref a] ∧ Pm H a n p ∧ n ≤ 12 ∧ ∀ c As R H', Ex H H' → H' c = some (.lst (As.map V.ref)) → ListsAt H' As R → Full n p R → Q (.ref c) H'
def spLawGap (K : PySem.W.Frag) : Sp := fun vs H Q _ => ∃ (r s : Addr) (ns : List Int) (least : Nat), vs = [.ref r, .int least] ∧ RowAt H r s ∧ SqL K H s (ns.map V.int) ∧ least ≤ 1 ∧ ∀ (k : Nat) H', Ex H H' → least ≤ k → k ≤ least + 3 → Q (.str (ofL (List.replicate k 32))) H'
def spLawLoose (K : PySem.W.Frag) : Sp := fun vs H Q _ => ∃ (r s c : Addr) (ns : List Int) (As : List Addr) (R : List (List Int)) (n : Nat) (p : List Int), vs = [.ref r, .ref c] ∧ RowAt H r s ∧ SqL K H s (ns.map V.int) ∧ H c = some (.lst (As.map V.ref)) ∧ ListsAt H As R ∧ IsPm n p ∧ Full n p R ∧ 1 ≤ n ∧ n ≤ 12 ∧
  ∀ (t : Str) (ps : List Pc) H', Ex H H' → cp t = encPs ps → t.length ≤ 1000 → FineP ps → rowsP ps ≠ [] → FromRows n p (rowsP ps) → Q (.str t) H'
def spPickR (K : PySem.W.Frag) : Sp := fun vs H Q _ => ∃ (r s t : Addr) (ns : List Int) (ts : List Addr), vs = [.ref r, .ref t] ∧ RowAt H r s ∧ SqL K H s (ns.map V.int) ∧ H t = some (.lst (ts.map V.ref)) ∧ 1 ≤ ts.length ∧ ts.length ≤ 1000 ∧ ∀ (a : Addr) H', Ex H H' → a ∈ ts → Q (.ref a) H'
def spLawPerm0 (K : PySem.W.Frag) : Sp := fun vs H Q _ => ∃ (r s : Addr) (n : Nat) (ns : List Int), vs = [.ref r, .int n] ∧ RowAt H r s ∧ SqL K H s (ns.map V.int) ∧ n ≤ 1000 ∧ ∀ a H' p, Ex H H' → Pm H' a n p → Q (.ref a) H'
theorem tyx_str {K : PySem.W.Frag} {H : Hp} (x : Str) : TyX K H (.str x) (.type "str") := .base (.str x)
def spAlikeS : Sp := fun vs H Q _ => ∃ x y : Str, vs = [.str x, .str y] ∧ (∀ c ∈ cp x, c < 128) ∧ (∀ c ∈ cp y, c < 128) ∧ x.length ≤ 1000 ∧ y.length ≤ 1000 ∧ ∀ H', Ex H H' → Q (.bl (decide (x = y))) H'
end KL
/-! greatest powers, roots -/
namespace KL
open PySem PySem.Spec PyProof.Rows L2 GA GxR
def sqs (q j : Nat) : List Int := (List.range (j + 1)).map fun i => ((q ^ 2 ^ i : Nat) : Int)
theorem sqs_more (q j : Nat) : sqs q (j + 1) = sqs q j ++ [((q ^ 2 ^ (j + 1) : Nat) : Int)] := by
  unfold sqs
  rw [List.range_succ, List.map_append]
  rfl
theorem sqs_len (q j : Nat) : (sqs q j).length = j + 1 := by
  unfold sqs
  rw [List.length_map, List.length_range]
theorem sqs_get {q j i : Nat} (h : i ≤ j) : (sqs q j)[i]? = some ((q ^ 2 ^ i : Nat) : Int) := by
  unfold sqs
  rw [List.getElem?_map, List.getElem?_range (by omega)]
  rfl
theorem sq_mul (q j : Nat) : q ^ 2 ^ j * q ^ 2 ^ j = q ^ 2 ^ (j + 1) := by
  rw [← Nat.pow_add, Nat.pow_succ]
  congr 1
  omega
/-- the squares that divide are few -/
theorem sq_few {q n j : Nat} (hq : 2 ≤ q) (hs : ∀ k, q ^ k ∣ n → q ^ k ≤ 4000) (h : q ^ 2 ^ j ∣ n) : j < 4 := by
  have a := hs _ h
  have b : 2 ^ 2 ^ j ≤ q ^ 2 ^ j := Nat.pow_le_pow_left hq _
  have c : 2 ^ j < 12 := (Nat.pow_lt_pow_iff_right (by omega : 1 < 2)).mp (show 2 ^ 2 ^ j < 2 ^ 12 by omega)
  exact (Nat.pow_lt_pow_iff_right (by omega : 1 < 2)).mp (show 2 ^ j < 2 ^ 4 by omega)
theorem sq_step {s x : Nat} (hs : 0 < s) (h : s ∣ x) (n : ¬ s * s ∣ x) : ¬ s ∣ x / s := fun z => by
  obtain ⟨y, rfl⟩ := h
  rw [Nat.mul_div_cancel_left _ hs] at z
  exact n (Nat.mul_dvd_mul_left s z)
theorem great_end {q x k : Nat} (hq : 2 ≤ q) (h : ¬ q ∣ x) : q ^ k ∣ x * q ^ k ∧ ¬ q ^ (k + 1) ∣ x * q ^ k := by
  refine ⟨Nat.dvd_mul_left _ _, fun z => h ?_⟩
  rw [Nat.pow_succ, Nat.mul_comm x] at z
  exact Nat.dvd_of_mul_dvd_mul_left (Nat.pow_pos (by omega)) z
theorem mod_dvd {a b : Nat} : decide (((a : Nat) : Int) % ((b : Nat) : Int) = 0) = decide (b ∣ a) := by
  rw [decide_eq_decide, ← Int.natCast_emod]
  constructor
  · intro h
    exact Nat.dvd_of_mod_eq_zero (by omega)
  · intro h
    rw [Nat.mod_eq_zero_of_dvd h]
    rfl
def spGreatest : Sp := fun vs H Q _ => ∃ q n : Nat, vs = [.int q, .int n] ∧ 2 ≤ q ∧ q ≤ 11 ∧ 1 ≤ n ∧ (∀ k, q ^ k ∣ n → q ^ k ≤ 4000) ∧ ∀ (k : Nat) H', Ex H H' → q ^ k ∣ n → ¬ q ^ (k + 1) ∣ n → Q (.int ((q ^ k : Nat) : Int)) H'
def spRingL : Sp := fun vs H Q _ => ∃ (a : Addr) (n : Nat) (p : List Int) (x : Int), vs = [.ref a, .int x] ∧ Pm H a n p ∧ n ≤ 12 ∧ 0 ≤ x ∧ x < n ∧ ∀ (c : Addr) (H' : Hp) (r : List Int), Ex H H' → Turn p r → r.Nodup → r[0]? = some x → (∀ y ∈ r, 0 ≤ y ∧ y < n) → H' c = some (.lst (r.map V.int)) → Q (.ref c) H'
def spLawPowerN : Sp := fun vs H Q _ => ∃ (a : Addr) (n : Nat) (p : List Int) (e : Nat), vs = [.ref a, .int e] ∧ Pm H a n p ∧ n ≤ 12 ∧ ∀ c H', Ex H H' → Pm H' c n (pwL n p e) → Q (.ref c) H'
def spFromCyclesT : Sp := fun vs H Q _ => ∃ (a : Addr) (n : Nat) (p : List Int) (As : List Addr) (Rs : List (List Int)), vs = [.int n, .ref a] ∧ H a = some (.lst (As.map V.ref)) ∧ RowsAt H As Rs ∧ FromRows n p Rs ∧ n ≤ 12 ∧ Rs.length ≤ 1000 ∧ ∀ c H', Ex H H' → Pm H' c n p → Q (.ref c) H'
end KL
/-! roots: the mathematics -/
namespace KL
open PySem PySem.Spec PyProof.Rows L2 GA GxR
/-! ### the divisor of a length and an exponent -/
def gpN (q : Nat) : Nat → Nat → Nat
  | 0, _ => 1
  | f + 1, e => if e % q = 0 then q * gpN q f (e / q) else 1
theorem gpN_pow {q : Nat} (hq : 2 ≤ q) : ∀ (f e k : Nat), q ^ k ∣ e → ¬ q ^ (k + 1) ∣ e → k ≤ f → gpN q f e = q ^ k
  | 0, e, k, _, _, hk => by
    have : k = 0 := by omega
    subst this
    rfl
  | f + 1, e, 0, _, h2, _ => by
    unfold gpN
    rw [if_neg (fun h => h2 (by rw [Nat.zero_add, Nat.pow_one]; exact Nat.dvd_of_mod_eq_zero h))]
    rfl
  | f + 1, e, k + 1, h1, h2, hk => by
    have hd : q ∣ e := Nat.dvd_trans ⟨q ^ k, by rw [Nat.pow_succ, Nat.mul_comm]⟩ h1
    obtain ⟨y, rfl⟩ := hd
    have q0 : 0 < q := by omega
    unfold gpN
    rw [if_pos (Nat.mul_mod_right _ _), Nat.mul_div_cancel_left _ q0, gpN_pow hq f y k ?_ ?_ (by omega), Nat.pow_succ, Nat.mul_comm]
    · rw [Nat.pow_succ, Nat.mul_comm] at h1
      exact Nat.dvd_of_mul_dvd_mul_left q0 h1
    · intro z
      refine h2 ?_
      rw [Nat.pow_succ q (k + 1), Nat.mul_comm]
      exact Nat.mul_dvd_mul_left q z
/-- an exponent with few small factors -/
structure EOk (e : Nat) : Prop where
  pos : 1 ≤ e
  sm : ∀ q, 2 ≤ q → q ≤ 11 → ∀ k, q ^ k ∣ e → q ^ k ≤ 4000
theorem EOk.k11 {e q k : Nat} (h : EOk e) (h2 : 2 ≤ q) (h11 : q ≤ 11) (hk : q ^ k ∣ e) : k ≤ 11 := by
  have a := h.sm q h2 h11 k hk
  have b : 2 ^ k ≤ q ^ k := Nat.pow_le_pow_left h2 _
  have c : k < 12 := (Nat.pow_lt_pow_iff_right (by omega : 1 < 2)).mp (show 2 ^ k < 2 ^ 12 by omega)
  omega
theorem EOk.max {e q : Nat} (h : EOk e) (h2 : 2 ≤ q) (h11 : q ≤ 11) : ∃ k, q ^ k ∣ e ∧ ¬ q ^ (k + 1) ∣ e ∧ k ≤ 11 := by
  apply Classical.byContradiction
  intro hn
  have all : ∀ k, q ^ k ∣ e := by
    intro k
    induction k with
    | zero => rw [Nat.pow_zero]; exact Nat.one_dvd _
    | succ k ih =>
      apply Classical.byContradiction
      intro z
      exact hn ⟨k, ih, z, h.k11 h2 h11 ih⟩
  have := h.k11 h2 h11 (all 12)
  omega
def prs : List Nat := [2, 3, 5, 7, 11]
def dvP (ps : List Nat) (l e : Nat) : Nat := ps.foldl (fun d q => if l % q = 0 then d * gpN q 12 e else d) 1
def dvN (l e : Nat) : Nat := dvP prs l e
theorem dvP_snoc (ps : List Nat) (q l e : Nat) : dvP (ps ++ [q]) l e = if l % q = 0 then dvP ps l e * gpN q 12 e else dvP ps l e := by
  unfold dvP
  rw [List.foldl_append]
  rfl
theorem pow_dvd {a b : Nat} (h : a ∣ b) (n : Nat) : a ^ n ∣ b ^ n := by
  obtain ⟨c, rfl⟩ := h
  exact ⟨c ^ n, Nat.mul_pow _ _ _⟩
/-- what one prime gives -/
theorem EOk.part {e : Nat} (h : EOk e) (l q : Nat) (h2 : 2 ≤ q) (h11 : q ≤ 11) : ∃ k, (if l % q = 0 then gpN q 12 e else 1) = q ^ k ∧ q ^ k ∣ e ∧ (l % q = 0 → ¬ q ^ (k + 1) ∣ e) ∧ q ^ k ∣ l ^ 11 := by
  by_cases c : l % q = 0
  · obtain ⟨k, a, b, d⟩ := h.max h2 h11
    exact ⟨k, by rw [if_pos c, gpN_pow h2 12 e k a b (by omega)], a, fun _ => b, Nat.dvd_trans (Nat.pow_dvd_pow q d) (pow_dvd (Nat.dvd_of_mod_eq_zero c) 11)⟩
  · exact ⟨0, by rw [if_neg c]; rfl, by rw [Nat.pow_zero]; exact Nat.one_dvd _, fun z => absurd z c, by rw [Nat.pow_zero]; exact Nat.one_dvd _⟩
theorem if_mul (c : Prop) [Decidable c] (d x : Nat) : (if c then d * x else d) = d * (if c then x else 1) := by
  by_cases h : c
  · rw [if_pos h, if_pos h]
  · rw [if_neg h, if_neg h, Nat.mul_one]
theorem dvN_parts {e : Nat} (h : EOk e) (l : Nat) : ∃ a b c d f, dvN l e = 2 ^ a * 3 ^ b * 5 ^ c * 7 ^ d * 11 ^ f ∧ (2 ^ a ∣ e ∧ (l % 2 = 0 → ¬ 2 ^ (a + 1) ∣ e) ∧ 2 ^ a ∣ l ^ 11) ∧ (3 ^ b ∣ e ∧ (l % 3 = 0 → ¬ 3 ^ (b + 1) ∣ e) ∧ 3 ^ b ∣ l ^ 11) ∧ (5 ^ c ∣ e ∧ (l % 5 = 0 → ¬ 5 ^ (c + 1) ∣ e) ∧ 5 ^ c ∣ l ^ 11) ∧ (7 ^ d ∣ e ∧ (l % 7 = 0 → ¬ 7 ^ (d + 1) ∣ e) ∧ 7 ^ d ∣ l ^ 11) ∧ (11 ^ f ∣ e ∧ (l % 11 = 0 → ¬ 11 ^ (f + 1) ∣ e) ∧ 11 ^ f ∣ l ^ 11) := by
  obtain ⟨a, a1, a2, a3, a4⟩ := h.part l 2 (by omega) (by omega)
  obtain ⟨b, b1, b2, b3, b4⟩ := h.part l 3 (by omega) (by omega)
  obtain ⟨c, c1, c2, c3, c4⟩ := h.part l 5 (by omega) (by omega)
  obtain ⟨d, d1, d2, d3, d4⟩ := h.part l 7 (by omega) (by omega)
  obtain ⟨f, f1, f2, f3, f4⟩ := h.part l 11 (by omega) (by omega)
  refine ⟨a, b, c, d, f, ?_, ⟨a2, a3, a4⟩, ⟨b2, b3, b4⟩, ⟨c2, c3, c4⟩, ⟨d2, d3, d4⟩, ⟨f2, f3, f4⟩⟩
  unfold dvN dvP prs
  simp only [List.foldl_cons, List.foldl_nil, if_mul, a1, b1, c1, d1, f1, Nat.one_mul]
theorem cop {p q : Nat} (h : Nat.Coprime p q) (a b : Nat) : Nat.Coprime (p ^ a) (q ^ b) := Nat.Coprime.pow a b h
theorem five_dvd {a b c d f X : Nat} (a2 : 2 ^ a ∣ X) (b2 : 3 ^ b ∣ X) (c2 : 5 ^ c ∣ X) (d2 : 7 ^ d ∣ X) (f2 : 11 ^ f ∣ X) : 2 ^ a * 3 ^ b * 5 ^ c * 7 ^ d * 11 ^ f ∣ X := by
  have h23 := cop (show Nat.Coprime 2 3 by decide) a b
  have h25 := cop (show Nat.Coprime 2 5 by decide) a c
  have h27 := cop (show Nat.Coprime 2 7 by decide) a d
  have h2b := cop (show Nat.Coprime 2 11 by decide) a f
  have h35 := cop (show Nat.Coprime 3 5 by decide) b c
  have h37 := cop (show Nat.Coprime 3 7 by decide) b d
  have h3b := cop (show Nat.Coprime 3 11 by decide) b f
  have h57 := cop (show Nat.Coprime 5 7 by decide) c d
  have h5b := cop (show Nat.Coprime 5 11 by decide) c f
  have h7b := cop (show Nat.Coprime 7 11 by decide) d f
  have k1 := Nat.Coprime.mul_dvd_of_dvd_of_dvd h23 a2 b2
  have c1 := Nat.Coprime.mul_left h25 h35
  have k2 := Nat.Coprime.mul_dvd_of_dvd_of_dvd c1 k1 c2
  have c2' := Nat.Coprime.mul_left (Nat.Coprime.mul_left h27 h37) h57
  have k3 := Nat.Coprime.mul_dvd_of_dvd_of_dvd c2' k2 d2
  have c3' := Nat.Coprime.mul_left (Nat.Coprime.mul_left (Nat.Coprime.mul_left h2b h3b) h5b) h7b
  exact Nat.Coprime.mul_dvd_of_dvd_of_dvd c3' k3 f2
theorem dvN_dvd {e : Nat} (h : EOk e) (l : Nat) : dvN l e ∣ e := by
  obtain ⟨a, b, c, d, f, ed, ⟨a2, _⟩, ⟨b2, _⟩, ⟨c2, _⟩, ⟨d2, _⟩, ⟨f2, _⟩⟩ := dvN_parts h l
  rw [ed]
  exact five_dvd a2 b2 c2 d2 f2
theorem dvN_pow {e : Nat} (h : EOk e) (l : Nat) : dvN l e ∣ l ^ 11 := by
  obtain ⟨a, b, c, d, f, ed, ⟨_, _, a2⟩, ⟨_, _, b2⟩, ⟨_, _, c2⟩, ⟨_, _, d2⟩, ⟨_, _, f2⟩⟩ := dvN_parts h l
  rw [ed]
  exact five_dvd a2 b2 c2 d2 f2
theorem dvN_pos {e : Nat} (h : EOk e) (l : Nat) : 0 < dvN l e := Nat.pos_of_dvd_of_pos (dvN_dvd h l) h.pos
theorem small_div : ∀ g, g < 13 → g ≠ 1 → g ≠ 0 → ∃ q, (q = 2 ∨ q = 3 ∨ q = 5 ∨ q = 7 ∨ q = 11) ∧ g % q = 0 := by
  intro g h1 h2 h3
  have z : g = 2 ∨ g = 3 ∨ g = 4 ∨ g = 5 ∨ g = 6 ∨ g = 7 ∨ g = 8 ∨ g = 9 ∨ g = 10 ∨ g = 11 ∨ g = 12 := by omega
  rcases z with rfl | rfl | rfl | rfl | rfl | rfl | rfl | rfl | rfl | rfl | rfl
  · exact ⟨2, .inl rfl, rfl⟩
  · exact ⟨3, .inr (.inl rfl), rfl⟩
  · exact ⟨2, .inl rfl, rfl⟩
  · exact ⟨5, .inr (.inr (.inl rfl)), rfl⟩
  · exact ⟨2, .inl rfl, rfl⟩
  · exact ⟨7, .inr (.inr (.inr (.inl rfl))), rfl⟩
  · exact ⟨2, .inl rfl, rfl⟩
  · exact ⟨3, .inr (.inl rfl), rfl⟩
  · exact ⟨2, .inl rfl, rfl⟩
  · exact ⟨11, .inr (.inr (.inr (.inr rfl))), rfl⟩
  · exact ⟨2, .inl rfl, rfl⟩
/-- what is left of the exponent has no factor with the length in common -/
theorem dvN_cop {e l x : Nat} (h : EOk e) (h1 : 1 ≤ l) (h12 : l ≤ 12) (hx : e = dvN l e * x) : Nat.Coprime x l := by
  apply Classical.byContradiction
  intro hn
  have hg : Nat.gcd x l ≠ 1 := hn
  have gl : Nat.gcd x l ∣ l := Nat.gcd_dvd_right _ _
  have gx : Nat.gcd x l ∣ x := Nat.gcd_dvd_left _ _
  have g13 : Nat.gcd x l < 13 := by have := Nat.le_of_dvd (by omega) gl; omega
  have g0 : Nat.gcd x l ≠ 0 := fun z => by
    have := Nat.eq_zero_of_gcd_eq_zero_right z
    omega
  obtain ⟨q, hq, hm⟩ := small_div _ g13 hg g0
  have qg : q ∣ Nat.gcd x l := Nat.dvd_of_mod_eq_zero hm
  have ql : l % q = 0 := Nat.mod_eq_zero_of_dvd (Nat.dvd_trans qg gl)
  obtain ⟨y, hy⟩ := Nat.dvd_trans qg gx
  obtain ⟨a, b, c, d, f, ed, ⟨_, a3, _⟩, ⟨_, b3, _⟩, ⟨_, c3, _⟩, ⟨_, d3, _⟩, ⟨_, f3, _⟩⟩ := dvN_parts h l
  have key : ∀ k m, dvN l e = q ^ k * m → q ^ (k + 1) ∣ e := fun k m em => by
    rw [hx, em, hy]
    exact ⟨m * y, by rw [Nat.pow_succ]; simp only [Nat.mul_assoc, Nat.mul_comm, Nat.mul_left_comm]⟩
  rcases hq with rfl | rfl | rfl | rfl | rfl
  · exact a3 ql (key a (3 ^ b * 5 ^ c * 7 ^ d * 11 ^ f) (by rw [ed]; simp only [Nat.mul_assoc, Nat.mul_comm, Nat.mul_left_comm]))
  · exact b3 ql (key b (2 ^ a * 5 ^ c * 7 ^ d * 11 ^ f) (by rw [ed]; simp only [Nat.mul_assoc, Nat.mul_comm, Nat.mul_left_comm]))
  · exact c3 ql (key c (2 ^ a * 3 ^ b * 7 ^ d * 11 ^ f) (by rw [ed]; simp only [Nat.mul_assoc, Nat.mul_comm, Nat.mul_left_comm]))
  · exact d3 ql (key d (2 ^ a * 3 ^ b * 5 ^ c * 11 ^ f) (by rw [ed]; simp only [Nat.mul_assoc, Nat.mul_comm, Nat.mul_left_comm]))
  · exact f3 ql (key f (2 ^ a * 3 ^ b * 5 ^ c * 7 ^ d) (by rw [ed]; simp only [Nat.mul_assoc, Nat.mul_comm, Nat.mul_left_comm]))
/-- it divides what the exponent has in common with a cycle of which such ones come -/
theorem dvN_gcd {e l L : Nat} (h : EOk e) (h1 : 1 ≤ l) (h12 : l ≤ 12) (hL : L = l * Nat.gcd L e) : dvN l e ∣ Nat.gcd L e := by
  obtain ⟨x, hx⟩ := dvN_dvd h l
  have hc := dvN_cop h h1 h12 hx
  have D0 := dvN_pos h l
  have G0 : 0 < Nat.gcd L e := Nat.gcd_pos_of_pos_right _ h.pos
  have g0 : 0 < Nat.gcd (dvN l e) (Nat.gcd L e) := Nat.gcd_pos_of_pos_left _ D0
  obtain ⟨D', G', cop', eD, eG⟩ : ∃ D' G', Nat.Coprime D' G' ∧ dvN l e = Nat.gcd (dvN l e) (Nat.gcd L e) * D' ∧ Nat.gcd L e = Nat.gcd (dvN l e) (Nat.gcd L e) * G' := by
    refine ⟨dvN l e / Nat.gcd (dvN l e) (Nat.gcd L e), Nat.gcd L e / Nat.gcd (dvN l e) (Nat.gcd L e), Nat.coprime_div_gcd_div_gcd g0, ?_, ?_⟩
    · rw [Nat.mul_div_cancel' (Nat.gcd_dvd_left _ _)]
    · rw [Nat.mul_div_cancel' (Nat.gcd_dvd_right _ _)]
  generalize Nat.gcd (dvN l e) (Nat.gcd L e) = d0 at g0 eD eG
  have Ge : Nat.gcd L e ∣ e := Nat.gcd_dvd_right _ _
  have G'x : G' ∣ x := by
    have z : d0 * G' ∣ d0 * (D' * x) := by
      rw [← Nat.mul_assoc, ← eD, ← hx, ← eG]
      exact Ge
    have z2 := Nat.dvd_of_mul_dvd_mul_left g0 z
    exact (Nat.Coprime.symm cop').dvd_of_dvd_mul_left z2
  obtain ⟨y, rfl⟩ := G'x
  have e3 : e = Nat.gcd L e * (D' * y) := by
    conv => lhs; rw [hx, eD]
    conv => rhs; rw [eG]
    simp only [Nat.mul_assoc, Nat.mul_comm, Nat.mul_left_comm]
  have c1 : Nat.Coprime l (D' * y) := by
    have z := Nat.gcd_mul_left (Nat.gcd L e) l (D' * y)
    rw [← e3, Nat.mul_comm, ← hL] at z
    have z2 : Nat.gcd L e * 1 = Nat.gcd L e * Nat.gcd l (D' * y) := by rw [Nat.mul_one]; exact z
    exact (Nat.eq_of_mul_eq_mul_left G0 z2).symm
  have c2 : Nat.Coprime D' l := (Nat.Coprime.coprime_mul_right_right c1).symm
  have d1 : D' ∣ l ^ 11 := Nat.dvd_trans ⟨d0, by rw [eD, Nat.mul_comm]⟩ (dvN_pow h l)
  have c3 : Nat.Coprime D' (l ^ 11) := Nat.Coprime.pow_right 11 c2
  have one : D' = 1 := Nat.Coprime.eq_one_of_dvd c3 d1
  rw [eD, eG, one, Nat.mul_one]
  exact Nat.dvd_mul_right _ _
/-! ### the places of a merged cycle -/
def plc (D l e : Nat) : List Int := (List.range (D * l)).map fun t => (((t / l + t % l * e) % (D * l) : Nat) : Int)
theorem plc_inj {e D l x i j i' j' : Nat} (he : e = D * x) (hc : Nat.Coprime x l) (hD : 0 < D) (hl : 0 < l) (hi : i < D) (hi' : i' < D) (hj : j < l) (hj' : j' < l) (h : (i + j * e) % (D * l) = (i' + j' * e) % (D * l)) : i = i' ∧ j = j' := by
  have a : (i + j * e) % D = (i' + j' * e) % D := by
    have z := congrArg (· % D) h
    simp only [Nat.mod_mul_right_mod] at z
    exact z
  have e1 : ∀ i j : Nat, i < D → (i + j * e) % D = i := fun i j hi => by
    rw [he, ← Nat.mul_assoc, Nat.mul_right_comm, Nat.mul_comm _ D, Nat.add_mul_mod_self_left, Nat.mod_eq_of_lt hi]
  have ei : i = i' := by rw [e1 i j hi, e1 i' j' hi'] at a; exact a
  subst ei
  refine ⟨rfl, ?_⟩
  have key : ∀ j j' : Nat, j ≤ j' → j' < l → (i + j * e) % (D * l) = (i + j' * e) % (D * l) → j = j' := fun j j' hle hj' h => by
    have le1 : i + j * e ≤ i + j' * e := Nat.add_le_add_left (Nat.mul_le_mul_right _ hle) _
    have d := (Nat.sub_mod_eq_zero_of_mod_eq h.symm)
    have e2 : i + j' * e - (i + j * e) = D * (x * (j' - j)) := by
      rw [Nat.add_sub_add_left, ← Nat.sub_mul, he, Nat.mul_comm, Nat.mul_assoc]
    rw [e2] at d
    have d2 := Nat.dvd_of_mod_eq_zero d
    have d3 := Nat.dvd_of_mul_dvd_mul_left hD d2
    have d4 := (Nat.Coprime.symm hc).dvd_of_dvd_mul_left d3
    by_cases z : j' - j = 0
    · omega
    · have := Nat.le_of_dvd (by omega) d4
      omega
  rcases Nat.le_total j j' with z | z
  · exact key j j' z hj' h
  · exact (key j' j z hj h.symm).symm
theorem plc_pm {e D l x : Nat} (he : e = D * x) (hc : Nat.Coprime x l) (hD : 0 < D) (hl : 0 < l) : IsPm (D * l) (plc D l e) := by
  have s0 : 0 < D * l := Nat.mul_pos hD hl
  refine ⟨by unfold plc; rw [List.length_map, List.length_range], ?_, fun y hy => ?_⟩
  · unfold plc
    rw [List.nodup_iff_pairwise_ne, List.pairwise_iff_getElem]
    intro a b ha hb hab z
    rw [List.length_map, List.length_range] at ha hb
    rw [List.getElem_map, List.getElem_map, List.getElem_range, List.getElem_range] at z
    have z := Int.ofNat.inj z
    have q := plc_inj he hc hD hl ((Nat.div_lt_iff_lt_mul hl).mpr ha) ((Nat.div_lt_iff_lt_mul hl).mpr hb) (Nat.mod_lt _ hl) (Nat.mod_lt _ hl) z
    have := Nat.div_add_mod a l
    have := Nat.div_add_mod b l
    rw [q.1, q.2] at *
    omega
  · obtain ⟨t, _, rfl⟩ := List.mem_map.mp hy
    have := Nat.mod_lt (t / l + t % l * e) s0
    omega
theorem plc_get {D l e i j : Nat} (hl : 0 < l) (hi : i < D) (hj : j < l) : (plc D l e)[i * l + j]? = some (((i + j * e) % (D * l) : Nat) : Int) := by
  have lt : i * l + j < D * l := by
    have : (i + 1) * l ≤ D * l := Nat.mul_le_mul_right _ hi
    rw [Nat.succ_mul] at this
    omega
  unfold plc
  rw [List.getElem?_map, List.getElem?_range lt]
  show some ((((i * l + j) / l + (i * l + j) % l * e) % (D * l) : Nat) : Int) = some _
  rw [show (i * l + j) / l = i by rw [Nat.mul_comm, Nat.mul_add_div hl, Nat.div_eq_of_lt hj, Nat.add_zero], show (i * l + j) % l = j by rw [Nat.mul_comm, Nat.mul_add_mod, Nat.mod_eq_of_lt hj]]
/-- L is made of the rows C -/
structure Mg (e : Nat) (C : List (List Int)) (l : Nat) (L : List Int) : Prop where
  l1 : 1 ≤ l
  c1 : 1 ≤ C.length
  row : ∀ r ∈ C, r.length = l
  len : L.length = C.length * l
  per : (l * e) % (C.length * l) = 0
  nd : L.Nodup
  mem : ∀ x, x ∈ L ↔ x ∈ C.flatten
  at_ : ∀ (i : Nat) (r : List Int) (j : Nat) (x : Int), C[i]? = some r → r[j]? = some x → L[(i + j * e) % (C.length * l)]? = some x
theorem flat_row : ∀ {C : List (List Int)} {l : Nat}, (∀ r ∈ C, r.length = l) → C.flatten.length = C.length * l
  | [], _, _ => by rw [List.flatten_nil, List.length_nil, List.length_nil, Nat.zero_mul]
  | r :: C, l, h => by
    rw [List.flatten_cons, List.length_append, flat_row fun x hx => h x (List.mem_cons_of_mem _ hx), h r (List.mem_cons_self ..), List.length_cons, Nat.succ_mul, Nat.add_comm]
theorem flat_ix {C : List (List Int)} {l i j : Nat} {r : List Int} {x : Int} (h : ∀ r ∈ C, r.length = l) (hr : C[i]? = some r) (hx : r[j]? = some x) : C.flatten[i * l + j]? = some x := by
  have z := flat_get hr hx
  rw [flat_row (C := C.take i) (l := l) fun r hr => h r (List.mem_of_mem_take hr), List.length_take, Nat.min_eq_left (Nat.le_of_lt (List.getElem?_eq_some_iff.mp hr).1)] at z
  exact z
theorem mg_of {e l x : Nat} {C : List (List Int)} {L : List Int} (he : e = C.length * x) (hc : Nat.Coprime x l) (c1 : 1 ≤ C.length) (l1 : 1 ≤ l) (row : ∀ r ∈ C, r.length = l) (nd : C.flatten.Nodup)
    (h : Filled (C.length * l) (plc C.length l e) (fun t => C.flatten.getD t 0) (C.length * l) L) : Mg e C l L := by
  have pp := plc_pm he hc c1 l1
  have fl := flat_row row
  have at0 : ∀ t, t < C.length * l → ∃ y : Int, (plc C.length l e)[t]? = some y ∧ 0 ≤ y ∧ y < (C.length * l : Nat) ∧ C.flatten[t]? = some (C.flatten.getD t 0) ∧ L[y.toNat]? = some (C.flatten.getD t 0) := fun t ht => by
    obtain ⟨y, hy, y0, yb⟩ := pp.get ht
    have g : C.flatten[t]? = some (C.flatten[t]'(by omega)) := List.getElem?_eq_getElem (by omega)
    exact ⟨y, hy, y0, yb, by rw [getD_of g]; exact g, h.at_ t y ht hy⟩
  have onto : ∀ k, k < C.length * l → ∃ t, t < C.length * l ∧ (plc C.length l e)[t]? = some (k : Int) := fun k hk => pp.onto hk
  refine ⟨l1, c1, row, h.len, ?_, ?_, fun y => ⟨fun hy => ?_, fun hy => ?_⟩, fun i r j y hr hy => ?_⟩
  · rw [he, show l * (C.length * x) = (C.length * l) * x by simp only [Nat.mul_assoc, Nat.mul_comm, Nat.mul_left_comm]]
    exact Nat.mul_mod_right _ _
  · rw [List.nodup_iff_pairwise_ne, List.pairwise_iff_getElem]
    intro a b ha hb hab z
    obtain ⟨t, ht, et⟩ := onto a (by rw [← h.len]; exact ha)
    obtain ⟨u, hu, eu⟩ := onto b (by rw [← h.len]; exact hb)
    have g1 := h.at_ t _ ht et
    have g2 := h.at_ u _ hu eu
    rw [show ((a : Nat) : Int).toNat = a by omega, List.getElem?_eq_getElem ha] at g1
    rw [show ((b : Nat) : Int).toNat = b by omega, List.getElem?_eq_getElem hb] at g2
    have q1 : C.flatten[t]? = some (C.flatten[t]'(by omega)) := List.getElem?_eq_getElem (by omega)
    have q2 : C.flatten[u]? = some (C.flatten[u]'(by omega)) := List.getElem?_eq_getElem (by omega)
    rw [getD_of q1] at g1
    rw [getD_of q2] at g2
    have q3 : C.flatten[t]'(by omega) = C.flatten[u]'(by omega) := by rw [← Option.some.inj g1, ← Option.some.inj g2, z]
    have q4 := (List.getElem_inj nd).mp q3
    subst q4
    rw [et] at eu
    have := Option.some.inj eu
    omega
  · obtain ⟨k, hk, ek⟩ := List.getElem_of_mem hy
    obtain ⟨t, ht, et⟩ := onto k (by rw [← h.len]; exact hk)
    have g1 := h.at_ t _ ht et
    rw [show ((k : Nat) : Int).toNat = k by omega, List.getElem?_eq_getElem hk, ek] at g1
    have q1 : C.flatten[t]? = some (C.flatten[t]'(by omega)) := List.getElem?_eq_getElem (by omega)
    rw [getD_of q1] at g1
    rw [Option.some.inj g1]
    exact List.getElem_mem _
  · obtain ⟨t, ht, et⟩ := List.getElem_of_mem hy
    obtain ⟨z, hz, z0, zb, gz, gl⟩ := at0 t (by omega)
    have q1 : C.flatten[t]? = some y := by rw [List.getElem?_eq_getElem ht, et]
    rw [getD_of q1] at gl
    exact List.mem_of_getElem? gl
  · have hi := (List.getElem?_eq_some_iff.mp hr).1
    have hj := (List.getElem?_eq_some_iff.mp hy).1
    rw [row r (List.mem_of_getElem? hr)] at hj
    have g := plc_get (e := e) l1 hi hj
    have f := flat_ix row hr hy
    have lt := (List.getElem?_eq_some_iff.mp f).1
    have q := h.at_ _ _ (by omega) g
    rw [getD_of f] at q
    rw [← q]
    congr 1
/-! ### a permutation with given rows -/
theorem same_row {M : List (List Int)} (nd : M.flatten.Nodup) {r s : List Int} {x : Int} (hr : r ∈ M) (hs : s ∈ M) (h1 : x ∈ r) (h2 : x ∈ s) : r = s := by
  induction M with
  | nil => cases hr
  | cons a M ih =>
    rw [List.flatten_cons] at nd
    have q := List.nodup_append.mp nd
    rcases List.mem_cons.mp hr with rfl | hr'
    · rcases List.mem_cons.mp hs with rfl | hs'
      · rfl
      · exact absurd rfl (q.2.2 x h1 x (List.mem_flatten.mpr ⟨s, hs', h2⟩))
    · rcases List.mem_cons.mp hs with rfl | hs'
      · exact absurd rfl (q.2.2 x h2 x (List.mem_flatten.mpr ⟨r, hr', h1⟩))
      · exact ih q.2.1 hr' hs'
def nx (M : List (List Int)) (k : Int) : Int := match M.find? (fun r => decide (k ∈ r)) with
  | some r => r.getD ((r.idxOf k + 1) % r.length) 0
  | none => k
theorem nx_in {M : List (List Int)} (nd : M.flatten.Nodup) {r : List Int} {i : Nat} {x : Int} (hr : r ∈ M) (hx : r[i]? = some x) : nx M x = r.getD ((i + 1) % r.length) 0 := by
  have hm := List.mem_of_getElem? hx
  unfold nx
  cases e : M.find? (fun r => decide (x ∈ r)) with
  | none =>
    have z := List.find?_eq_none.mp e r hr
    exact absurd (decide_eq_true hm) z
  | some s =>
    have h0 : decide (x ∈ s) = true := List.find?_some (p := fun r : List Int => decide (x ∈ r)) e
    have h1 := of_decide_eq_true h0
    have h2 := List.mem_of_find?_eq_some e
    have es := same_row nd h2 hr h1 hm
    subst es
    obtain ⟨hi, ei⟩ := List.getElem?_eq_some_iff.mp hx
    show s.getD ((s.idxOf x + 1) % s.length) 0 = _
    rw [← ei, List.Nodup.idxOf_getElem (nodup_row nd s hr)]
theorem nx_out {M : List (List Int)} {x : Int} (h : x ∉ M.flatten) : nx M x = x := by
  unfold nx
  cases e : M.find? (fun r => decide (x ∈ r)) with
  | none => rfl
  | some s =>
    have h0 : decide (x ∈ s) = true := List.find?_some (p := fun r : List Int => decide (x ∈ r)) e
    have h1 := of_decide_eq_true h0
    exact absurd (List.mem_flatten.mpr ⟨s, List.mem_of_find?_eq_some e, h1⟩) h
theorem rows_pm {n : Nat} {M : List (List Int)} (nd : M.flatten.Nodup) (bd : ∀ x ∈ M.flatten, 0 ≤ x ∧ x < (n : Int)) : ∃ g, FromRows n g M := by
  have get : ∀ x : Int, 0 ≤ x → x < n → ((unitL n).map (nx M))[x.toNat]? = some (nx M x) := fun x h0 h1 => by
    rw [List.getElem?_map, unitL_get (by omega)]
    show some (nx M ((x.toNat : Nat) : Int)) = _
    rw [show ((x.toNat : Nat) : Int) = x by omega]
  have len : ((unitL n).map (nx M)).length = n := by rw [List.length_map]; exact (unit_pm n).len
  have tn : ∀ r ∈ M, r = [] ∨ Turn ((unitL n).map (nx M)) r := fun r hr => by
    cases r with
    | nil => exact .inl rfl
    | cons a t =>
      refine .inr ⟨Nat.succ_pos _, fun i x hx => ?_⟩
      have b := bd x (List.mem_flatten.mpr ⟨_, hr, List.mem_of_getElem? hx⟩)
      have hm : (i + 1) % (a :: t).length < (a :: t).length := Nat.mod_lt _ (Nat.succ_pos _)
      rw [get x b.1 b.2, nx_in nd hr hx, List.getElem?_eq_getElem hm, getD_of (List.getElem?_eq_getElem hm)]
  have fx : ∀ x : Int, 0 ≤ x → x < n → x ∉ M.flatten → ((unitL n).map (nx M))[x.toNat]? = some x := fun x h0 h1 h => by rw [get x h0 h1, nx_out h]
  have bnd : ∀ y ∈ (unitL n).map (nx M), 0 ≤ y ∧ y < (n : Int) := fun y hy => by
    obtain ⟨x, hx, rfl⟩ := List.mem_map.mp hy
    have bx := (unit_pm n).bd x hx
    by_cases c : x ∈ M.flatten
    · obtain ⟨r, hr, hm⟩ := List.mem_flatten.mp c
      obtain ⟨i, hi, ei⟩ := List.getElem_of_mem hm
      have hx2 : r[i]? = some x := by rw [List.getElem?_eq_getElem hi, ei]
      have hm : (i + 1) % r.length < r.length := Nat.mod_lt _ (by omega)
      rw [nx_in nd hr hx2, getD_of (List.getElem?_eq_getElem hm)]
      exact bd _ (List.mem_flatten.mpr ⟨r, hr, List.getElem_mem hm⟩)
    · rw [nx_out c]
      exact bx
  refine ⟨(unitL n).map (nx M), ⟨len, ?_, bnd⟩, tn, fx, nd, bd⟩
  refine nodup_of_len (ks := unitL n) (unit_pm n).nd (fun k => ⟨fun hk => ?_, fun hk => ?_⟩) (by rw [len]; exact (unit_pm n).len)
  · have bk := (unit_pm n).bd k hk
    by_cases c : k ∈ M.flatten
    · obtain ⟨r, hr, hm⟩ := List.mem_flatten.mp c
      obtain ⟨i, hi, ei⟩ := List.getElem_of_mem hm
      obtain ⟨j, hj, ej⟩ : ∃ j, j < r.length ∧ (j + 1) % r.length = i := by
        by_cases z : i = 0
        · exact ⟨r.length - 1, by omega, by rw [z, show r.length - 1 + 1 = r.length by omega, Nat.mod_self]⟩
        · exact ⟨i - 1, by omega, by rw [show i - 1 + 1 = i by omega, Nat.mod_eq_of_lt hi]⟩
      have bj := bd _ (List.mem_flatten.mpr ⟨r, hr, List.getElem_mem hj⟩)
      have g := get _ bj.1 bj.2
      rw [nx_in nd hr (List.getElem?_eq_getElem hj), ej, getD_of (List.getElem?_eq_getElem hi), ei] at g
      exact List.mem_of_getElem? g
    · exact List.mem_of_getElem? (fx k bk.1 bk.2 c)
  · have b := bnd k hk
    exact List.mem_map.mpr ⟨k.toNat, List.mem_range.mpr (by omega), by show ((k.toNat : Nat) : Int) = k; omega⟩
/-- chunks of rows and what is made of them -/
structure Mgs (e : Nat) (Cs : List (List (List Int))) (M : List (List Int)) : Prop where
  len : M.length = Cs.length
  at_ : ∀ (m : Nat) (C : List (List Int)) (L : List Int), Cs[m]? = some C → M[m]? = some L → ∃ l, Mg e C l L
theorem Mgs.nil {e : Nat} : Mgs e [] [] := ⟨rfl, fun m C L h => by cases m <;> cases h⟩
theorem Mgs.more {e l : Nat} {Cs : List (List (List Int))} {M : List (List Int)} {C : List (List Int)} {L : List Int} (h : Mgs e Cs M) (g : Mg e C l L) : Mgs e (Cs ++ [C]) (M ++ [L]) := by
  refine ⟨by rw [List.length_append, List.length_append, h.len]; rfl, fun m D N hD hN => ?_⟩
  by_cases c : m < Cs.length
  · rw [List.getElem?_append_left c] at hD
    rw [List.getElem?_append_left (by rw [h.len]; exact c)] at hN
    exact h.at_ m D N hD hN
  · have lt := (List.getElem?_eq_some_iff.mp hD).1
    rw [List.length_append] at lt
    have lt : m < Cs.length + 1 := lt
    have em : m = Cs.length := by omega
    subst em
    rw [List.getElem?_append_right (Nat.le_refl _), Nat.sub_self] at hD
    rw [← h.len, List.getElem?_append_right (Nat.le_refl _), Nat.sub_self] at hN
    cases hD
    cases hN
    exact ⟨l, g⟩
theorem Mgs.flat {e : Nat} : ∀ {Cs : List (List (List Int))} {M : List (List Int)}, Mgs e Cs M → Cs.flatten.flatten.Nodup → M.flatten.Perm Cs.flatten.flatten
  | [], [], _, _ => .nil
  | [], L :: M, h, _ => absurd h.len (by rw [List.length_cons, List.length_nil]; omega)
  | C :: Cs, [], h, _ => absurd h.len (by rw [List.length_cons, List.length_nil]; omega)
  | C :: Cs, L :: M, h, nd => by
    rw [List.flatten_cons, List.flatten_append] at nd
    have q := List.nodup_append.mp nd
    obtain ⟨l, g⟩ := h.at_ 0 C L rfl rfl
    have ih := Mgs.flat (Cs := Cs) (M := M) ⟨by have := h.len; rw [List.length_cons, List.length_cons] at this; omega, fun m C L h1 h2 => h.at_ (m + 1) C L h1 h2⟩ q.2.1
    rw [List.flatten_cons, List.flatten_cons, List.flatten_append]
    exact ((List.perm_ext_iff_of_nodup g.nd q.1).mpr g.mem).append ih
theorem mgs_root {n e : Nat} {p g : List Int} {Cs : List (List (List Int))} {M : List (List Int)} (hp : IsPm n p) (F : FromRows n g M) (h : Mgs e Cs M) (all : ∀ x : Int, 0 ≤ x → x < n → x ∈ Cs.flatten.flatten) (tn : ∀ r ∈ Cs.flatten, Turn p r) : pwL n g e = p := by
  refine pm_ext (n := n) (pwL_pm F.pm e).len hp.len fun j hj => ?_
  obtain ⟨r, hr, hx⟩ := List.mem_flatten.mp (all (j : Int) (by omega) (by omega))
  obtain ⟨C, hC, hrC⟩ := List.mem_flatten.mp hr
  obtain ⟨m, hm, em⟩ := List.getElem_of_mem hC
  obtain ⟨i, hi, ei⟩ := List.getElem_of_mem hrC
  obtain ⟨t, ht, et⟩ := List.getElem_of_mem hx
  have gC : Cs[m]? = some C := by rw [List.getElem?_eq_getElem hm, em]
  have gr : C[i]? = some r := by rw [List.getElem?_eq_getElem hi, ei]
  have gx : r[t]? = some (j : Int) := by rw [List.getElem?_eq_getElem ht, et]
  have hM : M[m]? = some (M[m]'(by rw [h.len]; exact hm)) := List.getElem?_eq_getElem (by rw [h.len]; exact hm)
  obtain ⟨l, G⟩ := h.at_ m C _ gC hM
  have hLM := List.mem_of_getElem? hM
  generalize M[m]'(by rw [h.len]; exact hm) = L at hM G hLM
  have T := tn r hr
  have el := G.row r hrC
  have gL := G.at_ i r t _ gr gx
  have TL : Turn g L := (F.tn L hLM).resolve_left fun z => by
    rw [z] at gL
    cases gL
  have pw := TL.pw F.pm (fun y hy => F.bd y (List.mem_flatten.mpr ⟨L, hLM, hy⟩)) gL e
  rw [show ((j : Nat) : Int).toNat = j by omega] at pw
  have st := T.st t _ gx
  rw [show ((j : Nat) : Int).toNat = j by omega] at st
  rw [pw, st, G.len]
  have s0 : (t + 1) % r.length < r.length := Nat.mod_lt _ T.ne
  have g2 := G.at_ i r _ _ gr (List.getElem?_eq_getElem s0)
  rw [List.getElem?_eq_getElem s0, ← g2]
  congr 1
  rw [Nat.mod_add_mod]
  have hper := G.per
  by_cases c : t + 1 < r.length
  · rw [Nat.mod_eq_of_lt c, Nat.succ_mul, Nat.add_assoc]
  · have e1 : t + 1 = r.length := by omega
    rw [e1, Nat.mod_self, Nat.zero_mul, Nat.add_zero, Nat.add_assoc, ← Nat.succ_mul, Nat.succ_eq_add_one, e1, el, Nat.add_mod, hper, Nat.add_zero, Nat.mod_mod]
end KL
/-! roots: lengths counted, few points -/
namespace KL
open PySem PySem.Spec PyProof.Rows L2 GA GxR
/-- the length of the row with x -/
def szI (R : List (List Int)) (x : Int) : Nat := match R.find? (fun r => decide (x ∈ r)) with
  | some r => r.length
  | none => 0
theorem szI_in {R : List (List Int)} (nd : R.flatten.Nodup) {r : List Int} {x : Int} (hr : r ∈ R) (hx : x ∈ r) : szI R x = r.length := by
  unfold szI
  cases e : R.find? (fun r => decide (x ∈ r)) with
  | none =>
    have z := List.find?_eq_none.mp e r hr
    exact absurd (decide_eq_true hx) z
  | some s =>
    have h0 : decide (x ∈ s) = true := List.find?_some (p := fun r : List Int => decide (x ∈ r)) e
    have es := same_row nd (List.mem_of_find?_eq_some e) hr (of_decide_eq_true h0) hx
    rw [es]
theorem sz_count {R : List (List Int)} (nd : R.flatten.Nodup) (l : Nat) : ∀ {S : List (List Int)}, (∀ r ∈ S, r ∈ R) → (S.flatten.map (szI R)).count l = l * (lensN S).count l
  | [], _ => by
    show 0 = l * 0
    rw [Nat.mul_zero]
  | r :: S, h => by
    have ih := sz_count nd l (S := S) fun s hs => h s (List.mem_cons_of_mem _ hs)
    have e1 : r.map (szI R) = List.replicate r.length r.length := by
      rw [← List.map_const' ]
      exact List.map_congr_left fun x hx => szI_in nd (h r (List.mem_cons_self ..)) hx
    rw [List.flatten_cons, List.map_append, List.count_append, ih, e1, List.count_replicate]
    show _ + l * (lensN S).count l = l * (r.length :: lensN S).count l
    rw [List.count_cons]
    by_cases c : r.length = l
    · rw [if_pos (by rw [c]; exact beq_self_eq_true l), if_pos (by rw [c]; exact beq_self_eq_true l), Nat.mul_add, c, Nat.mul_one, Nat.add_comm]
    · rw [if_neg (fun z => c (eq_of_beq z)), if_neg (fun z => c (eq_of_beq z)), Nat.zero_add, Nat.add_zero]
def szL (n : Nat) (R : List (List Int)) : List Nat := (List.range n).map fun k => szI R ((k : Nat) : Int)
theorem Full.perm_unit {n : Nat} {p : List Int} {R : List (List Int)} (F : Full n p R) : R.flatten.Perm (unitL n) :=
  (List.perm_ext_iff_of_nodup F.cyc.nd (unit_pm n).nd).mpr fun x => ⟨fun h => by
    have b := F.cyc.bd x h
    exact List.mem_map.mpr ⟨x.toNat, List.mem_range.mpr (by omega), by show ((x.toNat : Nat) : Int) = x; omega⟩, fun h => by
    have b := (unit_pm n).bd x h
    exact F.all x b.1 b.2⟩
theorem szL_count {n : Nat} {p : List Int} {R : List (List Int)} (F : Full n p R) (l : Nat) : (szL n R).count l = l * (lensN R).count l := by
  have e : szL n R = (unitL n).map (szI R) := by
    unfold szL unitL
    rw [List.map_map]
    rfl
  rw [e, ← (F.perm_unit.map (szI R)).count_eq l]
  exact sz_count F.cyc.nd l fun r h => h
theorem szL_mem {n : Nat} {p : List Int} {R : List (List Int)} (F : Full n p R) (l : Nat) : l ∈ szL n R ↔ l ∈ lensN R := by
  rw [← List.count_pos_iff, ← List.count_pos_iff, szL_count F]
  constructor
  · intro h
    exact Nat.pos_of_mul_pos_left h
  · intro h
    refine Nat.mul_pos ?_ h
    obtain ⟨r, hr, e⟩ := List.mem_map.mp (List.count_pos_iff.mp h)
    rw [← e]
    exact (F.cyc.tn r hr).ne
theorem ring_sz {n : Nat} {p r : List Int} {R : List (List Int)} {x : Int} (hp : IsPm n p) (F : Full n p R) (a : Ring n p x r) (h0 : 0 ≤ x) (h1 : x < n) : r.length = szI R x := by
  obtain ⟨s, hs, hx⟩ := List.mem_flatten.mp (F.all x h0 h1)
  rw [szI_in F.cyc.nd hs hx]
  exact len_nodup a.nd (fun k => ring_mem hp a (F.cyc.tn s hs) (fun y hy => F.cyc.bd y (List.mem_flatten.mpr ⟨s, hs, hy⟩)) hx) (nodup_row F.cyc.nd s hs)
/-! ### free of obstacles -/
def cnt (R : List (List Int)) (l : Nat) : Nat := (lensN R).count l
def FreeR (e : Nat) (R : List (List Int)) : Prop := ∀ l ∈ lensN R, cnt R l % dvN l e = 0
def inP (E : List (List Int)) (p : List Int) : Bool := !decide p.Nodup || decide (p ∈ E)
theorem e1 : (allL 1 1).all (inP (every 1)) = true := by decide +kernel
theorem e2 : (allL 2 2).all (inP (every 2)) = true := by decide +kernel
theorem e3 : (allL 3 3).all (inP (every 3)) = true := by decide +kernel
theorem e4 : (allL 4 4).all (inP (every 4)) = true := by decide +kernel
theorem e5 : (allL 5 5).all (inP (every 5)) = true := by decide +kernel
theorem every_all {n : Nat} {p : List Int} (hp : IsPm n p) (h1 : 1 ≤ n) (h5 : n ≤ 5) : p ∈ every n := by
  have k : (allL n n).all (inP (every n)) = true := by
    obtain rfl | rfl | rfl | rfl | rfl : n = 1 ∨ n = 2 ∨ n = 3 ∨ n = 4 ∨ n = 5 := by omega
    · exact e1
    · exact e2
    · exact e3
    · exact e4
    · exact e5
  have z := List.all_eq_true.mp k p (allL_mem hp.len hp.bd)
  unfold inP at z
  rw [decide_eq_true hp.nd, Bool.not_true, Bool.false_or] at z
  exact of_decide_eq_true z
theorem cyc_full {n : Nat} {p : List Int} (hp : IsPm n p) (h1 : 1 ≤ n) (h5 : n ≤ 5) : Full n p (cycF p n) := by
  have k : (allL n n).all (okP n (every n)) = true := by
    obtain rfl | rfl | rfl | rfl | rfl : n = 1 ∨ n = 2 ∨ n = 3 ∨ n = 4 ∨ n = 5 := by omega
    · exact k1
    · exact k2
    · exact k3
    · exact k4
    · exact k5
  have z := List.all_eq_true.mp k p (allL_mem hp.len hp.bd)
  unfold okP at z
  rw [decide_eq_true hp.nd, Bool.not_true, Bool.false_or, Bool.and_eq_true] at z
  exact fullB_ok z.1
theorem Full.flen {n : Nat} {p : List Int} {R : List (List Int)} (F : Full n p R) : R.flatten.length = n := by
  rw [F.perm_unit.length_eq]
  exact (unit_pm n).len
theorem turn_dvd {n t : Nat} {p r : List Int} {x : Int} (hp : IsPm n p) (T : Turn p r) (nd : r.Nodup) (bd : ∀ y ∈ r, 0 ≤ y ∧ y < (n : Int)) (hx : x ∈ r) : r.length ∣ t ↔ (pwL n p t)[x.toNat]? = some x := by
  obtain ⟨i, hi, ei⟩ := List.getElem_of_mem hx
  have gi : r[i]? = some x := by rw [List.getElem?_eq_getElem hi, ei]
  have e := T.pw hp bd gi t
  have hm : (i + t) % r.length < r.length := Nat.mod_lt _ T.ne
  rw [e]
  constructor
  · rintro ⟨s, rfl⟩
    rw [Nat.add_mul_mod_self_left, Nat.mod_eq_of_lt hi, gi]
  · intro h
    rw [← gi, List.getElem?_eq_getElem hm, List.getElem?_eq_getElem hi] at h
    have z := (List.getElem_inj nd).mp (Option.some.inj h)
    have z2 : (i + t) % r.length = (i + 0) % r.length := by rw [z, Nat.add_zero, Nat.mod_eq_of_lt hi]
    have z3 := Nat.sub_mod_eq_zero_of_mod_eq z2
    rw [Nat.add_sub_add_left, Nat.sub_zero] at z3
    exact Nat.dvd_of_mod_eq_zero z3
theorem pwL_mul {n : Nat} {g : List Int} (hg : IsPm n g) (e : Nat) : ∀ t, pwL n (pwL n g e) t = pwL n g (e * t)
  | 0 => rfl
  | t + 1 => by
    show mulL (pwL n (pwL n g e) t) (pwL n g e) = _
    rw [pwL_mul hg e t, pwL_add hg, Nat.mul_succ]
/-- the lengths of a power -/
theorem pow_sz {n e : Nat} {g : List Int} {R S : List (List Int)} {x : Int} (hg : IsPm n g) (F : Full n (pwL n g e) R) (G : Full n g S) (h0 : 0 ≤ x) (h1 : x < n) : szI S x = szI R x * Nat.gcd (szI S x) e := by
  have hp := pwL_pm hg e
  obtain ⟨r, hr, hx⟩ := List.mem_flatten.mp (F.all x h0 h1)
  obtain ⟨s, hs, hy⟩ := List.mem_flatten.mp (G.all x h0 h1)
  rw [szI_in F.cyc.nd hr hx, szI_in G.cyc.nd hs hy]
  have sp := (G.cyc.tn s hs).ne
  have k1 : ∀ t, r.length ∣ t ↔ s.length ∣ e * t := fun t => by
    rw [turn_dvd hp (F.cyc.tn r hr) (nodup_row F.cyc.nd r hr) (fun y hy => F.cyc.bd y (List.mem_flatten.mpr ⟨r, hr, hy⟩)) hx, pwL_mul hg, turn_dvd hg (G.cyc.tn s hs) (nodup_row G.cyc.nd s hs) (fun y hy => G.cyc.bd y (List.mem_flatten.mpr ⟨s, hs, hy⟩)) hy]
  have g0 : 0 < Nat.gcd s.length e := Nat.gcd_pos_of_pos_left _ sp
  obtain ⟨a, ha⟩ := Nat.gcd_dvd_left s.length e
  obtain ⟨b, hb⟩ := Nat.gcd_dvd_right s.length e
  have cab : Nat.Coprime a b := by
    have z := Nat.gcd_mul_left (Nat.gcd s.length e) a b
    rw [← ha, ← hb] at z
    have z2 : Nat.gcd s.length e * 1 = Nat.gcd s.length e * Nat.gcd a b := by rw [Nat.mul_one]; exact z
    exact (Nat.eq_of_mul_eq_mul_left g0 z2).symm
  have k2 : ∀ t, a ∣ t ↔ s.length ∣ e * t := fun t => by
    constructor
    · rintro ⟨c, rfl⟩
      refine ⟨b * c, ?_⟩
      conv => lhs; rw [hb]
      conv => rhs; rw [ha]
      simp only [Nat.mul_assoc, Nat.mul_comm, Nat.mul_left_comm]
    · intro z
      have z2 : Nat.gcd s.length e * a ∣ Nat.gcd s.length e * (b * t) := by
        rw [← Nat.mul_assoc, ← ha, ← hb]
        exact z
      exact cab.dvd_of_dvd_mul_left (Nat.dvd_of_mul_dvd_mul_left g0 z2)
  have ea : r.length = a := Nat.dvd_antisymm ((k1 a).mpr ((k2 a).mp (Nat.dvd_refl _))) ((k2 r.length).mpr ((k1 r.length).mp (Nat.dvd_refl _)))
  rw [ea, Nat.mul_comm]
  exact ha
theorem count_dvd {S : List (List Int)} {f : Int → Nat} {l D : Nat} : (∀ s ∈ S, (∀ x ∈ s, f x = l) ∧ l * D ∣ s.length ∨ ∀ x ∈ s, f x ≠ l) → l * D ∣ (S.flatten.map f).count l := by
  induction S with
  | nil => intro _; exact Nat.dvd_zero _
  | cons s S ih =>
    intro h
    rw [List.flatten_cons, List.map_append, List.count_append]
    refine Nat.dvd_add ?_ (ih fun r hr => h r (List.mem_cons_of_mem _ hr))
    rcases h s (List.mem_cons_self ..) with ⟨a, b⟩ | a
    · have e1 : s.map f = List.replicate s.length l := by
        rw [← List.map_const']
        exact List.map_congr_left fun x hx => a x hx
      rw [e1, List.count_replicate, if_pos (beq_self_eq_true l)]
      exact b
    · rw [List.count_eq_zero.mpr fun z => by
        obtain ⟨x, hx, e⟩ := List.mem_map.mp z
        exact a x hx e]
      exact Nat.dvd_zero _
/-- a power has no obstacle -/
theorem pow_free {n e : Nat} {g p : List Int} {R S : List (List Int)} (hg : IsPm n g) (n12 : n ≤ 12) (he : EOk e) (hp : pwL n g e = p) (F : Full n p R) (G : Full n g S) : FreeR e R := by
  subst hp
  intro l hl
  have l1 : 1 ≤ l := by
    obtain ⟨r, hr, e⟩ := List.mem_map.mp hl
    rw [← e]
    exact (F.cyc.tn r hr).ne
  have l12 : l ≤ 12 := by
    obtain ⟨r, hr, e⟩ := List.mem_map.mp hl
    have := bd_len (nodup_row F.cyc.nd r hr) fun y hy => F.cyc.bd y (List.mem_flatten.mpr ⟨r, hr, hy⟩)
    omega
  have c := szL_count F l
  have e1 : szL n R = (unitL n).map (szI R) := by
    unfold szL unitL
    rw [List.map_map]
    rfl
  rw [e1, ← (G.perm_unit.map (szI R)).count_eq l] at c
  have d : l * dvN l e ∣ (S.flatten.map (szI R)).count l := count_dvd fun s hs => by
    have key : ∀ x ∈ s, s.length = szI R x * Nat.gcd s.length e := fun x hx => by
      have b := G.cyc.bd x (List.mem_flatten.mpr ⟨s, hs, hx⟩)
      have z := pow_sz hg F G b.1 b.2
      rwa [szI_in G.cyc.nd hs hx] at z
    have g0 : 0 < Nat.gcd s.length e := Nat.gcd_pos_of_pos_right _ he.pos
    have sp := (G.cyc.tn s hs).ne
    have h0 := List.getElem_mem sp
    have k0 := key _ h0
    have all : ∀ x ∈ s, szI R x = szI R (s[0]'sp) := fun x hx => by
      have a := key x hx
      rw [k0] at a
      have a2 : szI R (s[0]'sp) * Nat.gcd s.length e = szI R x * Nat.gcd s.length e := by
        rw [← k0, ← key x hx]
      exact (Nat.eq_of_mul_eq_mul_right g0 a2).symm
    by_cases q : szI R (s[0]'sp) = l
    · refine .inl ⟨fun x hx => (all x hx).trans q, ?_⟩
      rw [q] at k0
      have z := Nat.mul_dvd_mul_left l (dvN_gcd he l1 l12 k0)
      rwa [← k0] at z
    · exact .inr fun x hx => by rw [all x hx]; exact q
  rw [c] at d
  exact Nat.mod_eq_zero_of_dvd (Nat.dvd_of_mul_dvd_mul_left l1 d)
end KL
/-! a tuple of ints among the module's names; promises of roots -/
namespace KL
open PySem PySem.Spec PyProof.Rows L2 GA GxR
def intsB : List Value → List Int → Bool
  | [], [] => true
  | .int i _ :: r, n :: s => decide (i = n) && intsB r s
  | _, _ => false
theorem intsB_ok : ∀ {us : List Value} {ns : List Int}, intsB us ns = true → Vals (ns.map V.int) us
  | [], [], _ => .nil
  | .int i t :: r, n :: s, h => by
    have h : (decide (i = n) && intsB r s) = true := h
    rw [Bool.and_eq_true, decide_eq_true_iff] at h
    rw [h.1]
    exact .cons ⟨_, rfl⟩ (intsB_ok h.2)
def tupF (K : PySem.W.Frag) (x : Str) (ns : List Int) : Bool :=
  He.eqO (PySem.W.nsIn K mainGlobals x) (some (some (.ref (He.ga K x)))) && (match K.lookup (He.ga K x) with
  | some ⟨.type T, _, .seq its _, _⟩ => decide (T = "tuple") && intsB its.toList ns
  | _ => false)
theorem tup_ok {K : PySem.W.Frag} {h : Heap} {mg : Str → Option Value} {x : Str} {ns : List Int} (X : K.In h) (G : h.Ns mainGlobals mg) (q : tupF K x ns = true) (hl : ns.length ≤ 1000) :
    (∃ u, mg x = some u ∧ RelV (.ref (He.ga K x)) u) ∧ ∀ H, SqT K H (He.ga K x) (ns.map V.int) := by
  unfold tupF at q
  rw [Bool.and_eq_true] at q
  refine ⟨⟨_, PySem.W.mg_of X G (He.eqO_ok q.1), rfl⟩, fun H => ?_⟩
  have q2 := q.2
  split at q2
  · rename_i T d its n sl e
    rw [Bool.and_eq_true, decide_eq_true_iff] at q2
    have v := intsB_ok q2.2
    have el := v.length
    rw [List.length_map] at el
    have es : its.toList.length = its.size := Array.length_toList
    refine .inr ⟨_, its, n, e, by rw [q2.1], rfl, ?_, v⟩
    have : (1000 : Nat) < sizeLine := by decide
    omega
  · cases q2
theorem prs_get {i : Nat} (h : i < 5) : ∃ q : Nat, prs[i]? = some q ∧ 2 ≤ q ∧ q ≤ 11 ∧ (∀ a ∈ prs.take i, Nat.Coprime a q) ∧ prs.take (i + 1) = prs.take i ++ [q] := by
  obtain rfl | rfl | rfl | rfl | rfl : i = 0 ∨ i = 1 ∨ i = 2 ∨ i = 3 ∨ i = 4 := by omega
  all_goals exact ⟨_, rfl, by decide, by decide, by decide, rfl⟩
theorem dvP_cop {e : Nat} (he : EOk e) (l : Nat) : ∀ i, i ≤ 5 → dvP (prs.take i) l e ∣ e ∧ ∀ q, (∀ a ∈ prs.take i, Nat.Coprime a q) → Nat.Coprime (dvP (prs.take i) l e) q
  | 0, _ => ⟨Nat.one_dvd _, fun q _ => Nat.coprime_one_left_eq_true q ▸ trivial⟩
  | i + 1, hi => by
    obtain ⟨h1, h2⟩ := dvP_cop he l i (by omega)
    obtain ⟨q, hq, q2, q11, hc, et⟩ := prs_get (i := i) (by omega)
    obtain ⟨k, ek, kd, _⟩ := he.part l q q2 q11
    rw [et, dvP_snoc, if_mul, ek]
    have c := h2 q hc
    refine ⟨Nat.Coprime.mul_dvd_of_dvd_of_dvd (Nat.Coprime.pow_right k c) h1 kd, fun x hx => Nat.Coprime.mul_left (h2 x fun a ha => hx a (List.mem_append_left _ ha)) (Nat.Coprime.pow_left k (hx q (List.mem_append_right _ (List.mem_singleton.mpr rfl))))⟩
theorem cop_dvd {D q m e : Nat} (h1 : D ∣ e) (h2 : Nat.Coprime D q) : D * q ^ m ∣ e ↔ q ^ m ∣ e :=
  ⟨fun h => Nat.dvd_trans (Nat.dvd_mul_left _ _) h, fun h => Nat.Coprime.mul_dvd_of_dvd_of_dvd (Nat.Coprime.pow_right m h2) h1 h⟩
def spDivisor : Sp := fun vs H Q _ => ∃ l e : Nat, vs = [.int l, .int e] ∧ 1 ≤ l ∧ l ≤ 12 ∧ EOk e ∧ ∀ H', Ex H H' → Q (.int ((dvN l e : Nat) : Int)) H'
def spMerged : Sp := fun vs H Q _ => ∃ (a : Addr) (As : List Addr) (C : List (List Int)) (l e x : Nat), vs = [.ref a, .int e] ∧ H a = some (.lst (As.map V.ref)) ∧ RowsAt H As C ∧ e = C.length * x ∧ Nat.Coprime x l ∧ 1 ≤ C.length ∧ 1 ≤ l ∧ (∀ r ∈ C, r.length = l) ∧ C.flatten.Nodup ∧ C.length * l ≤ 12 ∧
  ∀ (c : Addr) (H' : Hp) (L : List Int), Ex H H' → H' c = some (.tup (L.map V.int)) → Mg e C l L → Q (.ref c) H'
/-- the pairs of a length and the rows of that length -/
structure ByR (H : Hp) (Ts : List Addr) (ds : List Nat) (R : List (List Int)) (D : Addr) : Prop where
  len : Ts.length = ds.length
  at_ : ∀ (i d : Nat), ds[i]? = some d → ∃ (t b : Addr) (Bs : List Addr), Ts[i]? = some t ∧ H t = some (.tup [.int d, .ref b]) ∧ H b = some (.lst (Bs.map V.ref)) ∧ b ≠ D ∧ RowsAt H Bs (R.filter fun r => decide (r.length = d))
theorem ByR.ex {H H' : Hp} {Ts : List Addr} {ds : List Nat} {R : List (List Int)} {D : Addr} (B : ByR H Ts ds R D) (x : Ex H H') : ByR H' Ts ds R D :=
  ⟨B.len, fun i d e => let ⟨t, b, Bs, e1, e2, e3, e4, e5⟩ := B.at_ i d e; ⟨t, b, Bs, e1, x.st _ _ e2 trivial, x.st _ _ e3 refs_norow, e4, e5.ex x⟩⟩
theorem ByR.upd {H : Hp} {Ts : List Addr} {ds : List Nat} {R : List (List Int)} {D : Addr} {ys : List V} {o : HO} (B : ByR H Ts ds R D) (h : H D = some (.lst ys)) : ByR (upd H D o) Ts ds R D :=
  ⟨B.len, fun i d e => let ⟨t, b, Bs, e1, e2, e3, e4, e5⟩ := B.at_ i d e; ⟨t, b, Bs, e1, kp e2 h (fun z => by cases z), by rw [upd_ne e4]; exact e3, e4, e5.upd h (fun _ z => by cases z)⟩⟩
theorem ByR.nil {H : Hp} {R : List (List Int)} {D : Addr} : ByR H [] [] R D := ⟨rfl, fun i d e => by cases i <;> cases e⟩
theorem ByR.more {H : Hp} {Ts Bs : List Addr} {ds : List Nat} {R : List (List Int)} {D t b : Addr} {d : Nat} (B : ByR H Ts ds R D) (e2 : H t = some (.tup [.int d, .ref b])) (e3 : H b = some (.lst (Bs.map V.ref))) (e4 : b ≠ D) (e5 : RowsAt H Bs (R.filter fun r => decide (r.length = d))) : ByR H (Ts ++ [t]) (ds ++ [d]) R D := by
  refine ⟨by rw [List.length_append, List.length_append, B.len]; rfl, fun i y e => ?_⟩
  by_cases hi : i < ds.length
  · rw [List.getElem?_append_left hi] at e
    obtain ⟨t', b', Bs', f1, f2⟩ := B.at_ i y e
    exact ⟨t', b', Bs', by rw [List.getElem?_append_left (by rw [B.len]; exact hi)]; exact f1, f2⟩
  · have hl := (List.getElem?_eq_some_iff.mp e).1
    rw [List.length_append] at hl
    have hl : i < ds.length + 1 := hl
    have ei : i = ds.length := by omega
    subst ei
    rw [List.getElem?_append_right (Nat.le_refl _), Nat.sub_self] at e
    cases e
    exact ⟨t, b, Bs, by rw [List.getElem?_append_right (by rw [B.len]; exact Nat.le_refl _), B.len, Nat.sub_self]; rfl, e2, e3, e4, e5⟩
def spByLengthR : Sp := fun vs H Q _ => ∃ (a : Addr) (n : Nat) (p : List Int), vs = [.ref a] ∧ Pm H a n p ∧ n ≤ 12 ∧ ∀ (c : Addr) (H' : Hp) (R : List (List Int)) (Ts : List Addr) (ds : List Nat), Ex H H' → Full n p R → H' c = some (.lst (Ts.map V.ref)) → ds.Pairwise (· < ·) → (∀ d, d ∈ ds ↔ d ∈ lensN R) → ByR H' Ts ds R c → Q (.ref c) H'
theorem filt_len (R : List (List Int)) (d : Nat) : (R.filter fun r => decide (r.length = d)).length = cnt R d := by
  unfold cnt lensN
  rw [List.count_eq_countP, List.countP_map, List.countP_eq_length_filter]
  congr 1
/-- what root_obstacle tells -/
def Told (H : Hp) (v : V) (e : Nat) (R : List (List Int)) : Prop := (v = .non ∧ FreeR e R) ∨ ∃ (t : Addr) (d : Nat), v = .ref t ∧ H t = some (.tup [.int d, .int ((cnt R d : Nat) : Int), .int ((dvN d e : Nat) : Int)]) ∧ d ∈ lensN R ∧ cnt R d % dvN d e ≠ 0 ∧ ∀ k ∈ lensN R, k < d → cnt R k % dvN k e = 0
theorem Told.ex {H H' : Hp} {v : V} {e : Nat} {R : List (List Int)} (x : Ex H H') (h : Told H v e R) : Told H' v e R := by
  rcases h with h | ⟨t, d, e1, e2, h⟩
  · exact .inl h
  · exact .inr ⟨t, d, e1, x.st _ _ e2 trivial, h⟩
def spObstacle (K : PySem.W.Frag) : Sp := fun vs H Q _ => ∃ (a : Addr) (n e : Nat) (p : List Int), vs = [.ref a, .int e] ∧ Pm H a n p ∧ 1 ≤ n ∧ n ≤ 12 ∧ TabG H (PP K) ∧ EOk e ∧ ∀ (v : V) (H' : Hp) (R : List (List Int)), Ex H H' → Full n p R → Told H' v e R → Q v H'
def spRoot (K : PySem.W.Frag) : Sp := fun vs H Q _ => ∃ (a : Addr) (n e : Nat) (p : List Int), vs = [.ref a, .int e] ∧ Pm H a n p ∧ 1 ≤ n ∧ n ≤ 12 ∧ TabG H (PP K) ∧ EOk e ∧ ∀ (v : V) (H' : Hp) (R : List (List Int)), Ex H H' → Full n p R → ((v = .non ∧ ¬ FreeR e R) ∨ ∃ (c : Addr) (g : List Int), v = .ref c ∧ Pm H' c n g ∧ pwL n g e = p ∧ FreeR e R) → Q v H'
def spJudged (K : PySem.W.Frag) : Sp := fun vs H Q _ => ∃ (a : Addr) (n e : Nat) (p : List Int), vs = [.ref a, .int e] ∧ Pm H a n p ∧ 1 ≤ n ∧ n ≤ 12 ∧ TabG H (PP K) ∧ EOk e ∧ ∀ H', Ex H H' → Q (.bl true) H'
theorem lens_bd {n : Nat} {p : List Int} {R : List (List Int)} (F : Full n p R) {d : Nat} (h : d ∈ lensN R) : 1 ≤ d ∧ d ≤ n ∧ 1 ≤ cnt R d ∧ d * cnt R d ≤ n := by
  obtain ⟨r, hr, e⟩ := List.mem_map.mp h
  have a := (F.cyc.tn r hr).ne
  have b := bd_len (nodup_row F.cyc.nd r hr) fun y hy => F.cyc.bd y (List.mem_flatten.mpr ⟨r, hr, hy⟩)
  have c : 1 ≤ cnt R d := List.count_pos_iff.mpr h
  have s : d * cnt R d ≤ R.flatten.length := by
    have z := sz_count F.cyc.nd d (S := R) fun r h => h
    have y := List.count_le_length (a := d) (l := R.flatten.map (szI R))
    rw [z, List.length_map] at y
    exact y
  rw [F.flen] at s
  exact ⟨by omega, by omega, c, s⟩
end KL
namespace KL
open PySem PySem.Spec PyProof.Rows L2 GA GxR
theorem rg_small : ∀ m, m < 13 → ∀ D, D < 13 → 0 < D → m % D = 0 → Builtin.Range.small 0 ((m : Nat) : Int) ((D : Nat) : Int) = true ∧ Builtin.Range.rangeSize 0 ((m : Nat) : Int) ((D : Nat) : Int) = ((m / D : Nat) : Int) := by decide +kernel
theorem rgC_of {m D : Nat} (hm : m < 13) (h0 : 0 < D) (hD : D < 13) (h : m % D = 0) : RgC 0 (m : Nat) (D : Nat) (m / D) := by
  have z := rg_small m hm D hD h0 h
  exact ⟨by omega, by omega, z.1, z.2⟩
theorem cut_of {xs : List V} {a b : Nat} (h : a ≤ b) (hb : b ≤ xs.length) : cutV xs (some ((a : Nat) : Int)) (some ((b : Nat) : Int)) = (xs.drop a).take (b - a) := by
  have e : ∀ c : Nat, c ≤ xs.length → ∀ d, HT.sIx xs.length d (some ((c : Nat) : Int)) = c := fun c hc d => by
    rw [HT.sIx_nat]
    omega
  unfold cutV
  rw [e a (by omega), e b hb]
/-- what comes earlier in order stands earlier -/
theorem take_lt {α : Type} {lt : α → α → Prop} {l : List α} {i : Nat} {k d : α} (h : l.Pairwise fun a b => ¬ lt b a) (irr : ¬ lt d d) (hd : l[i]? = some d) (hk : k ∈ l) (hl : lt k d) : k ∈ l.take i := by
  obtain ⟨j, hj, ej⟩ := List.getElem_of_mem hk
  obtain ⟨hi, ei⟩ := List.getElem?_eq_some_iff.mp hd
  by_cases c : j < i
  · rw [← ej]
    exact List.mem_take_iff_getElem.mpr ⟨j, by omega, rfl⟩
  · exfalso
    by_cases c2 : j = i
    · subst c2
      rw [ei] at ej
      exact irr (ej ▸ hl)
    · have z := List.pairwise_iff_getElem.mp h i j hi hj (by omega)
      rw [ei, ej] at z
      exact z hl
def grp (R : List (List Int)) (d : Nat) : List (List Int) := R.filter fun r => decide (r.length = d)
theorem grps_perm : ∀ {ds : List Nat} {R : List (List Int)}, ds.Nodup → (∀ r ∈ R, r.length ∈ ds) → (ds.flatMap (grp R)).Perm R
  | [], R, _, h => by
    cases R with
    | nil => exact .nil
    | cons r R => exact absurd (h r (List.mem_cons_self ..)) (by simp)
  | d :: ds, R, nd, h => by
    rw [List.nodup_cons] at nd
    have ih := grps_perm (ds := ds) (R := R.filter fun r => !decide (r.length = d)) nd.2 fun r hr => by
      have z := List.mem_filter.mp hr
      refine (List.mem_cons.mp (h r z.1)).resolve_left fun e => ?_
      have y := z.2
      rw [decide_eq_true e] at y
      cases y
    have e : ds.flatMap (grp R) = ds.flatMap (grp (R.filter fun r => !decide (r.length = d))) := by
      rw [List.flatMap_def, List.flatMap_def]
      congr 1
      refine List.map_congr_left fun x hx => ?_
      unfold grp
      rw [List.filter_filter]
      refine List.filter_congr fun r _ => ?_
      by_cases c : r.length = x
      · have c2 : ¬ r.length = d := fun z => nd.1 (by rw [← z, c]; exact hx)
        rw [decide_eq_true c, decide_eq_false c2]
        rfl
      · rw [decide_eq_false c]
        rfl
    rw [List.flatMap_cons, e]
    exact (List.Perm.append_left _ ih).trans (List.filter_append_perm _ _)
theorem chunk_flat {B : List (List Int)} {D c : Nat} : B.take (D * c) ++ (B.drop (D * c)).take D = B.take (D * (c + 1)) := by
  rw [Nat.mul_succ, List.take_add]
theorem RowsAt.cut {H : Hp} {As : List Addr} {R : List (List Int)} (h : RowsAt H As R) (a b : Nat) : RowsAt H ((As.drop a).take b) ((R.drop a).take b) := by
  refine ⟨by rw [List.length_take, List.length_take, List.length_drop, List.length_drop, h.len], fun i r e => ?_⟩
  rw [List.getElem?_take] at e
  by_cases c : i < b
  · rw [if_pos c, List.getElem?_drop] at e
    obtain ⟨x, hx, hxt⟩ := h.at_ _ r e
    exact ⟨x, by rw [List.getElem?_take, if_pos c, List.getElem?_drop]; exact hx, hxt⟩
  · rw [if_neg c] at e
    cases e
theorem Mgs.few {e : Nat} {Cs : List (List (List Int))} {M : List (List Int)} (h : Mgs e Cs M) : M.length ≤ Cs.flatten.length := by
  rw [h.len]
  have key : ∀ {Cs : List (List (List Int))}, (∀ C ∈ Cs, 1 ≤ C.length) → Cs.length ≤ Cs.flatten.length := by
    intro Cs
    induction Cs with
    | nil => intro _; exact Nat.le_refl _
    | cons C Cs ih =>
      intro hc
      have a := hc C (List.mem_cons_self ..)
      have b := ih fun x hx => hc x (List.mem_cons_of_mem _ hx)
      rw [List.flatten_cons, List.length_append, List.length_cons]
      omega
  refine key fun C hC => ?_
  obtain ⟨m, hm, em⟩ := List.getElem_of_mem hC
  have gC : Cs[m]? = some C := by rw [List.getElem?_eq_getElem hm, em]
  obtain ⟨l, g⟩ := h.at_ m C _ gC (List.getElem?_eq_getElem (by rw [h.len]; exact hm))
  exact g.c1
end KL
namespace KL
open PySem PySem.Spec PyProof.Rows L2 GA GxR
/-- the heap without what stands at l -/
def hide (H : Hp) (l : Addr) : Hp := fun b => if b = l then none else H b
theorem hide_ne {H : Hp} {l a : Addr} (h : a ≠ l) : hide H l a = H a := if_neg h
theorem hide_same {H : Hp} {l : Addr} : hide H l l = none := if_pos rfl
theorem Ex.hide {H H' : Hp} {l : Addr} (x : Ex H H') (h : H l = none) : Ex H (KL.hide H' l) := by
  have ne : ∀ {a : Addr} {o : HO}, H a = some o → a ≠ l := fun e z => by rw [z, h] at e; cases e
  refine ⟨fun a o e s => by rw [hide_ne (ne e)]; exact x.st a o e s, fun P t => ?_, fun r s t => ?_, fun a e => ?_⟩
  · obtain ⟨ps, e, _⟩ := id t
    obtain ⟨ps', e', t'⟩ := x.tab P t
    exact ⟨ps', by rw [hide_ne (ne e)]; exact e', t'⟩
  · obtain ⟨_, _, _, e, _⟩ := id t
    obtain ⟨i, j, k, e', t'⟩ := x.row r s t
    exact ⟨i, j, k, by rw [hide_ne (ne e)]; exact e', t'⟩
  · by_cases z : a = l
    · rw [z]; exact h
    · rw [hide_ne z] at e
      exact x.no a e
theorem Ex.shown {H : Hp} {l : Addr} : Ex (KL.hide H l) H := by
  have ne : ∀ {a : Addr} {o : HO}, KL.hide H l a = some o → H a = some o := fun {a o} e => by
    by_cases z : a = l
    · rw [z, hide_same] at e; cases e
    · rwa [hide_ne z] at e
  refine ⟨fun a o e _ => ne e, fun P t => ?_, fun r s t => ?_, fun a e => ?_⟩
  · obtain ⟨ps, e, t⟩ := t
    exact ⟨ps, ne e, t⟩
  · obtain ⟨i, j, k, e, t⟩ := t
    exact ⟨i, j, k, ne e, t⟩
  · by_cases z : a = l
    · rw [z, hide_same]
    · rw [hide_ne z]; exact e
theorem hide_at {H : Hp} {l a : Addr} {o u : HO} (h : H a = some o) (e : H l = some u) (n : o ≠ u) : hide H l a = some o := by
  rw [hide_ne (fun z => by rw [z, e] at h; exact n (Option.some.inj h).symm)]
  exact h
theorem RowsAt.hide {H : Hp} {As : List Addr} {R : List (List Int)} {l : Addr} {xs : List V} (h : RowsAt H As R) (e : H l = some (.lst xs)) : RowsAt (KL.hide H l) As R :=
  ⟨h.len, fun i r k => let ⟨a, e1, e2⟩ := h.at_ i r k; ⟨a, e1, hide_at e2 e (fun z => by cases z)⟩⟩
theorem ByR.hide {H : Hp} {Ts : List Addr} {ds : List Nat} {R : List (List Int)} {D l : Addr} (B : ByR H Ts ds R D) (e : H l = some (.lst [])) (h : ∀ d ∈ ds, 1 ≤ cnt R d) : ByR (KL.hide H l) Ts ds R D :=
  ⟨B.len, fun i d k => by
    obtain ⟨t, b, Bs, e1, e2, e3, e4, e5⟩ := B.at_ i d k
    refine ⟨t, b, Bs, e1, hide_at e2 e (fun z => by cases z), hide_at e3 e (fun z => ?_), e4, e5.hide e⟩
    have l1 := h d (List.mem_of_getElem? k)
    rw [← filt_len, ← e5.len] at l1
    have z := HO.lst.inj z
    rw [List.map_eq_nil_iff] at z
    rw [z] at l1
    exact absurd l1 (by decide)⟩
end KL
namespace KL
theorem sub_flat {A B : List (List Int)} (h : A.Sublist B) : A.flatten.Sublist B.flatten := by
  induction h with
  | slnil => exact .slnil
  | cons a _ ih => rw [List.flatten_cons]; exact ih.trans (List.sublist_append_right _ _)
  | cons_cons a _ ih => rw [List.flatten_cons, List.flatten_cons]; exact (List.Sublist.refl _).append ih
end KL
namespace KL
open PySem PySem.Spec PyProof.Rows L2 GA GxR
def spBlocksM (K : PySem.W.Frag) : Sp := fun vs H Q _ => ∃ (r s : Addr) (ns : List Int) (m : Nat), vs = [.ref r, .int m] ∧ RowAt H r s ∧ SqL K H s (ns.map V.int) ∧ 1 ≤ m ∧ m ≤ 12 ∧ ∀ (c : Addr) (H' : Hp) (n : Nat) (p : List Int), Ex H H' → 1 ≤ n → n ≤ m → Pm H' c n p → Q (.ref c) H'
end KL
namespace KL
open PySem PySem.Spec PyProof.Rows L2 GA GxR
theorem szL_len (n : Nat) (R : List (List Int)) : (szL n R).length = n := by
  unfold szL
  rw [List.length_map, List.length_range]
theorem szL_take {n i : Nat} {R : List (List Int)} (h : i < n) : (szL n R).take (i + 1) = (szL n R).take i ++ [szI R ((i : Nat) : Int)] := by
  have g : (szL n R)[i]? = some (szI R ((i : Nat) : Int)) := by
    unfold szL
    rw [List.getElem?_map, List.getElem?_range h]
    rfl
  rw [List.take_add_one, g]
  rfl
theorem count_nat (ls : List Nat) (l : Nat) : (ls.map Int.ofNat).count ((l : Nat) : Int) = ls.count l := by
  induction ls with
  | nil => rfl
  | cons a ls ih =>
    rw [List.map_cons, List.count_cons, List.count_cons, ih]
    congr 1
    by_cases h : a = l
    · rw [if_pos (show (Int.ofNat a == ((l : Nat) : Int)) = true by rw [h]; exact beq_self_eq_true _), if_pos (show (a == l) = true by rw [h]; exact beq_self_eq_true _)]
    · rw [if_neg (show ¬ (Int.ofNat a == ((l : Nat) : Int)) = true from fun z => h (Int.ofNat.inj (eq_of_beq z))), if_neg (show ¬ (a == l) = true from fun z => h (eq_of_beq z))]
end KL
/-! rows compared with nothing; exponents -/
namespace KL
open PySem PySem.Spec PyProof.Rows L2 GA GxR
def rowD (r : List Int) : PyData := .tuple (r.map PyData.int)
theorem can_rows : ∀ Rs : List (List Int), PyData.canLayAll0 (Rs.map rowD) = true
  | [] => rfl
  | r :: Rs => by
    show (PyData.canLayAll0 (r.map PyData.int) && PyData.canLayAll0 (Rs.map rowD)) = true
    rw [PySem.W.ke_canLayAll0, can_rows Rs]
    rfl
theorem depth_rows : ∀ Rs : List (List Int), PyData.depthAll (Rs.map rowD) ≤ 1
  | [] => by show 0 ≤ 1; omega
  | r :: Rs => by
    show max (PyData.depthAll (r.map PyData.int) + 1) (PyData.depthAll (Rs.map rowD)) ≤ 1
    rw [PySem.W.ke_depthAll]
    have := depth_rows Rs
    omega
theorem shaped_rows (Rs : List (List Int)) : SeqAt.shaped (.list (Rs.map rowD)) = true := by
  show (PyData.canLayAll0 (Rs.map rowD) && decide (PyData.depthAll (Rs.map rowD) + 1 ≤ 64)) = true
  have := depth_rows Rs
  rw [can_rows, decide_eq_true (by omega)]
  rfl
theorem eqv_rows0 (Rs : List (List Int)) : PyData.eqv (.list (Rs.map rowD)) (.list []) = decide (Rs = []) := by
  cases Rs with
  | nil => rfl
  | cons r Rs =>
    rw [decide_eq_false (by intro h; cases h)]
    show PyData.eqvAll (rowD r :: Rs.map rowD) [] = false
    simp [PyData.eqvAll]
theorem dpAll_rows {K : PySem.W.Frag} {H : Hp} : ∀ {Bs : List Addr} {Rs : List (List Int)}, RowsAt H Bs Rs → DpAll K H (Bs.map V.ref) (Rs.map rowD)
  | [], [], _ => .nil
  | [], r :: Rs, h => absurd h.len (by rw [List.length_cons, List.length_nil]; omega)
  | b :: Bs, [], h => absurd h.len (by rw [List.length_cons, List.length_nil]; omega)
  | b :: Bs, r :: Rs, h => by
    obtain ⟨x, hx, hxt⟩ := h.at_ 0 r rfl
    cases (Option.some.inj hx)
    refine .cons (dpT_ints hxt) (dpAll_rows ⟨by have := h.len; rw [List.length_cons, List.length_cons] at this; omega, fun i s e => h.at_ (i + 1) s e⟩)
theorem eok_small {e : Nat} (h1 : 1 ≤ e) (h : e ≤ 2520) : EOk e := ⟨h1, fun q _ _ k hk => by have := Nat.le_of_dvd (by omega) hk; omega⟩
theorem eok_big {e X : Nat} (h1 : 1 ≤ e) (h : e ≤ 2520) (hX : X = (13 ^ 64) ^ 64) : EOk (e * X) := by
  have X0 : 0 < X := by rw [hX]; exact Nat.pow_pos (Nat.pow_pos (by omega))
  refine ⟨Nat.mul_pos h1 X0, fun q q2 q11 k hk => ?_⟩
  have c : Nat.Coprime q 13 := by
    obtain rfl | rfl | rfl | rfl | rfl | rfl | rfl | rfl | rfl | rfl : q = 2 ∨ q = 3 ∨ q = 4 ∨ q = 5 ∨ q = 6 ∨ q = 7 ∨ q = 8 ∨ q = 9 ∨ q = 10 ∨ q = 11 := by omega
    all_goals decide
  have c2 : Nat.Coprime (q ^ k) X := by
    rw [hX]
    exact Nat.Coprime.pow_left k (Nat.Coprime.pow_right 64 (Nat.Coprime.pow_right 64 c))
  have := Nat.le_of_dvd (by omega) (c2.dvd_of_dvd_mul_right hk)
  omega
theorem big_bits : (Builtin.Int.intBits 13 : Int) * 64 ≤ 2 ^ 27 ∧ (Builtin.Int.intBits (13 ^ (64 : Int).toNat) : Int) * 64 ≤ 2 ^ 27 := by decide +kernel
end KL
/-! exceptions: several except clauses with names, isinstance of an exception that has a dict, facts of classes -/
namespace PySem.W
open PySem PySem.Spec PySem.Calls PyProof.Rows
section
variable {prog : Program} {w : World} {A : Around} {E : Value → Shared → Prop} {s : Shared} {K : Frag} {x D : Addr} {ox : Obj} {od : Option Obj}
theorem findObj_dataG {C : Addr} {name : Str} {a g : Value} (hc : (clsIn K C).isSome = true) (ha : findIn K (.ref C) name = some (some a)) (hg : specialIn K a "__get__" = some (some g)) (ht : takesIn K a = some true) : findObj K C od name = some (.bind g a) := by
  obtain ⟨cd, hc⟩ := Option.isSome_iff_exists.mp hc
  unfold findObj
  rw [hc, Option.bind_some, ha, Option.bind_some]
  simp [hg, ht]
theorem kin_classG {Q : Option Value → Shared → Prop} (hga : findIn K (.ref D) "__getattribute__" = some (some (.builtin "BaseException.__getattribute__"))) (hgt : findIn K (.ref D) "__getattr__" = some none) (hsub : subIn K (.ref D) (.type "BaseException") = some true)
    (hdct : hasDictIn K D = true) (ha : findIn K (.ref D) "__class__" = some (some (.builtin "object.__class__")))
    (hn : specialIn K (.builtin "object.__class__") "__get__" = some (some (.builtin "getset_descriptor.__get__"))) (htk : takesIn K (.builtin "object.__class__") = some true) (hm : mroIn K D (.type "object") = some true)
    (X : K.In s.heap) (I : InstAt s.heap x ox D od) (h : Q (some (.ref D)) { s with toks := s.toks + 1 }) : wpAny (model prog w) A (getAttr? (.ref x) "__class__") Q E s := by
  have found : findObj K D od "__class__" = some (.bind (.builtin "getset_descriptor.__get__") (.builtin "object.__class__")) := findObj_dataG (by obtain ⟨_, e, _⟩ := any_some hdct; simp [e]) ha hn htk
  have two : (Value.builtin "BaseException.__getattribute__" == Value.builtin "object.__getattribute__") = false := by decide +kernel
  have typ := I.type (M := model prog w)
  obtain ⟨hp, g, d, t, os⟩ := s
  have isB : Looks (model prog w) hp (isInstance (.ref x) (.type "BaseException")) true := typ.andThen (looks_subIn X hsub)
  -- the built-in reader itself
  have reads : ∀ {P : Value → Shared → Prop} {E' : Value → Shared → Prop} {A' : Around}, P (.ref D) ⟨hp, g, d, t + 1, os⟩ → wpAny (model prog w) A' (call (.builtin "BaseException.__getattribute__") [.ref x, .str "__class__" t]) P E' ⟨hp, g, d, t + 1, os⟩ := fun {P E' A'} p => by
    refine wpAny_call (codeAny_call_builtin PySem.F.excAttr_ValueError.ga.plain PySem.F.entry_bexc_ga (@check_slot (model prog w) _ _ ⟨hp, g, d, t + 1, os⟩ "BaseException.__getattribute__" "BaseException" "__getattribute__" (.ref x) [.str "__class__" t] [] _ (by decide +kernel) (by decide +kernel) isB (PySem.F.args_bexc_ga (.ref x) (.str "__class__" t)) ?_))
    unfold Builtin.«object.__getattribute__»
    refine wpAny_bind (wpAny_of_eq (a := ((Value.ref x : Value), [Value.str "__class__" t])) (by first | rfl | (simp only [slotArgs]; rfl)) ?_)
    refine wpAny_bind (wpAny_pure (wpAny_bind (typ.at (wpAny_bind ((looks_find X I found).at ?_)))))
    show wpAny _ _ (holding [Value.builtin "object.__class__"] (call (.builtin "getset_descriptor.__get__") [.builtin "object.__class__", .ref x, .ref D]) >>= ret) _ _ _
    exact wpAny_bind (wpAny_holding (wpAny_call (class_get (s := ⟨hp, g, d, t + 1, os⟩) (od := od) X I hm (wpAny_pure p))))
  unfold getAttr? getAttrBy? getAttrBy
  refine wpAny_bind (wpAny_mkText (wpAny_bind (wpAny_attempt (wpAny_holding (wpAny_bind (typ.at (wpAny_bind ((looks_findIn X hga).at ?_))))))))
  show wpAny _ _ (if (onTheHeap (Value.ref D) && Value.builtin "BaseException.__getattribute__" == Value.builtin "object.__getattribute__") = true then _ else _) _ _ _
  rw [two, Bool.and_false, if_neg Bool.false_ne_true]
  unfold getAttrByItsOwn hookBefore
  refine wpAny_bind ?_
  rw [if_pos (show onTheHeap (Value.ref D) = true by rfl)]
  refine (looks_findIn X hgt).at (wpAny_bind (wpAny_attempt (wpAny_holding ?_)))
  unfold callGetattribute boundAndCalled
  rw [Bool.false_and, if_neg Bool.false_ne_true, PySem.F.excAttr_ValueError.ga.bind (.ref x)]
  refine wpAny_bind (wpAny_pure (reads ?_))
  show wpAny _ _ (handedOut (.ref D)) _ _ _
  rw [handedOut_of (rfl : handedIn (.ref D) = true)]
  first
    | exact wpAny_pure (wpAny_pure h)
    | exact wpAny_pure h
    | exact wpAny_pure (wpAny_bind (wpAny_pure (wpAny_pure h)))
theorem kitx_excG (hga : findIn K (.ref D) "__getattribute__" = some (some (.builtin "BaseException.__getattribute__"))) (hgt : findIn K (.ref D) "__getattr__" = some none) (hsub : subIn K (.ref D) (.type "BaseException") = some true) (hdct : hasDictIn K D = true) (ha : findIn K (.ref D) "__class__" = some (some (.builtin "object.__class__")))
    (hn : specialIn K (.builtin "object.__class__") "__get__" = some (some (.builtin "getset_descriptor.__get__"))) (htk : takesIn K (.builtin "object.__class__") = some true) (hm : mroIn K D (.type "object") = some true) :
    KitX K (.ref x) (.ref D) (fun h => InstAt h x ox D od) where
  ty := fun _ _ _ I => I.type
  it := fun _ _ X _ => by
    obtain ⟨cd, hc, _⟩ := any_some hdct
    revert hc
    unfold clsIn
    split
    · rename_i ho
      exact fun _ A' Q' E' s' k q => by unfold isType loadHead; exact wpAny_bind (wpAny_loadPart (k _ _ (X _ _ ho)) (wpAny_pure q))
    · exact fun z => by cases z
  ne := (handS_kitx_exc (x := x) (ox := ox) hga hgt hsub hdct ha hn htk hm).ne
  ca := fun X I k => kin_classG hga hgt hsub hdct ha hn htk hm X I k
end
end PySem.W
namespace KL
open PySem PySem.Spec PyProof.Rows L2 GA GxR
/-! ### isinstance(e, c), e the exception that the suite holds; cls its class, d its dict -/
def rIsG (K : PySem.W.Frag) (a : Addr) (cls : Value) (d : Option Addr) : List V → Hp → VK → Prop := fun xs H Q => ∃ (D : Addr) (c : V) (cv : Value) (b : Bool), cls = .ref D ∧ ExcC K D ∧ xs = [.ref a, c] ∧ (∀ u, RelV c u → u = cv) ∧ PySem.W.kitOne K (.ref D) cv = some b ∧
  (d = none ∨ ∃ (dd : Addr) (fs : List (Str × V)), d = some dd ∧ H dd = some (.xd fs)) ∧ Q (.bl b) H
/-- the exception's object with or without its dict, as isinstance meets it -/
theorem inst_of {X : Cx} {pins : List (Addr × Obj)} {σ : L2.St} {H : Hp} {s : Shared} {a D : Addr} {oe : Obj} {d : Option Addr} (I : Inv X pins σ H s) (at_ : s.heap.get? a = some oe) (hz : Zc (.ref D) d oe) (hf : ∃ vs, oe.data = .fields vs) (hd : d = none ∨ ∃ (dd : Addr) (fs : List (Str × V)), d = some dd ∧ H dd = some (.xd fs)) : ∃ od, PySem.W.InstAt s.heap a oe D od := by
  obtain ⟨vs, hv⟩ := hf
  have nc : PySem.W.notCls oe = true := by unfold PySem.W.notCls; rw [hv] <;> rfl
  rcases hd with e | ⟨dd, fs, e, ea⟩
  · exact ⟨none, at_, hz.1, nc, by rw [hz.2, e]; trivial⟩
  · have told : ObjOk X.prog X.w H s.heap dd (.xd fs) := I.hok dd _ ea
    obtain ⟨mA, hns, _⟩ := told
    obtain ⟨od, ho, _⟩ := lookIn_ns hns
    exact ⟨some od, at_, hz.1, nc, by rw [hz.2, e]; exact ho⟩
theorem call_isG {X : Cx} {K : PySem.W.Frag} {a : Addr} {oe : Obj} {cls : Value} {d : Option Addr} {pn : List (Addr × Obj)} (hK : X.K = K) (hz : Zc cls d oe) (hf : ∃ vs, oe.data = .fields vs) : CallR (X.suite a ((a, oe) :: pn)) (.builtin "isinstance") (rIsG K a cls d) := by
  subst hK
  intro pins s σ H xs us Q I r ⟨D, c, cv, b, ec, C, ex, hcv, e, hd, q⟩
  subst ec ex
  match us, r with
  | [_, _], .cons rx (.cons rt .nil) =>
    cases rx
    cases hcv _ rt
    have held := (I.pin (a, oe) (List.mem_append.mpr (.inl (List.mem_cons_self ..)))).1
    obtain ⟨od, J⟩ := inst_of I held hz hf hd
    exact PySem.W.kia_one (PySem.W.kitx_excG C.hg C.hk C.hs C.hd C.ha C.hn C.ht C.hm) I.kIn J e (fun z => by cases z) fun tk => ⟨.bl b, H, I.kept (t' := tk) (fun _ _ z => z), rfl, q⟩
/-! ### an exception that has landed where the clauses are looked at -/
structure Lnd (X : Cx) (pins : List (Addr × Obj)) (σ : L2.St) (H : Hp) (s : Shared) (B : Heap) (a : Addr) (cls : Value) (d : Option Addr) : Prop where
  was : ∃ sI : Shared, Inv X pins σ H sI ∧ (∀ b o, sI.heap.get? b = some o → b ∉ frs X.stack → B.get? b = some o) ∧ sI.heap.UpToSlots s.heap ∧ s.os = sI.os
  bare : AllBare s.gens
  no : H a = none
  fly : HandSPX.FlyingZ B (X.env :: X.outer) a (Zc cls d) s.heap
section
variable {X : Cx} {pins : List (Addr × Obj)} {σ : L2.St} {H : Hp} {s : Shared} {B : Heap} {a : Addr} {cls : Value} {d : Option Addr} {D : Ends} {Wout : WX}
theorem Lnd.inv (l : Lnd X pins σ H s B a cls d) : Inv X pins σ H s := by
  obtain ⟨sI, I, nb, up, os⟩ := l.was
  exact I.landed nb l.fly.1 up os l.bare
theorem Lnd.next {h : Heap} (l : Lnd X pins σ H s B a cls d) (f : HandSPX.FlyingZ B (X.env :: X.outer) a (Zc cls d) h) (up : s.heap.UpToSlots h) : Lnd X pins σ H { s with heap := h } B a cls d := by
  obtain ⟨sI, I, nb, u0, os⟩ := l.was
  exact ⟨⟨sI, I, nb, u0.trans up, os⟩, l.bare, l.no, f⟩
/-- the state as the suite of a clause has it -/
theorem Lnd.inside (l : Lnd X pins σ H s B a cls d) (hf : X.env.frame = some X.env.locals) : ∃ oe, s.heap.get? a = some oe ∧ Zc cls d oe ∧ (∃ vs, oe.data = .fields vs) ∧ Inv (X.suite a ((a, oe) :: (X.pn ++ pins))) [] σ H s := by
  obtain ⟨oe, vs, at_, hz, hd⟩ := l.fly.there
  have far : a ∉ frs (X.env :: X.outer) := fun hm => by
    obtain ⟨_, o, e, apart⟩ := l.fly.2.2.1.mem hm
    rw [at_] at e
    cases e
    exact apart _ hd
  refine ⟨oe, at_, hz, ⟨vs, hd⟩, l.inv.suite at_ hd l.no (fun z => far ?_) fun hm => far ?_⟩
  · exact List.mem_filterMap.mpr ⟨X.env, List.mem_cons_self .., by rw [hf, z]⟩
  · obtain ⟨e, he, q⟩ := List.mem_filterMap.mp hm
    exact List.mem_filterMap.mpr ⟨e, List.mem_cons_of_mem _ he, q⟩
/-- no clause takes it -/
theorem Lnd.out (l : Lnd X pins σ H s B a cls d) (hs : X.stack = X.env :: X.outer) (hf : X.env.frame = some X.env.locals) (tk : Takes X Wout) (w : Wout cls d σ H) : wpAny (model X.prog X.w) X.A (handleBy (.ref a) X.env []) (SP X pins D) X.xe s := by
  obtain ⟨_, _, _, _, _, T, _, _, he, _, hd, h1, _⟩ := id l.fly
  have up : wpAny (model X.prog X.w) X.A (setFlight (.ref a) X.env.frame) (fun _ s4 => wpAny (model X.prog X.w) X.A (throw (.ref a) : Sem Flow) (SP X pins D) X.xe s4) X.xe s := by
    rw [hf]
    refine HandSPX.setFlight_upZ l.fly fun h hh u => wpAny_throw (tk _ _ ?_)
    obtain ⟨sI, I, nb, u0, os⟩ := l.was
    exact ⟨a, B, sI, pins, σ, H, cls, d, rfl, I, nb, u0.trans u, .inr (.inr (by rw [hs]; exact hh)), l.no, os, l.bare, w⟩
  refine wpAny_handleBy_nil ?_
  unfold PySem.passOn
  refine wpAny_bind (wpAny_field he hd h1 ?_)
  rw [if_neg (by simp : ¬ ((Value.ref T == Value.none) = true))]
  first
    | exact wpAny_bind (wpAny_pure (wpAny_bind up))
    | exact wpAny_bind up
/-- what the clause's class answers -/
theorem Lnd.asked {x : Str} {np : Pos} {c : Value} {b : Bool} {R : Bool → Shared → Prop} {E1 E2 : Value → Shared → Prop} (l : Lnd X pins σ H s B a cls d) (hf : X.env.frame = some X.env.locals) (hc : Names X x c) (e : PySem.W.exmOne X.K cls c = some b) (q : R b s) :
    wpAny (model X.prog X.w) (X.A.mark (some (.ref a))) (eval (.Name x np) X.env) (fun v s₁ => wpAny (model X.prog X.w) (X.A.mark (some (.ref a))) (excMatches (.ref a) v) R E1 s₁) E2 s := by
  obtain ⟨oe, at_, hz, _, S⟩ := l.inside hf
  have typ : PySem.W.Looks (model X.prog X.w) s.heap (typeOf (.ref a)) cls := fun _ _ _ _ k y => wpAny_typeOf_ref (k _ _ at_) (hz.1.symm ▸ y)
  have ans := (PySem.W.exm_one (M := model X.prog X.w) l.inv.kIn typ e).here (A := X.A.mark (some (.ref a))) (E := E1) q
  obtain ⟨hg, hdb, hm⟩ := hc
  rcases hm with hm | ⟨hm, hv, hn⟩
  · exact ld_glob (X := X.suite a ((a, oe) :: (X.pn ++ pins))) S hg hm ans hdb
  · exact ld_blt (X := X.suite a ((a, oe) :: (X.pn ++ pins))) S hg hm hv ans hn hdb
end
/-! ### try with several clauses, each with a name or without -/
abbrev Cls := Value × Option Nat × (Addr → Value → Option Addr → TS)
def forgets (D : Ends) : Option Nat → Ends
  | none => D
  | some i => { nx := fun σ' H' => D.nx (σ'.set i none) H', rt := D.rt, bk := fun σ' H' => D.bk (σ'.set i none) H', ct := fun σ' H' => D.ct (σ'.set i none) H' }
def binds (a : Addr) (σ : L2.St) : Option Nat → L2.St
  | none => σ
  | some i => σ.set i (some (.ref a))
def wNam (K : PySem.W.Frag) (Wout : WX) (D : Ends) : List Cls → WX
  | [] => Wout
  | (c, oi, ts) :: r => fun cls d σ H => ∃ b, PySem.W.exmOne K cls c = some b ∧ (b = true → ∀ a, H a = none → ts a cls d (forgets D oi) (binds a σ oi) H) ∧ (b = false → wNam K Wout D r cls d σ H)
/-- the name of a clause is a slot of the def -/
def NamOk (X : Cx) : Option Str → Option Nat → Prop
  | none, none => True
  | some n, some i => X.N[i]? = some n ∧ X.env.kindOf n = some .local
  | _, _ => False
inductive HdsN (X : Cx) : List ExceptHandler → List Cls → Prop
  | nil : HdsN X [] []
  | cons {x : Str} {c : Value} {on : Option Str} {oi : Option Nat} {ts : Addr → Value → Option Addr → TS} {b₀ : Stmt} {more : List Stmt} {np pos : Pos} {hds : List ExceptHandler} {l : List Cls} (hn : NamOk X on oi) (hc : Names X x c)
      (suite : ∀ (a : Addr) (oe : Obj) (cls : Value) (d : Option Addr) (pn : List (Addr × Obj)), Zc cls d oe → (∃ vs, oe.data = .fields vs) → PSs (X.suite a ((a, oe) :: pn)) (b₀ :: more) (ts a cls d)) (r : HdsN X hds l) :
      HdsN X (.ExceptHandler (some (.Name x np)) on (b₀ :: more) pos :: hds) ((c, oi, ts) :: l)
section
variable {X : Cx} {pins : List (Addr × Obj)} {D : Ends} {Wout : WX}
theorem Lnd.told (hs : X.stack = X.env :: X.outer) (hf : X.env.frame = some X.env.locals) (hN : X.N.Nodup) (tk : Takes X Wout) {B : Heap} {a : Addr} {cls : Value} {d : Option Addr} {σ : L2.St} {H : Hp} {s : Shared} (l : Lnd X pins σ H s B a cls d) :
    ∀ {hds : List ExceptHandler} {cs : List Cls}, HdsN X hds cs → wNam X.K Wout D cs cls d σ H → wpAny (model X.prog X.w) X.A (handleBy (.ref a) X.env hds) (SP X pins D) X.xe s := by
  intro hds cs hk
  induction hk with
  | nil => exact fun w => l.out hs hf tk w
  | @cons x c on oi ts b₀ more np pos hds cs hn hc suite r ih =>
    intro ⟨b, hb, yes, no⟩
    refine wpAny_handleBy_cons (codeAny_handlers_test (l.asked hf hc hb ?_)) (by intro q; cases q)
    cases b with
    | false => exact ih (no rfl)
    | true =>
      have ok := l.inv.ok
      match on, oi, hn with
      | none, none, _ =>
        refine codeAny_handlers_suite (HandSPX.lands_againZ l.fly fun h fl up => ?_)
        obtain ⟨oe, _, hz, hd, S⟩ := (l.next fl up).inside hf
        refine wpAny_mono ((suite a oe cls d (X.pn ++ pins) hz hd).run [] _ _ H _ S (yes rfl a l.no)) (fun f z q => ?_) (fun _ _ z => z.elim)
        match f, q with
        | .next, ⟨_, _, S', q⟩ => exact ⟨_, _, S'.unsuite ok, q⟩
        | .brk, ⟨_, _, S', q⟩ => exact ⟨_, _, S'.unsuite ok, q⟩
        | .cont, ⟨_, _, S', q⟩ => exact ⟨_, _, S'.unsuite ok, q⟩
        | .ret _, ⟨_, _, _, S', rv, q⟩ => exact ⟨_, _, _, S'.unsuite ok, rv, q⟩
      | some n, some i, ⟨hi, hl⟩ =>
        refine codeAny_handlers_suite_as (HandSPX.lands_againZ l.fly fun h fl up => ?_)
        obtain ⟨oe, _, hz, hd, S⟩ := (l.next fl up).inside hf
        refine store_ok (X := X.suite a ((a, oe) :: (X.pn ++ pins))) (v := .ref a) S hN hi (.inl hl) rfl (fun z S5 => ?_) (.inr hl)
        have ends : ∀ {z' : Shared} {σ' : L2.St} {H' : Hp} {G : Shared → Prop}, Inv (X.suite a ((a, oe) :: (X.pn ++ pins))) [] σ' H' z' → (∀ y, Inv X pins (σ'.set i none) H' y → G y) → wpAny (model X.prog X.w) X.A (do bindName X.env n .none; unbindBehindTheSuite X.env n pos) (fun _ y => G y) X.xe z' :=
          fun S' g => gone_ok (S'.unsuite ok) hN hi hl g
        refine wpAny_mono ((suite a oe cls d (X.pn ++ pins) hz hd).run [] z _ H _ S5 (yes rfl a l.no)) (fun f z' q => ?_) (fun _ _ z => z.elim)
        match f, q with
        | .next, ⟨_, _, S', q⟩ => exact ends S' fun y J => ⟨_, _, J, q⟩
        | .brk, ⟨_, _, S', q⟩ => exact ends S' fun y J => ⟨_, _, J, q⟩
        | .cont, ⟨_, _, S', q⟩ => exact ends S' fun y J => ⟨_, _, J, q⟩
        | .ret _, ⟨_, _, _, S', rv, q⟩ => exact ends S' fun y J => ⟨_, _, _, J, rv, q⟩
/-- the wish behind a landing: what the clauses do of what has been raised -/
abbrev lands (X : Cx) (pins : List (Addr × Obj)) (D : Ends) (hds : List ExceptHandler) : Value → Shared → Prop := fun e s₁ =>
  wpAny (model X.prog X.w) X.A (noteFrame e X.env) (fun _ s₂ => wpAny (model X.prog X.w) X.A (setFlight e none) (fun _ s₃ => wpAny (model X.prog X.w) X.A (handleBy e X.env hds) (SP X pins D) X.xe s₃) X.xe s₂) X.xe s₁
theorem ps_try_nam {body : List Stmt} {h₀ : ExceptHandler} {hds : List ExceptHandler} {cs : List Cls} {pos : Pos} {tb : WX → TS} (hs : X.stack = X.env :: X.outer) (hf : X.env.frame = some X.env.locals) (hN : X.N.Nodup) (tk : Takes X Wout)
    (hb : ∀ (W : WX) (pn : List (Addr × Obj)) (xe : Value → Shared → Prop), Takes (X.tr pn xe) W → PassesOwn (model X.prog X.w) X.A X.env xe → PSs (X.tr pn xe) body (tb W)) (hh : HdsN X (h₀ :: hds) cs) :
    PS X (.Try body (h₀ :: hds) [] [] pos) (fun D σ H => tb (wNam X.K Wout D cs) D σ H) := by
  refine ⟨fun pins s σ H D I h => wpAny_Try_except ?_⟩
  have ok := I.ok
  have frames : X.A.frames = some (X.env :: X.outer) := ok.frames.trans (congrArg some hs)
  have caught : Takes (X.tr (X.pn ++ pins) (lands X pins D (h₀ :: hds))) (wNam X.K Wout D cs) := by
    rintro _ s' ⟨a, B, sI, pins', σ', H', cls, d, rfl, J', nb, up, sky, na, os, ag, w⟩
    have sky2 : Sky B (X.env :: X.outer) a (Zc cls d) X.env.locals s'.heap := by rw [← hs]; exact sky
    refine sky2.land Zc.steady frames hf fun h3 fl3 up3 => ?_
    have l : Lnd X pins σ' H' { s' with heap := h3 } B a cls d := ⟨⟨sI, J'.ofTry ok, nb, up.trans up3, os⟩, ag, na, fl3⟩
    exact l.told hs hf hN tk hh w
  refine wpAny_mono ((hb _ (X.pn ++ pins) (lands X pins D (h₀ :: hds)) caught PassesOwn.looking).run [] s σ H D (I.toTry _) h) (fun f s1 q => ?_) (fun _ _ he => he)
  match f, q with
  | .next, ⟨_, _, J, q⟩ => exact wpAny_execs_nil ⟨_, _, J.ofTry ok, q⟩
  | .brk, ⟨_, _, J, q⟩ => exact ⟨_, _, J.ofTry ok, q⟩
  | .cont, ⟨_, _, J, q⟩ => exact ⟨_, _, J.ofTry ok, q⟩
  | .ret _, ⟨_, _, _, J, r, q⟩ => exact ⟨_, _, _, J.ofTry ok, r, q⟩
end
end KL
/-! exception classes of the program as facts; a class with one field -/
namespace KL
open PySem PySem.Spec PyProof.Rows L2 GA GxR
def fdA (K : PySem.W.Frag) (a : Addr) : FuncData := match K.lookup a with
  | some ⟨_, _, .func fd, _⟩ => fd
  | _ => PySem.W.fnOf "" "" { posonlyargs := [], args := [], vararg := none, kwonlyargs := [], kw_defaults := [], kwarg := none, defaults := [] } [] { kind := .function, names := [], isGenerator := false, isCoroutine := false } .none .none .none .none none .none .none
theorem fun_ofA {K : PySem.W.Frag} {x q : Str} {st : Stmt} {a : Addr} (h : ∃ fd, FunD K x q (defArgs st) (defBody st) (defScope st) [] [] a fd) : Fun K x q st a (fdA K a) := by
  obtain ⟨fd, F⟩ := h
  obtain ⟨oc, od, dV, kV, doc, pm, an, cdv, ct, osl, e, lk, hcd, hD, hK⟩ := F.ex
  have ed : dV = .none := hD.elim (fun z => z.2) fun z => absurd rfl z.1
  subst ed
  have ef : fdA K a = fd := by unfold fdA; rw [lk]
  exact ef.symm ▸ ⟨⟨oc, od, kV, doc, pm, an, cdv, ct, osl, e, lk, hcd⟩, F.kp⟩
def clsBody : Stmt → Nat → Stmt
  | .ClassDef _ _ _ b _ _ _ _ _ _ _, i => b.getD i (.Pass ⟨0, 0, 0, 0⟩)
  | s, _ => s
/-- an exception class of the program -/
structure ExT (K : PySem.W.Frag) (mg : Str → Option Value) (x : Str) : Prop where
  g : mg x = some (.ref (He.ga K x))
  k : PySem.W.keepIn K (.ref (He.ga K x)) = true
  b : PySem.W.subIn K (.ref (He.ga K x)) (.type "BaseException") = some true
  t : PySem.W.typeIn K (.ref (He.ga K x)) = some (.type "type")
  E : ExcC K (He.ga K x)
def extB (K : PySem.W.Frag) (x : Str) : Bool := He.eqO (PySem.W.nsIn K mainGlobals x) (some (some (.ref (He.ga K x)))) && (PySem.W.keepIn K (.ref (He.ga K x)) && (decide (PySem.W.subIn K (.ref (He.ga K x)) (.type "BaseException") = some true) && (decide (PySem.W.typeIn K (.ref (He.ga K x)) = some (.type "type")) &&
  (He.eqO (PySem.W.findIn K (.ref (He.ga K x)) "__getattribute__") (some (some (.builtin "BaseException.__getattribute__"))) && (He.eqO (PySem.W.findIn K (.ref (He.ga K x)) "__getattr__") (some none) && (PySem.W.hasDictIn K (He.ga K x) &&
  (He.eqO (PySem.W.findIn K (.ref (He.ga K x)) "__class__") (some (some (.builtin "object.__class__"))) && (He.eqO (PySem.W.specialIn K (.builtin "object.__class__") "__get__") (some (some (.builtin "getset_descriptor.__get__"))) && (decide (PySem.W.takesIn K (.builtin "object.__class__") = some true) && decide (PySem.W.mroIn K (He.ga K x) (.type "object") = some true))))))))))
theorem ext_ok {K : PySem.W.Frag} {h : Heap} {mg : Str → Option Value} {x : Str} (X : K.In h) (G : h.Ns mainGlobals mg) (q : extB K x = true) : ExT K mg x := by
  unfold extB at q
  simp only [Bool.and_eq_true, decide_eq_true_iff] at q
  obtain ⟨q1, q2, q3, q4, q5, q6, q7, q8, q9, q10, q11⟩ := q
  exact ⟨PySem.W.mg_of X G (He.eqO_ok q1), q2, q3, q4, He.eqO_ok q5, He.eqO_ok q6, q3, q7, He.eqO_ok q8, He.eqO_ok q9, q10, q11⟩
/-- one with an __init__ that stores one field -/
structure ExI (K : PySem.W.Frag) (x f : Str) : Prop where
  o : OexC K (He.ga K x)
  i : PySem.W.findIn K (.ref (He.ga K x)) "__init__" = some (some (.ref (He.ma K (He.ga K x) "__init__")))
  ti : PySem.W.typeIn K (.ref (He.ma K (He.ga K x) "__init__")) = some (.type "function")
  no : PySem.W.findIn K (.ref (He.ga K x)) f = some none
  xf : XfC K (He.ga K x)
def shapeB (K : PySem.W.Frag) (C : Addr) : Bool := match K.lookup C with
  | some ⟨.type "type", _, .cls cd, sl⟩ => (match cd.mro, sl.toList with
    | .ref C' :: bm, [_, _, _, _, some (.builtin n), _] => decide (C' = C) && (decide (n = "ValueError.__new__") && (!cd.hasDel && (cd.hasDict && PySem.HandSPX.refsVE bm)))
    | _, _ => false)
  | _ => false
theorem shape_ok {K : PySem.W.Frag} {C : Addr} (q : shapeB K C = true) : ∃ nm q N bs bm sn sub ab col dd k0 k1 k2 k3 k5, K.lookup C = some (excClassObj nm q C N bs bm true sn sub ab col dd k0 k1 k2 k3 k5 "ValueError.__new__") ∧ PySem.HandSPX.refsVE bm = true := by
  unfold shapeB at q
  split at q
  · rename_i dd cd sl ho
    split at q
    · rename_i C' bm k0 k1 k2 k3 n k5 hm hs
      simp only [Bool.and_eq_true, decide_eq_true_iff, Bool.not_eq_true'] at q
      obtain ⟨rfl, rfl, hdel, hdict, ht⟩ := q
      obtain ⟨nm, bs, mro, ns, qn, hd, sn, sub, ab, col, del⟩ := cd
      dsimp only at hm hdel hdict
      subst hm hdel hdict
      obtain ⟨l⟩ := sl
      dsimp only at hs
      subst hs
      exact ⟨nm, qn, ns, bs, bm, sn, sub, ab, col, dd, k0, k1, k2, k3, k5, ho, ht⟩
    · cases q
  · cases q
def exiB (K : PySem.W.Frag) (x f : Str) : Bool := shapeB K (He.ga K x) && (He.eqO (PySem.W.findIn K (.ref (He.ga K x)) "__setattr__") (some (some (.builtin "object.__setattr__"))) && (He.eqO (PySem.W.findIn K (.ref (He.ga K x)) "__init__") (some (some (.ref (He.ma K (He.ga K x) "__init__")))) &&
  (decide (PySem.W.typeIn K (.ref (He.ma K (He.ga K x) "__init__")) = some (.type "function")) && He.eqO (PySem.W.findIn K (.ref (He.ga K x)) f) (some none))))
theorem exi_ok {K : PySem.W.Frag} {mg : Str → Option Value} {x f : Str} (T : ExT K mg x) (q : exiB K x f = true) : ExI K x f := by
  unfold exiB at q
  simp only [Bool.and_eq_true, decide_eq_true_iff] at q
  obtain ⟨q1, q2, q3, q4, q5⟩ := q
  exact ⟨⟨shape_ok q1, He.eqO_ok q2, T.b, T.t, T.k⟩, He.eqO_ok q3, q4, He.eqO_ok q5, T.E.hg, T.E.hk, T.b, T.E.hd⟩
def plainB (K : PySem.W.Frag) (x : Str) : Bool := PySem.W.excIn K (He.ga K x) He.veBase "ValueError.__new__"
def exmB (K : PySem.W.Frag) (x y : Str) (b : Bool) : Bool := decide (PySem.W.exmOne K (.ref (He.ga K x)) (.ref (He.ga K y)) = some b)
def kitB (K : PySem.W.Frag) (x : Str) (c : Value) : Bool := decide (PySem.W.kitOne K (.ref (He.ga K x)) c = some true)
/-! ### __init__ that stores its one argument -/
def spInitK (K : PySem.W.Frag) (f : Str) : Sp := fun vs H Q _ => ∃ (a C : Addr) (v : V), vs = [.ref a, v] ∧ OexC K C ∧ PySem.W.findIn K (.ref C) f = some none ∧ H a = some (exo a C none) ∧ ∀ dx, H dx = none → dx ≠ a → Q .non (upd (upd H dx (exd dx [(f, v)])) a (exo a C (some dx)))
theorem made_heap {H : Hp} {a dx : Addr} {o u v : HO} (h : H a = none) (n : dx ≠ a) {r : HO} : upd (del (upd (upd (upd H a o) dx u) a v) a) dx r = upd H dx r := by
  funext b
  by_cases hb : b = dx
  · rw [hb, upd_same, upd_same]
  · rw [upd_ne hb, upd_ne hb]
    by_cases ha : b = a
    · rw [ha, del_same, h]
    · rw [del_ne ha, upd_ne ha, upd_ne hb, upd_ne ha]
section
variable {X : Cx} {x f : Str} {e : Expr} {te : TE} {p pos : Pos} {fd : FuncData} {ps : List Str} {k : Nat} {mg : Str → Option Value} {K : PySem.W.Frag}
/-- x(e), as something to be raised -/
def tMk1 (C : Addr) (f : Str) (te : TE) : L2.St → Hp → XK → Prop := fun σ H Q => te σ H fun v H1 => ∀ dx, H1 dx = none → Q (.ref C) (some dx) (upd H1 dx (.xd [(f, v)]))
theorem pmk_one (hK : X.K = K) (I : ExI K x f) (T : ExT K X.mg x) (F : FnOk X.prog X.w X.K X.mg X.base CX0 k (He.ma K (He.ga K x) "__init__") fd ps (spInitK K f)) (hr : Room (k + 1) X.A) (hb : Binds K fd ps []) (hg : Gl X x) (he : PE X e te) (hdb : (x == ("__debug__" : Str)) = false := by decide)
    (h1 : starEach [e] X.env = (false, eval e X.env) :: starEach [] X.env := by rfl) (mono : ∀ {σ H Q Q'}, (∀ v H', Q v H' → Q' v H') → te σ H Q → te σ H Q') : PMk X (.Call (.Name x p) [e] [] pos) (tMk1 (He.ga K x) f te) := by
  subst hK
  intro pins s σ H Q I0 h
  refine pmk_oex I.o I.i I.ti F hr hb .nil pass0 hg T.g (pa_cons he pa_nil (hs := h1)) hdb h1 rfl pins s σ H Q I0 ?_
  refine mono (fun v H1 q => ?_) h
  refine ⟨by show 1 ≤ 1000; decide, fun a na => ⟨a, _, v, rfl, I.o, I.no, upd_same, fun dx nd ne => ⟨rfl, dx, [(f, v)], upd_same, by rw [upd_ne ne]; exact upd_same, by rwa [upd_ne ne] at nd, ?_⟩⟩⟩
  rw [upd_ne ne] at nd
  rw [made_heap na ne]
  exact q dx nd
end
end KL
/-! written data: tuples of ints and of such tuples -/
namespace KL
open PySem PySem.Spec PyProof.Rows L2 GA GxR
inductive Dt where
  | int (i : Int)
  | tup (ds : List Dt)
mutual
inductive Lit (H : Hp) : Dt → V → Prop
  | int (i : Int) : Lit H (.int i) (.int i)
  | tup {a : Addr} {xs : List V} {ds : List Dt} : H a = some (.tup xs) → LitAll H ds xs → Lit H (.tup ds) (.ref a)
inductive LitAll (H : Hp) : List Dt → List V → Prop
  | nil : LitAll H [] []
  | cons {d : Dt} {v : V} {ds : List Dt} {vs : List V} : Lit H d v → LitAll H ds vs → LitAll H (d :: ds) (v :: vs)
end
mutual
theorem Lit.ex {H H' : Hp} (x : Ex H H') : ∀ {d : Dt} {v : V}, Lit H d v → Lit H' d v
  | _, _, .int i => .int i
  | _, _, .tup h t => .tup (x.st _ _ h trivial) (LitAll.ex x t)
theorem LitAll.ex {H H' : Hp} (x : Ex H H') : ∀ {ds : List Dt} {vs : List V}, LitAll H ds vs → LitAll H' ds vs
  | _, _, .nil => .nil
  | _, _, .cons h t => .cons (Lit.ex x h) (LitAll.ex x t)
end
theorem LitAll.len {H : Hp} : ∀ {ds : List Dt} {vs : List V}, LitAll H ds vs → vs.length = ds.length
  | _, _, .nil => rfl
  | _, _, .cons _ t => by rw [List.length_cons, List.length_cons, t.len]
theorem LitAll.app {H : Hp} {ds es : List Dt} {vs ws : List V} (h : LitAll H ds vs) (t : LitAll H es ws) : LitAll H (ds ++ es) (vs ++ ws) := by
  induction ds generalizing vs with
  | nil => cases h; exact t
  | cons d ds ih => cases h with | cons h1 h2 => exact .cons h1 (ih h2)
theorem LitAll.get {H : Hp} : ∀ {ds : List Dt} {vs : List V}, LitAll H ds vs → ∀ (i : Nat) (d : Dt), ds[i]? = some d → ∃ v, vs[i]? = some v ∧ Lit H d v
  | _, _, .nil, i, d, h => by simp at h
  | _, _, .cons h t, 0, d, e => by cases e; exact ⟨_, rfl, h⟩
  | _, _, .cons h t, i + 1, d, e => t.get i d e
theorem Lit.tupE {H : Hp} {ds : List Dt} {v : V} (h : Lit H (.tup ds) v) : ∃ a xs, v = .ref a ∧ H a = some (.tup xs) ∧ LitAll H ds xs := by
  cases h with | tup h t => exact ⟨_, _, rfl, h, t⟩
def lits (f : Expr → Option Dt) : List Expr → Option (List Dt)
  | [] => some []
  | e :: es => (f e).bind fun d => (lits f es).bind fun ds => some (d :: ds)
def litOf : Nat → Expr → Option Dt
  | 0, _ => none
  | _ + 1, .Constant (.int i) _ _ => some (.int i)
  | k + 1, .Tuple es _ _ => (lits (litOf k) es).bind fun ds => if ds.length ≤ 1000 then some (.tup ds) else none
  | _ + 1, _ => none
def tLit (d : Dt) : TE := fun _ H Q => ∀ v H', Ex H H' → Lit H' d v → Q v H'
def tLits (ds : List Dt) : TA := fun _ H Q => ∀ vs H', Ex H H' → LitAll H' ds vs → Q vs H'
section
variable {X : Cx}
theorem starLit {k : Nat} {e : Expr} {d : Dt} (h : litOf k e = some d) (es : List Expr) : starEach (e :: es) X.env = (false, eval e X.env) :: starEach es X.env := by
  cases k with
  | zero => cases h
  | succ k =>
    cases e with
    | Constant c j p => rfl
    | Tuple es2 j p => rfl
    | _ => cases h
theorem pa_litsK {k : Nat} (ih : ∀ e d, litOf k e = some d → PE X e (tLit d)) : ∀ (es : List Expr) (ds : List Dt), lits (litOf k) es = some ds → PA X es (tLits ds)
  | [], ds, h => by
    cases h
    refine ⟨fun pos pins s σ H Q I q => ?_⟩
    exact pa_nil.run pos pins s σ H Q I (q [] H (.refl H) .nil)
  | e :: es, ds, h => by
    have h : ((litOf k e).bind fun d => (lits (litOf k) es).bind fun ds => some (d :: ds)) = some ds := h
    cases h1 : litOf k e with
    | none => rw [h1] at h; cases h
    | some d =>
      rw [h1] at h
      cases h2 : lits (litOf k) es with
      | none => rw [h2] at h; cases h
      | some ds2 =>
        rw [h2] at h
        cases h
        refine ⟨fun pos pins s σ H Q I q => ?_⟩
        refine (pa_cons (ih e d h1) (pa_litsK ih es ds2 h2) (starLit h1 es)).run pos pins s σ H Q I ?_
        intro v H1 x1 l1 vs H2 x2 l2
        exact q (v :: vs) H2 (x1.trans x2) (.cons (l1.ex x2) l2)
theorem pe_litK : ∀ (k : Nat) (e : Expr) (d : Dt), litOf k e = some d → PE X e (tLit d)
  | 0, _, _, h => by cases h
  | k + 1, e, d, h => by
    cases e with
    | Constant c j p =>
      cases c with
      | int i =>
        cases h
        exact ⟨fun pins s σ H Q I q => pe_int.run pins s σ H Q I (q (.int i) H (.refl H) (.int i))⟩
      | _ => cases h
    | Tuple es j p =>
      have h : (lits (litOf k) es).bind (fun ds => if ds.length ≤ 1000 then some (Dt.tup ds) else none) = some d := h
      cases h1 : lits (litOf k) es with
      | none => rw [h1] at h; cases h
      | some ds =>
        rw [h1] at h
        have h : (if ds.length ≤ 1000 then some (Dt.tup ds) else none) = some d := h
        by_cases c : ds.length ≤ 1000
        · rw [if_pos c] at h
          cases h
          refine ⟨fun pins s σ H Q I q => (pe_tup (pa_litsK (fun e d => pe_litK k e d) es ds h1)).run pins s σ H Q I ?_⟩
          intro vs H1 x1 l
          have e := l.len
          refine ⟨by have : (1000 : Nat) ≤ sizeLine := by decide
                     omega, fun p hp => ?_⟩
          exact q (.ref p) _ (x1.trans (Ex.new hp)) (.tup upd_same (l.ex (Ex.new hp)))
        · rw [if_neg c] at h
          cases h
    | _ => cases h
theorem pe_lit {e : Expr} {d : Dt} (h : litOf 6 e = some d := by rfl) : PE X e (tLit d) := pe_litK 6 e d h
theorem pa_lits {es : List Expr} {ds : List Dt} (h : lits (litOf 6) es = some ds := by rfl) : PA X es (tLits ds) := pa_litsK (fun e d => pe_litK 6 e d) es ds h
end
end KL
/-! the known groups -/
namespace KL
open PySem PySem.Spec PyProof.Rows L2 GA GxR
def dtP (p : List Int) : Dt := .tup (p.map .int)
def dtK (k : Nat × Nat × List (List Int)) : Dt := .tup [.int k.1, .int k.2.1, .tup (k.2.2.map dtP)]
def kSmall : List (Nat × Nat × List (List Int)) := [(1, 3, []),
  (1, 1, []),
  (2, 2, [[1, 0]]),
  (3, 3, [[1, 2, 0]]),
  (4, 4, [[1, 2, 3, 0]]),
  (4, 4, [[1, 0, 3, 2], [2, 3, 0, 1]]),
  (4, 4, [[1, 0, 2, 3], [0, 1, 3, 2]]),
  (2, 4, [[1, 0, 3, 2]]),
  (4, 6, [[1, 2, 3, 0, 5, 4]]),
  (5, 5, [[1, 2, 3, 4, 0]]),
  (6, 3, [[1, 2, 0], [1, 0, 2]]),
  (6, 5, [[1, 2, 0, 4, 3]]),
  (6, 5, [[1, 2, 0, 3, 4], [1, 0, 2, 4, 3]]),
  (6, 6, [[1, 2, 0, 4, 5, 3], [3, 5, 4, 0, 2, 1]]),
  (8, 4, [[1, 2, 3, 0], [0, 3, 2, 1]]),
  (9, 6, [[1, 2, 0, 3, 4, 5], [0, 1, 2, 4, 5, 3]]),
  (8, 6, [[1, 0, 2, 3, 4, 5], [0, 1, 3, 2, 4, 5], [0, 1, 2, 3, 5, 4]]),
  (7, 7, [[1, 2, 3, 4, 5, 6, 0]]),
  (8, 8, [[1, 4, 7, 2, 5, 0, 3, 6], [2, 3, 4, 5, 6, 7, 0, 1]]),
  (8, 8, [[1, 0, 3, 2, 5, 4, 7, 6], [2, 3, 0, 1, 6, 7, 4, 5], [4, 5, 6, 7, 0, 1, 2, 3]])]
def kLarge : List (Nat × Nat × List (List Int)) := [(10, 5, [[1, 2, 3, 4, 0], [0, 4, 3, 2, 1]]),
  (12, 4, [[1, 2, 0, 3], [1, 0, 3, 2]]),
  (12, 5, [[1, 2, 0, 3, 4], [1, 0, 2, 3, 4], [0, 1, 2, 4, 3]]),
  (12, 6, [[1, 2, 3, 4, 5, 0], [0, 5, 4, 3, 2, 1]]),
  (12, 6, [[3, 0, 4, 1, 5, 2], [0, 4, 3, 2, 1, 5]]),
  (20, 5, [[1, 2, 3, 4, 0], [0, 2, 4, 1, 3]]),
  (24, 4, [[1, 2, 3, 0], [1, 0, 2, 3]]),
  (24, 6, [[3, 4, 0, 5, 1, 2], [0, 3, 4, 1, 2, 5]]),
  (24, 6, [[1, 0, 2, 3, 4, 5], [2, 3, 4, 5, 0, 1]]),
  (14, 7, [[1, 2, 3, 4, 5, 6, 0], [0, 6, 5, 4, 3, 2, 1]]),
  (21, 7, [[1, 2, 3, 4, 5, 6, 0], [0, 2, 4, 6, 1, 3, 5]]),
  (42, 7, [[1, 2, 3, 4, 5, 6, 0], [0, 3, 6, 2, 5, 1, 4]]),
  (36, 6, [[1, 2, 0, 3, 4, 5], [1, 0, 2, 3, 4, 5], [0, 1, 2, 4, 5, 3], [0, 1, 2, 4, 3, 5]]),
  (72, 6, [[1, 2, 0, 3, 4, 5], [1, 0, 2, 3, 4, 5], [3, 4, 5, 0, 1, 2]]),
  (60, 5, [[1, 2, 3, 4, 0], [1, 2, 0, 3, 4]]),
  (60, 6, [[1, 2, 3, 4, 0, 5], [5, 4, 2, 3, 1, 0]]),
  (120, 5, [[1, 2, 3, 4, 0], [1, 0, 2, 3, 4]]),
  (120, 6, [[1, 2, 3, 4, 0, 5], [5, 4, 2, 3, 1, 0], [0, 2, 4, 1, 3, 5]]),
  (168, 7, [[1, 2, 3, 4, 5, 6, 0], [1, 0, 5, 3, 4, 2, 6]])]
/-- a written list is no row of draws -/
def tupsD : List Dt → Bool
  | [] => true
  | .tup _ :: r => tupsD r
  | .int _ :: _ => false
theorem lits_norow {H : Hp} {ds : List Dt} {vs : List V} (h : LitAll H ds vs) (k : tupsD ds = true) : ¬ RowO (.lst vs) := by
  intro ⟨s, i, j, l, e⟩
  cases e
  cases h with | cons h1 t =>
  cases t with | cons h2 t =>
  cases h2
  cases h1 <;> cases k
theorem tupsD_app : ∀ {a b : List Dt}, tupsD a = true → tupsD b = true → tupsD (a ++ b) = true
  | [], _, _, h => h
  | .tup _ :: r, _, h, k => tupsD_app (a := r) h k
def spLawSmall (L : List (Nat × Nat × List (List Int))) : Sp := fun vs H Q _ => vs = [] ∧ ∀ a ws H', Ex H H' → H' a = some (.lst ws) → LitAll H' (L.map dtK) ws → Q (.ref a) H'
/-- found is the list at a with these data -/
structure Ls (H H' : Hp) (a : Addr) (vs : List V) (ds : List Dt) : Prop where
  x : Ex H H'
  no : H a = none
  at_ : H' a = some (.lst vs)
  lit : LitAll H' ds vs
  tups : tupsD ds = true
theorem Ls.mono {H H' H2 : Hp} {a : Addr} {vs : List V} {ds : List Dt} (l : Ls H H' a vs ds) (x : Ex H' H2) : Ls H H2 a vs ds := ⟨l.x.trans x, l.no, x.st _ _ l.at_ (lits_norow l.lit l.tups), l.lit.ex x, l.tups⟩
theorem Ls.cat1 {H H' H2 : Hp} {a b : Addr} {vs ws : List V} {ds : List Dt} (l : Ls H H' a vs ds) (x : Ex H' H2) (nb : H2 b = none) : upd H2 b (.lst ws) a = some (.lst vs) :=
  (x.trans (Ex.new (o := .lst ws) nb)).st _ _ l.at_ (lits_norow l.lit l.tups)
theorem Ls.cat2 {H H' H2 : Hp} {a b c : Addr} {vs ws : List V} {ds es : List Dt} (l : Ls H H' a vs ds) (x : Ex H' H2) (e : LitAll H2 es ws) (he : tupsD es = true) (nb : H2 b = none) (nc : upd H2 b (.lst ws) c = none) :
    Ls H (upd (upd H2 b (.lst ws)) c (.lst (vs ++ ws))) c (vs ++ ws) (ds ++ es) := by
  have xb := x.trans (Ex.new (o := .lst ws) nb)
  have xc := Ex.new (o := .lst (vs ++ ws)) nc
  exact ⟨(l.x.trans xb).trans xc, (l.x.trans xb).no _ nc, upd_same, ((l.lit.ex xb).app (e.ex (Ex.new nb))).ex xc, tupsD_app l.tups he⟩
theorem Ls.catx {H H' H2 : Hp} {a b c : Addr} {vs ws : List V} {ds : List Dt} (l : Ls H H' a vs ds) (nb : H2 b = none) (nc : upd H2 b (.lst ws) c = none) : Ex H2 (upd (upd H2 b (.lst ws)) c (.lst (vs ++ ws))) := (Ex.new nb).trans (Ex.new nc)
theorem Ls.first {H H2 : Hp} {b : Addr} {ws : List V} {es : List Dt} (x : Ex H H2) (e : LitAll H2 es ws) (he : tupsD es = true) (nb : H2 b = none) : Ls H (upd H2 b (.lst ws)) b ws es :=
  ⟨x.trans (Ex.new nb), x.no _ nb, upd_same, e.ex (Ex.new nb), he⟩
mutual
theorem lit_upd {H : Hp} {a : Addr} {o : HO} (n : ∀ b xs, H b = some (.tup xs) → b ≠ a) : ∀ {d : Dt} {v : V}, Lit H d v → Lit (upd H a o) d v
  | _, _, .int i => .int i
  | _, _, .tup h t => .tup (by rw [upd_ne (n _ _ h)]; exact h) (litAll_upd n t)
theorem litAll_upd {H : Hp} {a : Addr} {o : HO} (n : ∀ b xs, H b = some (.tup xs) → b ≠ a) : ∀ {ds : List Dt} {vs : List V}, LitAll H ds vs → LitAll (upd H a o) ds vs
  | _, _, .nil => .nil
  | _, _, .cons h t => .cons (lit_upd n h) (litAll_upd n t)
end
theorem Ls.push1 {H H' H2 : Hp} {a : Addr} {vs : List V} {ds : List Dt} (l : Ls H H' a vs ds) (x : Ex H' H2) : H2 a = some (.lst vs) := x.st _ _ l.at_ (lits_norow l.lit l.tups)
theorem Ls.push2 {H H' H2 : Hp} {a : Addr} {vs : List V} {v : V} {ds : List Dt} {d : Dt} (l : Ls H H' a vs ds) (x : Ex H' H2) (e : Lit H2 d v) (hd : tupsD [d] = true) : Ls H (upd H2 a (.lst (vs ++ [v]))) a (vs ++ [v]) (ds ++ [d]) := by
  have h := l.push1 x
  have x2 := (l.x.trans x).own (o := .lst (vs ++ [v])) l.no
  refine ⟨x2, l.no, upd_same, ?_, tupsD_app l.tups hd⟩
  have k : LitAll H2 (ds ++ [d]) (vs ++ [v]) := (l.lit.ex x).app (.cons e .nil)
  exact litAll_upd (fun b xs e => by intro z; rw [z, h] at e; cases e) k
end KL
/-! closures -/
namespace KL
open PySem PySem.Spec PyProof.Rows L2 GA GxR
/-- one element's products put in -/
def clo1 (r : List Int) (gs : List (List Int)) (L : List (List Int)) : List (List Int) := gs.foldl (fun L g => if mulL r g ∈ L then L else L ++ [mulL r g]) L
def cloG (gs : List (List Int)) : Nat → Nat → List (List Int) → List (List Int)
  | 0, _, L => L
  | k + 1, i, L => match L[i]? with
    | none => L
    | some r => cloG gs k (i + 1) (clo1 r gs L)
/-- at most m elements -/
def Lim (n : Nat) (gs : List (List Int)) (m : Nat) : Prop := ∃ C : List (List Int), unitL n ∈ C ∧ (∀ c ∈ C, ∀ g ∈ gs, mulL c g ∈ C) ∧ (∀ c ∈ C, IsPm n c) ∧ C.length ≤ m
def pmB (n : Nat) (p : List Int) : Bool := decide (p.length = n) && decide p.Nodup && p.all fun x => decide (0 ≤ x) && decide (x < n)
theorem pm_of {n : Nat} {p : List Int} (h : pmB n p = true) : IsPm n p := by
  unfold pmB at h
  rw [Bool.and_eq_true, Bool.and_eq_true] at h
  refine ⟨of_decide_eq_true h.1.1, of_decide_eq_true h.1.2, fun x hx => ?_⟩
  have := List.all_eq_true.mp h.2 x hx
  rw [Bool.and_eq_true] at this
  exact ⟨of_decide_eq_true this.1, of_decide_eq_true this.2⟩
def limB (k : Nat × Nat × List (List Int)) : Bool :=
  let C := cloG k.2.2 (k.1 + 1) 0 [unitL k.2.1]
  decide (1 ≤ k.2.1) && decide (k.2.1 ≤ 8) && decide (k.1 ≤ 168) && decide (k.2.2.length ≤ 4) && k.2.2.all (pmB k.2.1) && decide (C.length ≤ k.1) && decide (unitL k.2.1 ∈ C) && C.all (fun c => pmB k.2.1 c && k.2.2.all fun g => decide (mulL c g ∈ C))
theorem small_lim : kSmall.all limB = true := by decide +kernel
theorem large_lim : kLarge.all limB = true := by decide +kernel
end KL
/-! groups: conjugated, with further generators -/
namespace KL
open PySem PySem.Spec PyProof.Rows L2 GA GxR
theorem inv_mulL {n : Nat} {p : List Int} (hp : IsPm n p) : mulL (invL p) p = unitL n := by
  have hq := invL_pm hp
  have hr := invL_pm hq
  have e1 := mul_inv hp
  have e2 := mul_inv hq
  have e3 : p = invL (invL p) := by
    have a := mulL_assoc hp hq hr
    rw [e1, e2, unit_mulL hr, mulL_unit hp] at a
    exact a.symm
  have e4 := e2
  rw [← e3] at e4
  exact e4
structure GrpL (n : Nat) (gs : List (List Int)) (m : Nat) : Prop where
  pm : ∀ g ∈ gs, IsPm n g
  lim : Lim n gs m
theorem GrpL.le {n m k : Nat} {gs : List (List Int)} (G : GrpL n gs m) (h : m ≤ k) : GrpL n gs k := by
  obtain ⟨pm, C, h1, h2, h3, h4⟩ := G
  exact ⟨pm, C, h1, h2, h3, Nat.le_trans h4 h⟩
def cjL (h p : List Int) : List Int := mulL (mulL (invL h) p) h
theorem cjL_pm {n : Nat} {h p : List Int} (hh : IsPm n h) (hp : IsPm n p) : IsPm n (cjL h p) := mulL_pm (mulL_pm (invL_pm hh) hp) hh
theorem cjL_unit {n : Nat} {h : List Int} (hh : IsPm n h) : cjL h (unitL n) = unitL n := by
  unfold cjL
  rw [mulL_unit (invL_pm hh), inv_mulL hh]
theorem cjL_mul {n : Nat} {h p q : List Int} (hh : IsPm n h) (hp : IsPm n p) (hq : IsPm n q) : mulL (cjL h p) (cjL h q) = cjL h (mulL p q) := by
  have hi := invL_pm hh
  unfold cjL
  rw [mulL_assoc (mulL_pm hi hp) hh (mulL_pm (mulL_pm hi hq) hh), mulL_assoc hi hq hh, ← mulL_assoc hh hi (mulL_pm hq hh), mul_inv hh, unit_mulL (mulL_pm hq hh), mulL_assoc hi hp (mulL_pm hq hh), ← mulL_assoc hp hq hh, ← mulL_assoc hi (mulL_pm hp hq) hh]
theorem GrpL.conj {n m : Nat} {gs : List (List Int)} {h : List Int} (hh : IsPm n h) (G : GrpL n gs m) : GrpL n (gs.map (cjL h)) m := by
  obtain ⟨pm, C, h1, h2, h3, h4⟩ := G
  refine ⟨fun g hg => ?_, C.map (cjL h), ?_, fun c hc g hg => ?_, fun c hc => ?_, by rw [List.length_map]; exact h4⟩
  · obtain ⟨g0, hg0, rfl⟩ := List.mem_map.mp hg
    exact cjL_pm hh (pm g0 hg0)
  · exact List.mem_map.mpr ⟨_, h1, cjL_unit hh⟩
  · obtain ⟨c0, hc0, rfl⟩ := List.mem_map.mp hc
    obtain ⟨g0, hg0, rfl⟩ := List.mem_map.mp hg
    exact List.mem_map.mpr ⟨_, h2 c0 hc0 g0 hg0, (cjL_mul hh (h3 c0 hc0) (pm g0 hg0)).symm⟩
  · obtain ⟨c0, hc0, rfl⟩ := List.mem_map.mp hc
    exact cjL_pm hh (h3 c0 hc0)
theorem GrpL.more {n m : Nat} {gs : List (List Int)} {a b : List Int} (G : GrpL n gs m) (ha : a ∈ gs) (hb : b ∈ gs) : GrpL n (gs ++ [mulL a b]) m := by
  obtain ⟨pm, C, h1, h2, h3, h4⟩ := G
  refine ⟨fun g hg => ?_, C, h1, fun c hc g hg => ?_, h3, h4⟩
  · rcases List.mem_append.mp hg with hg | hg
    · exact pm g hg
    · rw [List.mem_singleton.mp hg]
      exact mulL_pm (pm a ha) (pm b hb)
  · rcases List.mem_append.mp hg with hg | hg
    · exact h2 c hc g hg
    · rw [List.mem_singleton.mp hg, ← mulL_assoc (h3 c hc) (pm a ha) (pm b hb)]
      exact h2 _ (h2 c hc a ha) b hb
theorem GrpL.unit {n m : Nat} {gs : List (List Int)} (G : GrpL n gs m) : GrpL n (unitL n :: gs) m := by
  obtain ⟨pm, C, h1, h2, h3, h4⟩ := G
  refine ⟨fun g hg => ?_, C, h1, fun c hc g hg => ?_, h3, h4⟩
  · rcases List.mem_cons.mp hg with hg | hg
    · rw [hg]
      exact unit_pm n
    · exact pm g hg
  · rcases List.mem_cons.mp hg with hg | hg
    · rw [hg, mulL_unit (h3 c hc)]
      exact hc
    · exact h2 c hc g hg
theorem every_fine : ∀ n, n < 6 → ((every n).all (pmB n) && decide ((every n).length ≤ if n ≤ 4 then 24 else 120) && decide (unitL n ∈ every n)) = true := by decide +kernel
theorem GrpL.few {n : Nat} {gs : List (List Int)} (h1 : 1 ≤ n) (h5 : n ≤ 5) (pm : ∀ g ∈ gs, IsPm n g) : GrpL n gs (if n ≤ 4 then 24 else 120) := by
  have f := every_fine n (by omega)
  rw [Bool.and_eq_true, Bool.and_eq_true] at f
  have h3 : ∀ c ∈ every n, IsPm n c := fun c hc => pm_of (List.all_eq_true.mp f.1.1 c hc)
  exact ⟨pm, every n, of_decide_eq_true f.2, fun c hc g hg => every_all (mulL_pm (h3 c hc) (pm g hg)) h1 h5, h3, of_decide_eq_true f.1.2⟩
theorem known_lim {k : Nat × Nat × List (List Int)} (h : k ∈ kSmall ++ kLarge) : GrpL k.2.1 k.2.2 k.1 ∧ 1 ≤ k.2.1 ∧ k.2.1 ≤ 8 ∧ k.1 ≤ 168 ∧ k.2.2.length ≤ 4 := by
  have b : limB k = true := by
    rcases List.mem_append.mp h with h | h
    · exact List.all_eq_true.mp small_lim k h
    · exact List.all_eq_true.mp large_lim k h
  unfold limB at b
  simp only [Bool.and_eq_true, decide_eq_true_iff, List.all_eq_true] at b
  obtain ⟨⟨⟨⟨⟨⟨⟨b1, b2⟩, b3⟩, b4⟩, b5⟩, b6⟩, b7⟩, b8⟩ := b
  exact ⟨⟨fun g hg => pm_of (b5 g hg), _, b7, fun c hc g hg => (b8 c hc).2 g hg, fun c hc => pm_of (b8 c hc).1, b6⟩, b1, b2, b3, b4⟩
end KL
/-! groups on the heap, promises -/
namespace KL
open PySem PySem.Spec PyProof.Rows L2 GA GxR
structure GrpAt (H : Hp) (a : Addr) (n : Nat) (gs : List (List Int)) : Prop where
  at_ : ∃ (g : Addr) (As : List Addr), H a = some (.tup [.int n, .ref g]) ∧ H g = some (.tup (As.map V.ref)) ∧ RowsAt H As gs
theorem GrpAt.ex {H H' : Hp} {a : Addr} {n : Nat} {gs : List (List Int)} (x : Ex H H') (h : GrpAt H a n gs) : GrpAt H' a n gs := by
  obtain ⟨g, As, h1, h2, h3⟩ := h
  exact ⟨g, As, x.st _ _ h1 trivial, x.st _ _ h2 trivial, h3.ex x⟩
theorem refs_of_lits {H : Hp} : ∀ {ks : List (Nat × Nat × List (List Int))} {vs : List V}, LitAll H (ks.map dtK) vs → ∃ As : List Addr, vs = As.map V.ref ∧ As.length = ks.length
  | [], _, .nil => ⟨[], rfl, rfl⟩
  | k :: ks, _, .cons h t => by
    obtain ⟨a, xs, rfl, _⟩ := h.tupE
    obtain ⟨As, rfl, e⟩ := refs_of_lits t
    exact ⟨a :: As, rfl, by rw [List.length_cons, List.length_cons, e]⟩
theorem ints_of_lits {H : Hp} : ∀ {p : List Int} {vs : List V}, LitAll H (p.map Dt.int) vs → vs = p.map V.int
  | [], _, .nil => rfl
  | x :: p, _, .cons h t => by
    cases h
    rw [ints_of_lits t]
    rfl
theorem rows_of_lits {H : Hp} : ∀ {gs : List (List Int)} {vs : List V}, LitAll H (gs.map dtP) vs → ∃ As : List Addr, vs = As.map V.ref ∧ RowsAt H As gs
  | [], _, .nil => ⟨[], rfl, .nil⟩
  | g :: gs, _, .cons h t => by
    obtain ⟨a, xs, rfl, ha, la⟩ := h.tupE
    obtain ⟨As, rfl, R⟩ := rows_of_lits t
    rw [ints_of_lits la] at ha
    refine ⟨a :: As, rfl, by rw [List.length_cons, List.length_cons, R.len], fun i r e => ?_⟩
    cases i with
    | zero => cases e; exact ⟨a, rfl, ha⟩
    | succ i => exact R.at_ i r e
theorem rows_cons {H : Hp} {As : List Addr} {Rs : List (List Int)} {a : Addr} {r : List Int} (ha : H a = some (.tup (r.map V.int))) (R : RowsAt H As Rs) : RowsAt H (a :: As) (r :: Rs) := by
  refine ⟨by rw [List.length_cons, List.length_cons, R.len], fun i r e => ?_⟩
  cases i with
  | zero => cases e; exact ⟨a, rfl, ha⟩
  | succ i => exact R.at_ i r e
theorem kn_of {H : Hp} {k : Nat × Nat × List (List Int)} {v : V} (h : Lit H (dtK k) v) : ∃ (a g : Addr) (As : List Addr), v = .ref a ∧ H a = some (.tup [.int k.1, .int k.2.1, .ref g]) ∧ H g = some (.tup (As.map V.ref)) ∧ RowsAt H As k.2.2 := by
  obtain ⟨a, xs, rfl, ha, l⟩ := h.tupE
  cases l with | cons h1 l =>
  cases l with | cons h2 l =>
  cases l with | cons h3 l =>
  cases l
  cases h1
  cases h2
  obtain ⟨g, ys, rfl, hg, lg⟩ := h3.tupE
  obtain ⟨As, rfl, R⟩ := rows_of_lits lg
  exact ⟨a, g, As, rfl, ha, hg, R⟩
/-- a list of generators -/
structure GenL (H : Hp) (l : Addr) (n : Nat) (gs : List (List Int)) (m : Nat) : Prop where
  at_ : ∃ Bs : List Addr, H l = some (.lst (Bs.map V.ref)) ∧ RowsAt H Bs gs
  grp : GrpL n gs m
theorem GenL.ex {H H' : Hp} {l : Addr} {n m : Nat} {gs : List (List Int)} (x : Ex H H') (h : GenL H l n gs m) : GenL H' l n gs m := by
  obtain ⟨⟨Bs, h1, h2⟩, g⟩ := h
  exact ⟨⟨Bs, x.st _ _ h1 refs_norow, h2.ex x⟩, g⟩
theorem lits_get {H : Hp} {ds : List Dt} {As : List Addr} {a : Addr} (h : LitAll H ds (As.map V.ref)) (ha : a ∈ As) : ∃ d ∈ ds, Lit H d (.ref a) := by
  induction As generalizing ds with
  | nil => cases ha
  | cons b As ih =>
    cases h with | cons h1 h2 =>
    rcases List.mem_cons.mp ha with e | e
    · exact ⟨_, List.mem_cons_self .., e ▸ h1⟩
    · obtain ⟨d, hd, l⟩ := ih h2 e
      exact ⟨d, List.mem_cons_of_mem _ hd, l⟩
theorem rows_get {H : Hp} {As : List Addr} {Rs : List (List Int)} {a : Addr} (h : RowsAt H As Rs) (ha : a ∈ As) : ∃ r ∈ Rs, H a = some (.tup (r.map V.int)) := by
  obtain ⟨i, hi, e⟩ := List.getElem_of_mem ha
  have hr : i < Rs.length := by rw [← h.len]; exact hi
  obtain ⟨b, hb, hb2⟩ := h.at_ i Rs[i] (List.getElem?_eq_getElem hr)
  rw [List.getElem?_eq_getElem hi, e] at hb
  cases hb
  exact ⟨_, List.getElem_mem hr, hb2⟩
def rowB (H : Hp) (n : Int) (v : V) : Bool := match tupOf H v with
  | some xs => decide (((xs.length : Nat) : Int) ≤ n)
  | none => false
def spRow : Sp := fun vs H Q _ => ∃ (v : V) (n : Int), vs = [v, .int n] ∧ TyK H v ∧ Q (.bl (rowB H n v)) H
def spCkGroup (K : PySem.W.Frag) : Sp := fun vs H Q _ => ∃ (a : Addr) (n : Nat) (gs : List (List Int)), vs = [.ref a] ∧ GrpAt H a n gs ∧ (∀ g ∈ gs, IsPm n g) ∧ 1 ≤ n ∧ n ≤ 12 ∧ gs.length ≤ 12 ∧ TabG H (PP K) ∧ ∀ H', Ex H H' → Q .non H'
def spActPoints (K : PySem.W.Frag) : Sp := fun vs H Q _ => ∃ (a b : Addr) (n : Nat) (ts p : List Int), vs = [.ref a, .ref b] ∧ H a = some (.tup (ts.map V.int)) ∧ Pm H b n p ∧ (∀ t ∈ ts, 0 ≤ t ∧ t < (n : Int)) ∧ ts.length ≤ 1000 ∧ n ≤ 1000 ∧ ∀ c H', Ex H H' → H' c = some (.tup ((mulL ts p).map V.int)) → Q (.ref c) H'
def spLawKnown (K : PySem.W.Frag) : Sp := fun vs H Q _ => ∃ (r s : Addr) (ns : List Int) (d most : Nat), vs = [.ref r, .int d, .int most] ∧ RowAt H r s ∧ SqL K H s (ns.map V.int) ∧ 1 ≤ d ∧ 1 ≤ most ∧ d ≤ 1000 ∧ most ≤ 1000 ∧
  ∀ (a : Addr) (H' : Hp) (n m : Nat) (gs : List (List Int)), Ex H H' → GrpAt H' a n gs → GrpL n gs m → m ≤ most → m ≤ 168 → 1 ≤ n → n ≤ d → n ≤ 8 → gs.length ≤ 6 → Q (.ref a) H'
def spLawGroup (K : PySem.W.Frag) : Sp := fun vs H Q _ => ∃ (r s : Addr) (ns : List Int) (d most : Nat), vs = [.ref r, .int d, .int most] ∧ RowAt H r s ∧ SqL K H s (ns.map V.int) ∧ 2 ≤ d ∧ 1 ≤ most ∧ d ≤ 1000 ∧ most ≤ 1000 ∧
  ∀ (a : Addr) (H' : Hp) (n m : Nat) (gs : List (List Int)), Ex H H' → GrpAt H' a n gs → GrpL n gs m → m ≤ most → m ≤ 168 → 1 ≤ n → n ≤ d → n ≤ 8 → gs.length ≤ 6 → Q (.ref a) H'
end KL
/-! the elements of a group, by closing -/
namespace KL
open PySem PySem.Spec PyProof.Rows L2 GA GxR
theorem llen_le_sub : ∀ {ks ns : List (List Int)}, ks.Nodup → (∀ k ∈ ks, k ∈ ns) → ks.length ≤ ns.length
  | [], _, _, _ => Nat.zero_le _
  | k :: ks, ns, hn, hs => by
    obtain ⟨hk, hn'⟩ := List.nodup_cons.mp hn
    have h1 : k ∈ ns := hs k (List.mem_cons_self ..)
    have h2 : ks.length ≤ (ns.erase k).length := llen_le_sub hn' fun j hj => by
      have ne : j ≠ k := fun e => hk (e ▸ hj)
      exact (List.mem_erase_of_ne ne).mpr (hs j (List.mem_cons_of_mem _ hj))
    rw [List.length_erase_of_mem h1] at h2
    have := List.length_pos_of_mem h1
    rw [List.length_cons]
    omega
theorem addL_mem {L : List (List Int)} {x y : List Int} : y ∈ addL L x ↔ y ∈ L ∨ y = x := by
  unfold addL
  split
  · constructor
    · exact .inl
    · rintro (h | h)
      · exact h
      · rw [h]; assumption
  · rw [List.mem_append, List.mem_singleton]
theorem addL_nd {L : List (List Int)} {x : List Int} (h : L.Nodup) : (addL L x).Nodup := by
  unfold addL
  split
  · exact h
  · rename_i k
    rw [List.nodup_append]
    exact ⟨h, List.pairwise_singleton _ _, fun a ha b hb e => k (by rw [List.mem_singleton] at hb; rw [← hb, ← e]; exact ha)⟩
theorem addG_mem {x y : List Int} : ∀ {G L : List (List Int)}, y ∈ addG x G L ↔ y ∈ L ∨ ∃ g ∈ G, y = mulL x g
  | [], L => by
    show y ∈ L ↔ _
    constructor
    · exact .inl
    · rintro (h | ⟨g, h, _⟩)
      · exact h
      · cases h
  | q :: G, L => by
    show y ∈ addG x G (addL L (mulL x q)) ↔ _
    rw [addG_mem, addL_mem]
    constructor
    · rintro ((h | h) | ⟨g, hg, e⟩)
      · exact .inl h
      · exact .inr ⟨q, List.mem_cons_self .., h⟩
      · exact .inr ⟨g, List.mem_cons_of_mem _ hg, e⟩
    · rintro (h | ⟨g, hg, e⟩)
      · exact .inl (.inl h)
      · rcases List.mem_cons.mp hg with k | k
        · exact .inl (.inr (by rw [e, k]))
        · exact .inr ⟨g, k, e⟩
theorem addG_nd {x : List Int} : ∀ {G L : List (List Int)}, L.Nodup → (addG x G L).Nodup
  | [], _, h => h
  | q :: G, L, h => addG_nd (G := G) (L := addL L (mulL x q)) (addL_nd h)
/-- all of a group's elements, each once -/
structure Clos (n : Nat) (gs C : List (List Int)) : Prop where
  nd : C.Nodup
  pm : ∀ c ∈ C, IsPm n c
  one : unitL n ∈ C
  cl : ∀ c ∈ C, ∀ g ∈ gs, mulL c g ∈ C
  lst : ∀ S : List Int → Prop, S (unitL n) → (∀ c, IsPm n c → S c → ∀ g ∈ gs, S (mulL c g)) → ∀ c ∈ C, S c
/-- how far the closure is: the first i elements are done -/
structure Cl' (n : Nat) (gs L : List (List Int)) (i : Nat) : Prop where
  nd : L.Nodup
  pm : ∀ c ∈ L, IsPm n c
  one : unitL n ∈ L
  cl : ∀ j c, j < i → L[j]? = some c → ∀ g ∈ gs, mulL c g ∈ L
  lst : ∀ S : List Int → Prop, S (unitL n) → (∀ c, IsPm n c → S c → ∀ g ∈ gs, S (mulL c g)) → ∀ c ∈ L, S c
  le : i ≤ L.length
theorem Cl'.start (n : Nat) (gs : List (List Int)) : Cl' n gs [unitL n] 0 :=
  ⟨List.pairwise_singleton _ _, (fun c h => by rw [List.mem_singleton.mp h]; exact unit_pm n), List.mem_singleton_self _, (fun _ _ h => absurd h (Nat.not_lt_zero _)), (fun S h _ c hc => by rw [List.mem_singleton.mp hc]; exact h), Nat.zero_le _⟩
theorem Cl'.room {n i m : Nat} {gs L : List (List Int)} (h : Cl' n gs L i) (G : GrpL n gs m) : L.length ≤ m := by
  obtain ⟨pm, C, h1, h2, h3, h4⟩ := G
  exact Nat.le_trans (llen_le_sub h.nd fun c hc => h.lst (fun x => x ∈ C) h1 (fun c _ hc g hg => h2 c hc g hg) c hc) h4
theorem Cl'.part {n i m : Nat} {gs L : List (List Int)} (h : Cl' n gs L i) (G : GrpL n gs m) {r : List Int} (hr : r ∈ L) (j : Nat) : (addG r (gs.take j) L).length ≤ m := by
  obtain ⟨pm, C, h1, h2, h3, h4⟩ := G
  have sub : ∀ c ∈ L, c ∈ C := h.lst (fun x => x ∈ C) h1 (fun c _ hc g hg => h2 c hc g hg)
  refine Nat.le_trans (llen_le_sub (addG_nd h.nd) fun c hc => ?_) h4
  rcases addG_mem.mp hc with k | ⟨g, hg, e⟩
  · exact sub c k
  · rw [e]
    exact h2 r (sub r hr) g (List.mem_of_mem_take hg)
theorem Cl'.step {n i : Nat} {gs L : List (List Int)} (h : Cl' n gs L i) (pm : ∀ g ∈ gs, IsPm n g) {r : List Int} (hr : L[i]? = some r) : Cl' n gs (addG r gs L) (i + 1) := by
  have rm := List.mem_of_getElem? hr
  have hlt := (List.getElem?_eq_some_iff.mp hr).1
  refine ⟨addG_nd h.nd, fun c hc => ?_, addG_mem.mpr (.inl h.one), fun j c hj hc g hg => ?_, fun S h1 h2 c hc => ?_, ?_⟩
  · rcases addG_mem.mp hc with k | ⟨g, hg, e⟩
    · exact h.pm c k
    · rw [e]
      exact mulL_pm (h.pm r rm) (pm g hg)
  · have hjl : j < L.length := by omega
    have e := addG_get (x := r) (G := gs) (List.getElem?_eq_getElem hjl)
    rw [e] at hc
    by_cases ji : j = i
    · subst ji
      rw [List.getElem?_eq_getElem hjl] at hr
      rw [hr] at hc
      cases hc
      exact addG_mem.mpr (.inr ⟨g, hg, rfl⟩)
    · exact addG_mem.mpr (.inl (h.cl j c (by omega) (by rw [List.getElem?_eq_getElem hjl]; exact hc) g hg))
  · rcases addG_mem.mp hc with k | ⟨g, hg, e⟩
    · exact h.lst S h1 h2 c k
    · rw [e]
      exact h2 r (h.pm r rm) (h.lst S h1 h2 r rm) g hg
  · have := (addG_len (x := r) (G := gs) (L := L)).1
    omega
theorem Cl'.done {n : Nat} {gs L : List (List Int)} (h : Cl' n gs L L.length) : Clos n gs L :=
  ⟨h.nd, h.pm, h.one, (fun c hc g hg => by
    obtain ⟨j, hj, e⟩ := List.getElem_of_mem hc
    exact h.cl j c hj (by rw [List.getElem?_eq_getElem hj, e]) g hg), h.lst⟩
def spClosureG : Sp := fun vs H Q _ => ∃ (t : Addr) (As : List Addr) (n m : Nat) (gs : List (List Int)), vs = [.int n, .ref t] ∧ H t = some (.tup (As.map V.ref)) ∧ RowsAt H As gs ∧ GrpL n gs m ∧ m ≤ 1000 ∧ 1 ≤ n ∧ n ≤ 12 ∧ gs.length ≤ 12 ∧
  ∀ (c : Addr) (H' : Hp) (Bs : List Addr) (C : List (List Int)), Ex H H' → H' c = some (.lst (Bs.map V.ref)) → RowsAt H' Bs C → Clos n gs C → C.length ≤ m → Q (.ref c) H'
end KL
/-! sorted(..) of tuples of ints, any number of them -/
namespace KL
open PySem PySem.Spec PyProof.Rows L2 GA GxR
section
variable {prog : Program} {w : World} {A : Around} {E : Value → Shared → Prop} {s : Shared}
theorem lex_intsL {Q : Bool → Shared → Prop} {b : Bool} {xs ys : List Value} {ns ms : List Int} (i : Nat) (hx : IntsAre xs ns) (hy : IntsAre ys ms) (hl : ns.length = ms.length)
    (h : Q (HT.lexLt ns ms) s) : PySem.W.KatLex prog w A b false Q (xs.zip ys) i s := by
  induction hx generalizing ys ms i with
  | nil =>
    cases hy with
    | nil => exact PySem.W.kat_nil h
    | cons q u hy => simp at hl
  | @cons p t xs ns hx ih =>
    cases hy with
    | nil => simp at hl
    | @cons q u ys ms hy =>
      have hl' : ns.length = ms.length := by simpa using hl
      show PySem.W.KatLex prog w A b false Q ((Value.int p t, Value.int q u) :: xs.zip ys) i s
      refine PySem.W.kat_cons (wpAny_eqBool_int ?_)
      rw [HT.lexLt_cons] at h
      by_cases e : p = q
      · subst e
        rw [beq_self_eq_true]
        rw [if_pos rfl] at h
        refine PySem.W.kat_yes ?_
        first
          | exact ih (i + 1) hy hl' h
          | exact ih _ _ (i + 1) hy hl' h
      · rw [show (p == q) = false from beq_eq_false_iff_ne.mpr e]
        rw [if_neg e] at h
        exact PySem.W.kat_no (TS.oneLt_ints _ h)
theorem tup_cmp {vs : List Value} {d : Nat} {B : Int} {k : Value → List Int} (x : TS.TupsOk s.heap d B vs) (hk : ∀ v ∈ vs, ∀ ns, TS.TupInts s.heap v ns → k v = ns) :
    SrtO.Cmp prog w A s (tuples' true) (fun p => p.1 ∈ vs) (SrtO.lt2 fun v u => HT.lexLt (k v) (k u)) := by
  intro p q hp hq
  obtain ⟨ns, tp, lp, bp⟩ := x _ hp
  obtain ⟨ms, tq, lq, bq⟩ := x _ hq
  have ep := hk _ hp _ tp
  have eq2 := hk _ hq _ tq
  show wpAny (model prog w) A (keyLt' (tuples' true) p.1 q.1) (fun r s' => s' = s ∧ r = HT.lexLt (k p.1) (k q.1)) (fun _ _ => False) s
  rw [ep, eq2]
  obtain ⟨a, xs, e1, ⟨o, ho, hc, n, hdt⟩, i⟩ := tp
  obtain ⟨a', ys, e2, ⟨o', ho', hc', n', hdt'⟩, i'⟩ := tq
  rw [e1, e2]
  refine PySem.W.kat_lt ho hdt ho' hdt' ?_
  have sz : decide (xs.size < ys.size) = false := by
    have l1 := i.length
    have l2 := i'.length
    rw [Array.length_toList] at l1 l2
    exact decide_eq_false (by omega)
  rw [sz]
  exact lex_intsL 0 i i' (by omega) ⟨rfl, rfl⟩
theorem tups_sortableO {a : Addr} {vs : List Value} {d : Nat} {B : Int} {k : Value → List Int} (hd : 1 ≤ d) (h0 : 0 < vs.length) (x : TS.TupsOk s.heap d B vs) (hk : ∀ v ∈ vs, ∀ ns, TS.TupInts s.heap v ns → k v = ns)
    (ha : ∀ o, s.heap.get? a = some o → o.cls ≠ .type "tuple") : SrtO.SortableO prog w A s a vs fun v u => HT.lexLt (k v) (k u) := by
  intro h' keep
  have kp : ∀ b o, s.heap.get? b = some o → o.cls = .type "tuple" → h'.get? b = some o := fun b o e c => keep b o (fun z => by subst z; exact ha o e c) e
  have x' : TS.TupsOk h' d B vs := x.keeps kp
  obtain ⟨fs, k1, hl, hi⟩ := TS.firsts_of hd vs x'
  refine ⟨tuples' true, fun Q E hq => ?_, tup_cmp (s := { s with heap := h' }) x' fun v hv ns t => ?_⟩
  · refine PySem.W.kat_kind (T := .type "int") k1 (by omega) (fun f hf => ?_) (by rfl) ?_
    · obtain ⟨n, t, rfl⟩ := hi f hf
      exact PySem.W.Looks.now
    · have e : (Value.type "int" != Value.type "tuple") = true := by first | decide +kernel | rfl | decide
      rw [e]
      exact hq
  · obtain ⟨ns0, t0, _⟩ := x v hv
    have e : ns = ns0 := t.ints.symm.trans (t0.keeps kp).ints
    rw [e]
    exact hk v hv ns0 t0
theorem sorted_tupsO {l : Addr} {vs : List Value} {d : Nat} {B : Int} {k : Value → List Int} {Q : Value → Shared → Prop} (hd : 1 ≤ d) (hl : s.heap.IsList l vs.toArray) (hz : vs.length ≤ sizeLine) (x : TS.TupsOk s.heap d B vs) (hk : ∀ v ∈ vs, ∀ ns, TS.TupInts s.heap v ns → k v = ns)
    (h : ∀ (h' : Heap) (d : Addr) (out : List Value), SrtO.Srtd (fun v u => HT.lexLt (k v) (k u)) out → SrtO.Stb (fun v u => HT.lexLt (k v) (k u)) out vs → (∀ b o, s.heap.get? b = some o → h'.get? b = some o) → s.heap.objs.size ≤ d → (∃ n, h'.get? d = some (seqObj "list" out.toArray n)) → Q (.ref d) { s with heap := h' }) :
    wpAny (model prog w) A (call (.builtin "sorted") [.ref l]) Q E s := by
  refine SrtO.sorted_ord (NtL.swo_lexL k) hl hz (fun h2 h₁ a ha kk => ?_) fun out hs hb => ?_
  · refine tups_sortableO (s := { s with heap := h₁ }) hd (by omega) (x.keeps fun b o e _ => (kk b o e).2) (fun v hv ns t => ?_) fun o e => ?_
    · obtain ⟨ns0, t0, _⟩ := x v hv
      have e : ns = ns0 := t.ints.symm.trans (t0.keeps fun b o e _ => (kk b o e).2).ints
      rw [e]
      exact hk v hv ns0 t0
    · have e' : some o = some (seqObj "list" vs.toArray 0) := e.symm.trans ha
      cases e'
      intro c
      exact absurd (Value.type.inj c) (by decide)
  · exact h _ _ out hs hb (fun b o e => sortedAll_old e) (Nat.le_succ _) (sortedAll_at s.heap vs out.toArray)
end
/-- x before y, as their ints' rows -/
abbrev ltL (k : V → List Int) (x y : V) : Bool := HT.lexLt (k x) (k y)
/-- sorted(xs), xs a list of tuples of d ints each, any number of them -/
def rSortedTO (K : PySem.W.Frag) : List V → Hp → VK → Prop := fun vs H Q => ∃ (a : Addr) (xs : List V) (k : V → List Int) (d : Nat), vs = [V.ref a] ∧ SqL K H a xs ∧ 1 ≤ d ∧ (∀ x ∈ xs, ∃ t, x = V.ref t ∧ H t = some (.tup ((k x).map V.int)) ∧ (k x).length = d ∧ ∀ y ∈ k x, 0 ≤ y ∧ y < 64) ∧
  ∀ ys p, SrtO.Srtd (ltL k) ys → ys.Perm xs → H p = none → Q (.ref p) (upd H p (.lst ys))
theorem cr_sortedTO {X : Cx} : CallR X (.builtin "sorted") (rSortedTO X.K) := by
  intro pins s σ H vs us Q I r h
  obtain ⟨a, xs, k, d, rfl, hs, hd, hx, q⟩ := h
  obtain ⟨its, rv, hl, hz⟩ := I.list hs
  obtain ⟨u, rfl, ru⟩ := vals1 r
  obtain rfl : u = Value.ref a := ru
  obtain ⟨e1, e2⟩ := refs_back rv fun x m => by
    obtain ⟨t, e, _⟩ := hx x m
    exact ⟨t, e⟩
  have tups : ∀ v ∈ its, TS.TupInts s.heap v (k (backV v)) ∧ (k (backV v)).length = d ∧ TS.Bd 64 (k (backV v)) := fun v hv => by
    obtain ⟨t, rfl⟩ := e2 v hv
    have hm : V.ref t ∈ xs := by rw [e1]; exact List.mem_map.mpr ⟨_, hv, rfl⟩
    obtain ⟨t', e, ht, hl, hb⟩ := hx _ hm
    cases e
    obtain ⟨_, its2, r2, o, ho, hc, n, hdt⟩ := I.hok _ _ ht
    exact ⟨⟨t, its2.toArray, rfl, ⟨o, ho, hc, n, hdt⟩, by rw [List.toList_toArray]; exact ints_of_vals r2⟩, hl, hb⟩
  refine sorted_tupsO (d := d) (B := 64) (k := fun u => k (backV u)) hd hl.isList (by rw [← rv.length]; exact hz) (fun v hv => ⟨_, tups v hv⟩) (fun v hv ns t => (tups v hv).1.ints.symm.trans t.ints) fun h' c out h1 h2 kp hc hn => ?_
  have h3 : ∀ u ∈ out, ∃ a, u = Value.ref a := fun u hu => e2 u (h2.perm.mem_iff.mp hu)
  obtain ⟨n, hn⟩ := hn
  have hb : (out.map backV).Perm xs := by
    rw [e1]
    exact h2.perm.map backV
  refine ⟨.ref c, upd H c (.lst (out.map backV)), I.laid (t' := s.toks) kp hc ⟨?_, out, n, vals_back h3, hn⟩, rfl, q _ c (SrtO.srtd_map h1) hb (I.hok.fresh hc)⟩
  rw [hb.length_eq]
  exact hz
theorem srtTO {X : Cx} {K : PySem.W.Frag} (e : X.K = K) : CallR X (.builtin "sorted") (rSortedTO K) := by
  subst e
  exact cr_sortedTO
end KL
/-! sorted(d), d a dict with tuples of ints as keys -/
namespace KT
open PySem PySem.W PySem.Calls PyProof.Rows PyProof.V PySem.Spec
section
variable {prog : Program} {w : World} {A : Around} {E : Value → Shared → Prop} {s : Shared} {T : String} {r d : Addr} {n : Nat} {P : Nat → Value → Prop} {OK : Heap → Prop}
theorem collect_kdl {R : List Value → Shared → Prop} (K : KdlSrc prog w T r d n P OK) (hh : A.handled = none) (hok : OK s.heap) (hn : n ≤ sizeLine)
    (h : ∀ (h' : Heap) (tk : Nat) (acc : Array Value), (∀ b o, s.heap.get? b = some o → h'.get? b = some o) → s.heap.objs.size < h'.objs.size → ItemsOf P acc n → R acc.toList { s with heap := h', toks := tk }) :
    wpAny (model prog w) A (collect (.ref r)) R E s := by
  have hrd := K.there _ hok
  unfold collect
  refine wpAny_bind (wpAny_runValue (codeAny_builtin entry_proto_collect' ?_))
  rw [Around.under_plainId PySem.F.plain_proto_collect _]
  show wpAny _ A.in1 (newList [] >>= fun l => again (.builtin "list.__iadd__" ⟨[l, .ref r], []⟩)) _ _ s
  refine wpAny_bind (wpAny_newObj_type ?_)
  refine wpAny_pure ⟨plainId_quiet PySem.F.plain_list_iadd _, codeAny_builtin entry_list_iadd' ?_⟩
  rw [Around.under_plainId PySem.F.plain_list_iadd _]
  have hS₁ : (s.heap.push { cls := .type "list", data := .seq ([] : List Value).toArray }).get? s.heap.objs.size = some { cls := .type "list", data := .seq #[] } := Heap.get?_push_size _ rfl
  show wpAny _ A.in1 (Builtin.List.listExtendWith (.ref s.heap.objs.size) (.ref r) (.ref s.heap.objs.size)) _ _ _
  have key := kdl_extend (prog := prog) (w := w) (A := A) (s := { s with heap := s.heap.push { cls := .type "list", data := .seq ([] : List Value).toArray } })
    (R := fun (q : Result) (s' : Shared) => ∃ (h' : Heap) (tk : Nat) (acc' : Array Value) (c' : Nat), q = .ok (.ret (.ref s.heap.objs.size)) ∧ s' = { s with heap := h', toks := tk } ∧
      (∀ b o, s.heap.get? b = some o → h'.get? b = some o) ∧ h'.get? s.heap.objs.size = some { cls := .type "list", dict := none, data := .seq acc' c', slots := #[] } ∧ ItemsOf P acc' n)
    K hh (K.keep _ _ hok fun b _ o e => Heap.get?_push_of_some _ e) s.heap.objs.size (Nat.ne_of_gt hrd.1) (Nat.ne_of_gt hrd.2) (.ref s.heap.objs.size) 0 hS₁
    (fun h' tk acc' c' hk hS' hacc => ⟨h', tk, acc', c', rfl, rfl, fun b o e => hk b o (Nat.ne_of_lt (Heap.lt_size e)) (Heap.get?_push_of_some _ e), hS', hacc⟩) hn
  refine wpAny_mono key (fun fin s' x => ?_) fun e s' x => ?_
  · cases fin with
    | done f =>
      obtain ⟨h', tk, acc', c', e, rfl, hk, hS', hacc⟩ := x
      cases e
      show wpAny _ A (load s.heap.objs.size >>= _) _ _ _
      refine wpAny_bind (wpAny_load hS' ?_)
      refine wpAny_pure ?_
      show R acc'.toList _
      exact h h' tk acc' hk (Heap.lt_size hS') hacc
    | again c₁ =>
      refine ⟨x.1, codeAny_mono x.2 fun q s₂ y => ?_⟩
      obtain ⟨h', tk, acc', c', rfl, rfl, hk, hS', hacc⟩ := y
      show wpAny _ A (load s.heap.objs.size >>= _) _ _ _
      refine wpAny_bind (wpAny_load hS' ?_)
      refine wpAny_pure ?_
      show R acc'.toList _
      exact h h' tk acc' hk (Heap.lt_size hS') hacc
  · obtain ⟨_, _, _, _, e', _⟩ := x
    cases e'
/-- sorted(x) up to the sort, x a thing that list(x) takes -/
theorem sorted_kdl {ltv : Value → Value → Bool} {Q : Value → Shared → Prop} (O : SrtO.Swo ltv) (K : KdlSrc prog w T r d n P OK) (hh : A.handled = none) (hok : OK s.heap) (hn : n ≤ sizeLine)
    (h : ∀ (h' : Heap) (tk : Nat) (acc : Array Value), (∀ b o, s.heap.get? b = some o → h'.get? b = some o) → s.heap.objs.size < h'.objs.size → ItemsOf P acc n →
      (2 ≤ acc.size → SrtO.SortableO prog w A.in1.in1 { s with heap := h'.push (seqObj "list" acc 0), toks := tk } h'.objs.size acc.toList ltv) ∧
      ∀ (out : List Value), SrtO.Srtd ltv out → SrtO.Stb ltv out acc.toList → Q (.ref h'.objs.size) { s with heap := sortedHeap (h'.push (seqObj "list" acc 0)) h'.objs.size acc.toList out.toArray, toks := tk }) :
    wpAny (model prog w) A (call (.builtin "sorted") [.ref r]) Q E s := by
  refine call_function_entry kind_sorted plain_sorted entry_sorted (args_sorted1 _) ?_
  unfold Builtin.«sorted»
  refine wpAny_bind (m := checkCount "sorted" 1 1 _) (wpAny_pure ?_)
  refine wpAny_bind (collect_kdl (A := A.in1) K hh hok hn fun h' tk acc hk hlt it => ?_)
  obtain ⟨hS, hQ⟩ := h h' tk acc hk hlt it
  have hz : acc.toList.length ≤ sizeLine := by rw [Array.length_toList, it.1]; exact hn
  refine wpAny_bind (wpAny_newList ?_ hz)
  have hoL : (h'.push (seqObj "list" acc.toList.toArray 0)).get? h'.objs.size = some (seqObj "list" acc.toList.toArray 0) := Heap.get?_push_size _ rfl
  have ea : acc.toList.toArray = acc := by simp
  refine wpAny_bind (wpAny_holding (wpAny_call_entry slot_list_sort ⟨_, hoL, rfl⟩ entry_list_sort (SrtO.list_sort_ord O hoL hz (fun h2 => ?_) fun out hs hb => ⟨_, rfl, ?_⟩) (args_list_sort _)))
  · have := hS (by rw [← Array.length_toList]; exact h2)
    rw [ea]
    exact this
  · refine wpAny_pure ⟨_, rfl, ?_⟩
    have := hQ out hs hb
    rw [ea]
    exact this
end
end KT
namespace KL
open PySem PySem.Spec PyProof.Rows L2 GA GxR
/-- sorted(d), d a dict whose keys are tuples of n ints: a new list of the keys -/
def rSortedDT : List V → Hp → VK → Prop := fun vs H Q => ∃ (d : Addr) (kvs : List (List L2.Key × V)) (L : List (List Int)) (n : Nat), vs = [.ref d] ∧ H d = some (.dT kvs) ∧ kvs.map Prod.fst = L.map keyI ∧ 1 ≤ n ∧ (∀ r ∈ L, r.length = n ∧ ∀ y ∈ r, 0 ≤ y ∧ y < 64) ∧
  ∀ (p : Addr) (As : List Addr) (R : List (List Int)), H p = none → RowsAt H As R → R.Perm L → R.Pairwise (fun a b => HT.lexLt b a = false) → Q (.ref p) (upd H p (.lst (As.map V.ref)))
theorem paired_at {H : Hp} : ∀ {kvs : List (List L2.Key × V)} {bs : List Addr} {L : List (List Int)}, IsKeys H kvs bs → kvs.map Prod.fst = L.map keyI → RowsAt H bs L
  | _, _, L, .nil, e => by
    cases L with
    | nil => exact .nil
    | cons r L => cases e
  | _, _, L, .cons h t, e => by
    cases L with
    | nil => cases e
    | cons r L =>
      obtain ⟨e1, e2⟩ := List.cons.inj e
      have h2 := h
      rw [e1, keyI_at] at h2
      exact rows_cons h2 (paired_at t e2)
theorem map_int_inj : ∀ {r t : List Int}, r.map V.int = t.map V.int → r = t
  | [], [], _ => rfl
  | [], _ :: _, h => by cases h
  | _ :: _, [], h => by cases h
  | x :: r, y :: t, h => by
    obtain ⟨h1, h2⟩ := List.cons.inj h
    rw [V.int.inj h1, map_int_inj h2]
theorem cr_sortedDT {X : Cx} (hc : X.calm = true) : CallR X (.builtin "sorted") rSortedDT := by
  intro pins s σ H vs us Q I r h
  obtain ⟨d, kvs, L, n, rfl, hd, hk, hn1, hL, q⟩ := h
  obtain ⟨u, rfl, rx⟩ := r.one
  cases rx
  obtain ⟨z, hs, ks, pr, o, es, ep, ho, hx, hdt, he, hn⟩ := (show ObjOk X.prog X.w H s.heap d (.dT kvs) from I.hok d _ hd)
  have l1 : es.size = ks.length := size_of_entries he
  have l2 : kvs.length = ks.length := Paired.length pr
  have RB : RowsAt H (ks.map fun x => x.2.1) L := paired_at (isKeys_of pr) hk
  generalize hbs : (ks.map fun x => x.2.1) = bs at RB
  have tups : ∀ b ∈ bs, ∃ ns, TS.TupInts s.heap (.ref b) ns ∧ ns.length = n ∧ TS.Bd 64 ns ∧ H b = some (.tup (ns.map V.int)) ∧ ns ∈ L := fun b hb => by
    obtain ⟨ns, hm, hb2⟩ := rows_get RB hb
    obtain ⟨_, its2, r2, o, ho, hc, n, hdt⟩ := I.hok _ _ hb2
    exact ⟨ns, ⟨b, its2.toArray, rfl, ⟨o, ho, hc, n, hdt⟩, by rw [List.toList_toArray]; exact ints_of_vals r2⟩, (hL ns hm).1, (hL ns hm).2, hb2, hm⟩
  have O : SrtO.Swo fun v u : Value => HT.lexLt (TS.intsOf s.heap v) (TS.intsOf s.heap u) := NtL.swo_lexL _
  refine KT.sorted_kdl O (kdl_raw hs hx hdt) (I.ok.hd hc) ho (by omega) fun h' tk acc hkp hlt it => ?_
  have ea : acc.toList = bs.map Value.ref := by
    have hl : acc.toList.length = ks.length := by rw [Array.length_toList, it.1]; exact l1
    rw [← hbs, List.map_map]
    apply List.ext_getElem?
    intro j
    rw [List.getElem?_map]
    cases hj : acc.toList[j]? with
    | none =>
      have h1 := List.getElem?_eq_none_iff.mp hj
      rw [List.getElem?_eq_none (by omega)]
      all_goals rfl
    | some v =>
      obtain ⟨en, hen, hv⟩ := it.2 j v (by rw [← Array.getElem?_toList]; exact hj)
      have qe := entry_at he j
      rw [hen] at qe
      cases hb : ks[j]? with
      | none =>
        rw [hb] at qe
        exact nomatch (show some en = none from qe)
      | some b =>
        rw [hb] at qe
        have e2 : en = entryOfKey (tupleKind (mixKind X.prog X.w)) b := Option.some.inj qe
        rw [hv, e2]
        all_goals rfl
  have mem : ∀ v ∈ acc.toList, ∃ b ∈ bs, v = .ref b := fun v hv => by
    rw [ea] at hv
    obtain ⟨b, hb, e⟩ := List.mem_map.mp hv
    exact ⟨b, hb, e.symm⟩
  refine ⟨fun h2 => ?_, fun out hs hb => ?_⟩
  · have up : ∀ b o, s.heap.get? b = some o → (h'.push (seqObj "list" acc 0)).get? b = some o := fun b o e => Heap.get?_push_of_some _ (hkp b o e)
    refine tups_sortableO (d := n) (B := 64) (s := { s with heap := h'.push (seqObj "list" acc 0), toks := tk }) hn1 (by rw [Array.length_toList]; omega) (fun v hv => ?_) (fun v hv ns t => ?_) fun o e => ?_
    · obtain ⟨b, hb, rfl⟩ := mem v hv
      obtain ⟨ns, t, a1, a2, _⟩ := tups b hb
      exact ⟨ns, t.keeps fun b o e _ => up b o e, a1, a2⟩
    · obtain ⟨b, hb, rfl⟩ := mem v hv
      obtain ⟨ns0, t0, _⟩ := tups b hb
      have e : ns = ns0 := t.ints.symm.trans (t0.keeps fun b o e _ => up b o e).ints
      rw [e]
      exact t0.ints
    · have e2 : (h'.push (seqObj "list" acc 0)).get? h'.objs.size = some (seqObj "list" acc 0) := Heap.get?_push_size _ rfl
      have e' : some o = some (seqObj "list" acc 0) := e.symm.trans e2
      cases e'
      intro c
      exact absurd (Value.type.inj c) (by decide)
  · obtain ⟨e1, e2⟩ := refs_back (us := out) (xs := out.map backV) (vals_back fun u hu => by
      obtain ⟨b, _, e⟩ := mem u (hb.perm.mem_iff.mp hu)
      exact ⟨b, e⟩) fun x hx => by
      obtain ⟨u, hu, e⟩ := List.mem_map.mp hx
      obtain ⟨b, _, eb⟩ := mem u (hb.perm.mem_iff.mp hu)
      exact ⟨b, by rw [← e, eb]; rfl⟩
    obtain ⟨As, eA⟩ : ∃ As : List Addr, out = As.map Value.ref := by
      clear e1 hs hb q
      induction out with
      | nil => exact ⟨[], rfl⟩
      | cons u out ih =>
        obtain ⟨a, ha⟩ := e2 u (List.mem_cons_self ..)
        obtain ⟨As, hA⟩ := ih fun v hv => e2 v (List.mem_cons_of_mem _ hv)
        exact ⟨a :: As, by rw [ha, hA]; rfl⟩
    subst eA
    have pA : As.Perm bs := by
      have p := hb.perm
      rw [ea] at p
      have p2 := p.map (fun v => match v with | .ref a => a | _ => 0)
      rw [List.map_map, List.map_map] at p2
      have idm : ∀ l : List Addr, l.map ((fun v => match v with | Value.ref a => a | _ => 0) ∘ Value.ref) = l := fun l => by
        induction l with
        | nil => rfl
        | cons a l ih => rw [List.map_cons, ih]; rfl
      rw [idm, idm] at p2
      exact p2
    have rd : ∀ a ∈ As, H a = some (.tup ((TS.intsOf s.heap (.ref a)).map V.int)) := fun a ha => by
      obtain ⟨ns, t, _, _, hb2, _⟩ := tups a (pA.mem_iff.mp ha)
      rw [t.ints]
      exact hb2
    have eL : bs.map (fun a => TS.intsOf s.heap (.ref a)) = L := by
      refine List.ext_getElem? fun j => ?_
      rw [List.getElem?_map]
      cases hj : L[j]? with
      | none => rw [List.getElem?_eq_none (by rw [RB.len]; exact List.getElem?_eq_none_iff.mp hj)]; rfl
      | some r =>
        obtain ⟨a, h1, h2⟩ := RB.at_ j r hj
        rw [h1]
        obtain ⟨ns, t, _, _, hb2, _⟩ := tups a (List.mem_of_getElem? h1)
        rw [h2] at hb2
        have e : r.map V.int = ns.map V.int := HO.tup.inj (Option.some.inj hb2)
        have e3 : r = ns := map_int_inj e
        show some (TS.intsOf s.heap (.ref a)) = some r
        rw [t.ints, e3]
    refine ⟨.ref h'.objs.size, upd H h'.objs.size (.lst (As.map V.ref)), I.laid (t' := tk) (fun b o e => ?_) (Nat.le_of_lt hlt) ⟨?_, As.map Value.ref, ?_⟩, rfl, q _ As (As.map fun a => TS.intsOf s.heap (.ref a)) (I.hok.fresh (Nat.le_of_lt hlt)) ⟨by rw [List.length_map], fun i r e => ?_⟩ ?_ ?_⟩
    · have hb2 := hkp b o e
      have hl2 := Heap.lt_size hb2
      show (sortedHeap (h'.push (seqObj "list" acc 0)) h'.objs.size acc.toList (As.map Value.ref).toArray).get? b = some o
      rw [sortedHeap_old (Nat.ne_of_lt hl2) (by rw [size_push']; exact Nat.lt_succ_of_lt hl2)]
      exact Heap.get?_push_of_some _ hb2
    · rw [List.length_map, pA.length_eq, RB.len]
      have := congrArg List.length hk
      rw [List.length_map, List.length_map] at this
      omega
    · have hoL : (h'.push (seqObj "list" acc 0)).get? h'.objs.size = some (seqObj "list" acc.toList.toArray 0) := by
        rw [show acc.toList.toArray = acc by simp]
        exact Heap.get?_push_size _ rfl
      obtain ⟨c, hc2⟩ := sortedHeap_at (vs := acc.toList) (out := (As.map Value.ref).toArray) hoL
      exact ⟨c, vals_refs As, hc2⟩
    · rw [List.getElem?_map] at e
      cases ha : As[i]? with
      | none => rw [ha] at e; cases e
      | some a =>
        rw [ha] at e
        cases e
        exact ⟨a, rfl, rd a (List.mem_of_getElem? ha)⟩
    · rw [← eL]
      exact pA.map _
    · rw [List.pairwise_map]
      exact List.pairwise_map.mp hs
theorem srtDT {X : Cx} (hc : X.calm = true := by rfl) : CallR X (.builtin "sorted") rSortedDT := cr_sortedDT hc
end KL
/-! a def with defaults; a def that is called by a parameter's name -/
namespace KL
open PySem PySem.Spec PyProof.Rows L2 GA GxR
abbrev FunDK (K : PySem.W.Frag) (x q : Str) (st : Stmt) (dvs : List V) : Prop := FunD K x q (defArgs st) (defBody st) (defScope st) dvs [] (He.ga K x) (fdK K x)
theorem fun_ofD {K : PySem.W.Frag} {x q : Str} {st : Stmt} {dvs : List V} (h : ∃ fd, FunD K x q (defArgs st) (defBody st) (defScope st) dvs [] (He.ga K x) fd) : FunDK K x q st dvs := by
  obtain ⟨fd, F⟩ := h
  obtain ⟨oc, od, dV, kV, doc, pm, an, cdv, ct, osl, e, lk, hcd, hD, hK⟩ := F.ex
  have ef : fdK K x = fd := by
    unfold fdK
    rw [lk]
  rw [show FunDK K x q st dvs = FunD K x q (defArgs st) (defBody st) (defScope st) dvs [] (He.ga K x) (fdK K x) from rfl, ef]
  exact F
theorem _root_.L2.FunD.okN {P : Program} {w : World} {K : PySem.W.Frag} {mg : Str → Option Value} {base : Heap} {x q : Str} {st : Stmt} {dvs : List V} {N ps : List Str} {k : Nat} {sp : Sp} {a : Addr} {fd : FuncData} (F : FunD K x q (defArgs st) (defBody st) (defScope st) dvs [] a fd) (S : FnScope N ps (defScope st)) (len : ∀ vs H Q E, sp vs H Q E → vs.length = ps.length)
    (hbody : ∀ (cdv : Value) (A : Around) (outer : List Env) (s : Shared) (H : Hp) (vs : List V) (Q : VK) (E : XK), Room k (A.deeper (envOfC q (defScope st) s.heap.objs.size a cdv)) → sp vs H Q E →
      ∃ t, PSs (cxOf CX0 P w K mg base N q (defScope st) a cdv A outer s H E).nox (defBody st) t ∧ t { nx := fun _ H' => Q .non H', rt := Q } (start N vs) H) : FnOk P w K mg base CX0 (k + 1) a fd ps sp :=
  F.ok S len fun cdv A outer s H vs Q E hr hsp => let ⟨t, h, q⟩ := hbody cdv A outer s H vs Q E hr hsp; ⟨t, h.nox, q⟩
def BindsD (K : PySem.W.Frag) (fd : FuncData) (ps : List Str) (dvs : List V) : Prop := ∃ ds, Vals dvs ds ∧ Binds K fd ps ds
end KL
namespace KL
open PySem PySem.Spec PyProof.Rows L2 GA GxR
/-- an orbit being closed: the first i are done -/
structure Cg (ok : List Int → Prop) (u : List Int) (gs L : List (List Int)) (i : Nat) : Prop where
  nd : L.Nodup
  pm : ∀ c ∈ L, ok c
  one : u ∈ L
  cl : ∀ j c, j < i → L[j]? = some c → ∀ g ∈ gs, mulL c g ∈ L
  lst : ∀ S : List Int → Prop, S u → (∀ c, ok c → S c → ∀ g ∈ gs, S (mulL c g)) → ∀ c ∈ L, S c
  le : i ≤ L.length
structure Orb (ok : List Int → Prop) (u : List Int) (gs L : List (List Int)) : Prop where
  nd : L.Nodup
  pm : ∀ c ∈ L, ok c
  one : u ∈ L
  cl : ∀ c ∈ L, ∀ g ∈ gs, mulL c g ∈ L
  lst : ∀ S : List Int → Prop, S u → (∀ c, ok c → S c → ∀ g ∈ gs, S (mulL c g)) → ∀ c ∈ L, S c
section
variable {ok : List Int → Prop} {u : List Int} {gs L : List (List Int)} {i : Nat}
theorem Cg.start (h : ok u) : Cg ok u gs [u] 0 :=
  ⟨List.pairwise_singleton _ _, (fun c h2 => by rw [List.mem_singleton.mp h2]; exact h), List.mem_singleton_self _, (fun _ _ h => absurd h (Nat.not_lt_zero _)), (fun S h _ c hc => by rw [List.mem_singleton.mp hc]; exact h), Nat.zero_le _⟩
theorem Cg.step (h : Cg ok u gs L i) (pm : ∀ c, ok c → ∀ g ∈ gs, ok (mulL c g)) {r : List Int} (hr : L[i]? = some r) : Cg ok u gs (addG r gs L) (i + 1) := by
  have rm := List.mem_of_getElem? hr
  have hlt := (List.getElem?_eq_some_iff.mp hr).1
  refine ⟨addG_nd h.nd, fun c hc => ?_, addG_mem.mpr (.inl h.one), fun j c hj hc g hg => ?_, fun S h1 h2 c hc => ?_, ?_⟩
  · rcases addG_mem.mp hc with k | ⟨g, hg, e⟩
    · exact h.pm c k
    · rw [e]
      exact pm r (h.pm r rm) g hg
  · have hjl : j < L.length := by omega
    have e := addG_get (x := r) (G := gs) (List.getElem?_eq_getElem hjl)
    rw [e] at hc
    by_cases ji : j = i
    · subst ji
      rw [List.getElem?_eq_getElem hjl] at hr
      rw [hr] at hc
      cases hc
      exact addG_mem.mpr (.inr ⟨g, hg, rfl⟩)
    · exact addG_mem.mpr (.inl (h.cl j c (by omega) (by rw [List.getElem?_eq_getElem hjl]; exact hc) g hg))
  · rcases addG_mem.mp hc with k | ⟨g, hg, e⟩
    · exact h.lst S h1 h2 c k
    · rw [e]
      exact h2 r (h.pm r rm) (h.lst S h1 h2 r rm) g hg
  · have := (addG_len (x := r) (G := gs) (L := L)).1
    omega
theorem Cg.done (h : Cg ok u gs L i) (e : L.length ≤ i) : Orb ok u gs L :=
  ⟨h.nd, h.pm, h.one, (fun c hc g hg => by
    obtain ⟨j, hj, e2⟩ := List.getElem_of_mem hc
    exact h.cl j c (by omega) (by rw [List.getElem?_eq_getElem hj, e2]) g hg), h.lst⟩
theorem Cg.part (h : Cg ok u gs L i) (pm : ∀ c, ok c → ∀ g ∈ gs, ok (mulL c g)) {r : List Int} (hr : r ∈ L) (j : Nat) : (addG r (gs.take j) L).Nodup ∧ ∀ c ∈ addG r (gs.take j) L, ok c := by
  refine ⟨addG_nd h.nd, fun c hc => ?_⟩
  rcases addG_mem.mp hc with k | ⟨g, hg, e⟩
  · exact h.pm c k
  · rw [e]
    exact pm r (h.pm r hr) g (List.mem_of_mem_take hg)
end
/-- tuples of k of n points -/
def OkT (n k : Nat) (v : List Int) : Prop := v.length = k ∧ ∀ x ∈ v, 0 ≤ x ∧ x < (n : Int)
theorem okT_mul {n k : Nat} {v g : List Int} (h : OkT n k v) (hg : IsPm n g) : OkT n k (mulL v g) := by
  unfold mulL
  refine ⟨by rw [List.length_map]; exact h.1, fun x hx => ?_⟩
  obtain ⟨y, hy, rfl⟩ := List.mem_map.mp hx
  obtain ⟨h0, h1⟩ := h.2 y hy
  obtain ⟨z, hz, z0, z1⟩ := hg.get (i := y.toNat) (by omega)
  rw [getD_of hz]
  exact ⟨z0, z1⟩
structure Reach (H H1 : Hp) (d q : Addr) (As : List Addr) (L : List (List Int)) : Prop where
  ex : Ex H H1
  hq : H1 q = some (.lst (As.map V.ref))
  rows : RowsAt H1 As L
  hd : ∃ kvs : List (List L2.Key × V), H1 d = some (.dT kvs) ∧ kvs.map Prod.fst = L.map keyI
theorem Reach.exx {H H1 H2 : Hp} {d q : Addr} {As : List Addr} {L : List (List Int)} (C : Reach H H1 d q As L) (x : Ex H1 H2) : Reach H H2 d q As L := by
  obtain ⟨kvs, h1, h2⟩ := C.hd
  exact ⟨C.ex.trans x, x.st _ _ C.hq refs_norow, C.rows.ex x, ⟨kvs, x.st _ _ h1 trivial, h2⟩⟩
def spReachedP (K : PySem.W.Frag) : Sp := fun vs H Q _ => ∃ (a t : Addr) (As : List Addr) (n k : Nat) (u : List Int) (gs : List (List Int)), vs = [.ref a, .ref t, .ref (He.ga K "act_on_points"), .int 2000] ∧ H a = some (.tup (u.map V.int)) ∧ H t = some (.tup (As.map V.ref)) ∧ RowsAt H As gs ∧ (∀ g ∈ gs, IsPm n g) ∧ OkT n k u ∧ n ≤ 12 ∧ k ≤ 12 ∧
  (∀ L : List (List Int), L.Nodup → (∀ v ∈ L, OkT n k v) → L.length ≤ 2000) ∧
  ∀ (d : Addr) (H' : Hp) (kvs : List (List L2.Key × V)) (L : List (List Int)), Ex H H' → H' d = some (.dT kvs) → kvs.map Prod.fst = L.map keyI → Orb (OkT n k) u gs L → Q (.ref d) H'
def spLawRows : Sp := fun vs H Q _ => ∃ (a : Addr) (n m : Nat) (gs : List (List Int)), vs = [.ref a] ∧ GrpAt H a n gs ∧ GrpL n gs m ∧ m ≤ 1000 ∧ 1 ≤ n ∧ n ≤ 12 ∧ gs.length ≤ 12 ∧
  ∀ (c : Addr) (H' : Hp) (Bs : List Addr) (R C : List (List Int)), Ex H H' → H' c = some (.lst (Bs.map V.ref)) → RowsAt H' Bs R → R.Perm C → Clos n gs C → C.length ≤ m → R.Pairwise (fun a b => HT.lexLt b a = false) → Q (.ref c) H'
/-- how many points p leaves -/
def fixC (p : List Int) : Nat := ((List.range p.length).filter fun i => decide (p[i]? = some ((i : Nat) : Int))).length
def spLawFixed : Sp := fun vs H Q _ => ∃ (a : Addr) (n : Nat) (p : List Int), vs = [.ref a] ∧ Pm H a n p ∧ n ≤ 1000 ∧ ∀ H', Ex H H' → Q (.int (fixC p : Nat)) H'
/-- rows at refs, as the sort's rule asks: a row for each of the values -/
theorem rows_key {H : Hp} {Bs : List Addr} {C : List (List Int)} (R : RowsAt H Bs C) : ∃ k : V → List Int, ∀ x ∈ Bs.map V.ref, ∃ t, x = V.ref t ∧ t ∈ Bs ∧ H t = some (.tup ((k x).map V.int)) ∧ k x ∈ C := by
  refine ⟨fun x => match x with
    | .ref t => match H t with
      | some (.tup xs) => xs.map fun v => match v with | .int i => i | _ => 0
      | _ => []
    | _ => [], fun x hx => ?_⟩
  obtain ⟨t, ht, rfl⟩ := List.mem_map.mp hx
  obtain ⟨r, hr, e⟩ := rows_get R ht
  have ek : (match H t with
      | some (.tup xs) => xs.map fun v => match v with | V.int i => i | _ => (0 : Int)
      | _ => []) = r := by
    rw [e]
    show (r.map V.int).map _ = r
    rw [List.map_map]
    exact (List.map_congr_left fun i _ => rfl).trans (List.map_id r)
  refine ⟨t, rfl, ht, ?_, ?_⟩
  · show H t = some (.tup ((match H t with
      | some (.tup xs) => xs.map fun v => match v with | V.int i => i | _ => (0 : Int)
      | _ => []).map V.int))
    rw [ek]
    exact e
  · show (match H t with
      | some (.tup xs) => xs.map fun v => match v with | V.int i => i | _ => (0 : Int)
      | _ => []) ∈ C
    rw [ek]
    exact hr
/-- what the sort's rule leaves, in rows -/
theorem rows_sorted {H : Hp} {Bs : List Addr} {C : List (List Int)} (R : RowsAt H Bs C) {k : V → List Int} (hk : ∀ x ∈ Bs.map V.ref, ∃ t, x = V.ref t ∧ t ∈ Bs ∧ H t = some (.tup ((k x).map V.int)) ∧ k x ∈ C) {ys : List V} (hs : SrtO.Srtd (ltL k) ys) (hp : ys.Perm (Bs.map V.ref)) :
    ∃ (As : List Addr) (S : List (List Int)), ys = As.map V.ref ∧ RowsAt H As S ∧ S.Perm C ∧ S.Pairwise (fun a b => HT.lexLt b a = false) := by
  obtain ⟨As, eA⟩ : ∃ As : List Addr, ys = As.map V.ref := by
    have all : ∀ y ∈ ys, ∃ t, y = V.ref t := fun y hy => let ⟨t, e, _⟩ := hk y (hp.mem_iff.mp hy); ⟨t, e⟩
    clear hs hp
    induction ys with
    | nil => exact ⟨[], rfl⟩
    | cons y ys ih =>
      obtain ⟨t, ht⟩ := all y (List.mem_cons_self ..)
      obtain ⟨As, hA⟩ := ih fun z hz => all z (List.mem_cons_of_mem _ hz)
      exact ⟨t :: As, by rw [ht, hA]; rfl⟩
  subst eA
  refine ⟨As, (As.map V.ref).map k, rfl, ⟨by rw [List.length_map, List.length_map], fun i r e => ?_⟩, ?_, by rw [List.pairwise_map]; exact hs⟩
  · rw [List.getElem?_map, List.getElem?_map] at e
    cases ha : As[i]? with
    | none => rw [ha] at e; cases e
    | some a =>
      rw [ha] at e
      cases e
      obtain ⟨t, e1, _, e2, _⟩ := hk (.ref a) (hp.mem_iff.mp (List.mem_map_of_mem (List.mem_of_getElem? ha)))
      cases e1
      exact ⟨a, rfl, e2⟩
  · have e : (Bs.map V.ref).map k = C := by
      refine List.ext_getElem? fun j => ?_
      rw [List.getElem?_map, List.getElem?_map]
      cases hj : C[j]? with
      | none => rw [List.getElem?_eq_none (by rw [R.len]; exact List.getElem?_eq_none_iff.mp hj)]; rfl
      | some r =>
        obtain ⟨a, h1, h2⟩ := R.at_ j r hj
        rw [h1]
        obtain ⟨t, e1, _, e2, _⟩ := hk (.ref a) (List.mem_map_of_mem (List.mem_of_getElem? h1))
        cases e1
        rw [h2] at e2
        have e3 : r.map V.int = (k (.ref a)).map V.int := HO.tup.inj (Option.some.inj e2)
        show some (k (.ref a)) = some r
        rw [map_int_inj e3]
    rw [← e]
    exact hp.map k
/-- lists of rows, at refs -/
inductive ListsT (H : Hp) : List Addr → List (List (List Int)) → Prop
  | nil : ListsT H [] []
  | snoc {Bs : List Addr} {Ds : List (List (List Int))} {b : Addr} {As : List Addr} {D : List (List Int)} : ListsT H Bs Ds → H b = some (.tup (As.map V.ref)) → RowsAt H As D → ListsT H (Bs ++ [b]) (Ds ++ [D])
theorem ListsT.ex {H H' : Hp} (x : Ex H H') {Bs : List Addr} {Ds : List (List (List Int))} (h : ListsT H Bs Ds) : ListsT H' Bs Ds := by
  induction h with
  | nil => exact .nil
  | snoc _ h1 h2 ih => exact .snoc ih (x.st _ _ h1 trivial) (h2.ex x)
theorem ListsT.len {H : Hp} {Bs : List Addr} {Ds : List (List (List Int))} (h : ListsT H Bs Ds) : Bs.length = Ds.length := by
  induction h with
  | nil => rfl
  | snoc _ _ _ ih => rw [List.length_append, List.length_append, ih]; rfl
end KL
/-! counting: points that squares leave, and pairs that are turned about -/
namespace KL
open PySem PySem.Spec PyProof.Rows L2 GA GxR
theorem cnt_add {β : Type} (q : β → Bool) (f f' : β → Nat) (h : ∀ v, f' v = (if q v = true then 1 else 0) + f v) : ∀ V : List β, (V.filter q).length + (V.map f).sum = (V.map f').sum
  | [] => rfl
  | v :: V => by
    have ih := cnt_add q f f' h V
    rw [List.map_cons, List.map_cons, List.sum_cons, List.sum_cons, h v]
    by_cases c : q v = true
    · rw [List.filter_cons_of_pos c, if_pos c, List.length_cons]
      omega
    · rw [List.filter_cons_of_neg c, if_neg c]
      omega
theorem sum_zero {β : Type} : ∀ V : List β, (V.map fun _ => 0).sum = 0
  | [] => rfl
  | v :: V => by rw [List.map_cons, List.sum_cons, sum_zero V]
theorem cnt_swap {α β : Type} (R : α → β → Bool) : ∀ (C : List α) (V : List β), (C.map fun g => (V.filter (R g)).length).sum = (V.map fun v => (C.filter fun g => R g v).length).sum
  | [], V => (sum_zero V).symm
  | g :: C, V => by
    rw [List.map_cons, List.sum_cons, cnt_swap R C V]
    refine cnt_add (R g) _ _ (fun v => ?_) V
    by_cases c : R g v = true
    · rw [List.filter_cons_of_pos (p := fun g => R g v) c, if_pos c, List.length_cons]; omega
    · rw [List.filter_cons_of_neg (p := fun g => R g v) c, if_neg c]; omega
theorem sum_flat {β : Type} (f : β → Nat) : ∀ L : List (List β), (L.flatten.map f).sum = (L.map fun D => (D.map f).sum).sum
  | [] => rfl
  | D :: L => by rw [List.flatten_cons, List.map_append, List.sum_append, sum_flat f L, List.map_cons, List.sum_cons]
theorem flatMap_cnt {α β : Type} (q : β → Bool) (f : α → List β) : ∀ l : List α, ((l.flatMap f).filter q).length = (l.map fun a => ((f a).filter q).length).sum
  | [] => rfl
  | a :: l => by rw [List.flatMap_cons, List.filter_append, List.length_append, flatMap_cnt q f l, List.map_cons, List.sum_cons]
theorem filter_sum {α : Type} (q : α → Bool) : ∀ l : List α, (l.filter q).length = (l.map fun a => if q a = true then 1 else 0).sum
  | [] => rfl
  | a :: l => by
    rw [List.map_cons, List.sum_cons, ← filter_sum q l]
    by_cases c : q a = true
    · rw [List.filter_cons_of_pos c, if_pos c, List.length_cons]; omega
    · rw [List.filter_cons_of_neg c, if_neg c]; omega
theorem one_range (c : Nat) : ∀ n, ((List.range n).filter fun b => decide (b = c)).length = if c < n then 1 else 0
  | 0 => by rw [if_neg (by omega)]; rfl
  | n + 1 => by
    rw [List.range_succ, List.filter_append, List.length_append, one_range c n]
    by_cases e : n = c
    · subst e
      rw [List.filter_cons_of_pos (p := fun b => decide (b = n)) (decide_eq_true rfl), List.filter_nil, if_neg (by omega), if_pos (by omega)]
      rfl
    · rw [List.filter_cons_of_neg (by rw [decide_eq_false e]; exact Bool.false_ne_true), List.filter_nil]
      by_cases h : c < n
      · rw [if_pos h, if_pos (by omega)]; rfl
      · rw [if_neg h, if_neg (by omega)]; rfl
/-- all pairs of n points -/
def pairsL (n : Nat) : List (List Int) := (List.range n).flatMap fun a : Nat => (List.range n).map fun b : Nat => [(a : Int), (b : Int)]
def swL : List Int → List Int
  | [a, b] => [b, a]
  | v => v
theorem mem_pairsL {n : Nat} {v : List Int} : v ∈ pairsL n ↔ OkT n 2 v := by
  unfold pairsL
  constructor
  · intro h
    obtain ⟨a, ha, h⟩ := List.mem_flatMap.mp h
    obtain ⟨b, hb, rfl⟩ := List.mem_map.mp h
    have ha := List.mem_range.mp ha
    have hb := List.mem_range.mp hb
    refine ⟨rfl, fun x hx => ?_⟩
    simp only [List.mem_cons, List.not_mem_nil, or_false] at hx
    omega
  · intro ⟨hl, hb⟩
    match v, hl, hb with
    | [x, y], _, hb =>
      have hx := hb x (by simp)
      have hy := hb y (by simp)
      refine List.mem_flatMap.mpr ⟨x.toNat, List.mem_range.mpr (by omega), List.mem_map.mpr ⟨y.toNat, List.mem_range.mpr (by omega), ?_⟩⟩
      rw [show ((x.toNat : Nat) : Int) = x by omega, show ((y.toNat : Nat) : Int) = y by omega]
theorem fix_sq {n : Nat} {g : List Int} (hg : IsPm n g) : fixC (mulL g g) = ((pairsL n).filter fun v => decide (mulL v g = swL v)).length := by
  unfold fixC pairsL
  rw [flatMap_cnt, filter_sum, (mulL_pm hg hg).len]
  congr 1
  refine List.map_congr_left fun a ha => ?_
  have ha := List.mem_range.mp ha
  obtain ⟨x, hx, x0, x1⟩ := hg.get ha
  obtain ⟨y, hy, y0, y1⟩ := hg.get (i := x.toNat) (by omega)
  rw [mulL_at hx hy, List.filter_map, List.length_map]
  have key : ∀ b ∈ List.range n, ((fun v => decide (mulL v g = swL v)) ∘ fun b : Nat => [(a : Int), (b : Int)]) b = (decide (b = x.toNat) && decide (y = (a : Int))) := fun b hb => by
    have hb := List.mem_range.mp hb
    obtain ⟨z, hz, z0, z1⟩ := hg.get hb
    show decide (mulL [(a : Int), (b : Int)] g = [(b : Int), (a : Int)]) = _
    have e : mulL [(a : Int), (b : Int)] g = [x, z] := by
      unfold mulL
      rw [List.map_cons, List.map_cons, List.map_nil, Int.toNat_natCast, Int.toNat_natCast, getD_of hx, getD_of hz]
    rw [e, Bool.eq_iff_iff, decide_eq_true_iff, Bool.and_eq_true, decide_eq_true_iff, decide_eq_true_iff]
    constructor
    · intro h
      obtain ⟨h1, h2⟩ := List.cons.inj h
      obtain ⟨h2, _⟩ := List.cons.inj h2
      refine ⟨by omega, ?_⟩
      rw [show x.toNat = b by omega, hz] at hy
      rw [← h2]
      exact (Option.some.inj hy).symm
    · intro ⟨h1, h2⟩
      subst h1
      rw [hz] at hy
      rw [Option.some.inj hy, h2, show ((x.toNat : Nat) : Int) = x by omega]
  rw [List.filter_congr key]
  by_cases c : y = (a : Int)
  · rw [decide_eq_true c, if_pos (decide_eq_true (by rw [c]))]
    simp only [Bool.and_true]
    rw [one_range, if_pos (by omega)]
  · rw [decide_eq_false c, if_neg (by rw [decide_eq_false (fun h => c (Option.some.inj h))]; exact Bool.false_ne_true)]
    simp only [Bool.and_false]
    have e : ∀ l : List Nat, (l.filter fun _ => false) = [] := fun l => by
      induction l with
      | nil => rfl
      | cons a l ih => rw [List.filter_cons_of_neg Bool.false_ne_true, ih]
    rw [e]
    rfl
end KL
/-! orbits of tuples under all elements; pairs turned about -/
namespace KL
open PySem PySem.Spec PyProof.Rows L2 GA GxR
theorem inj_len {A B : List (List Int)} (f : List Int → List Int) (hA : A.Nodup) (hf : ∀ x ∈ A, f x ∈ B) (inj : ∀ x ∈ A, ∀ y ∈ A, f x = f y → x = y) : A.length ≤ B.length := by
  have h : (A.map f).Nodup := by
    refine List.pairwise_map.mpr (List.Pairwise.imp_of_mem (fun {x y} hx hy ne e => ne (inj x hx y hy e)) hA)
  have k := llen_le_sub h fun z hz => by
    obtain ⟨x, hx, rfl⟩ := List.mem_map.mp hz
    exact hf x hx
  rw [List.length_map] at k
  exact k
theorem inj_onto {A : List (List Int)} (f : List Int → List Int) (hA : A.Nodup) (hf : ∀ x ∈ A, f x ∈ A) (inj : ∀ x ∈ A, ∀ y ∈ A, f x = f y → x = y) {z : List Int} (hz : z ∈ A) : ∃ x ∈ A, f x = z := by
  apply Classical.byContradiction
  intro no
  have k := inj_len (B := A.erase z) f hA (fun x hx => (List.mem_erase_of_ne (fun e => no ⟨x, hx, e⟩)).mpr (hf x hx)) inj
  rw [List.length_erase_of_mem hz] at k
  have := List.length_pos_of_mem hz
  omega
section
variable {n : Nat} {gs C : List (List Int)}
theorem Clos.mul (c : Clos n gs C) (pm : ∀ g ∈ gs, IsPm n g) {a b : List Int} (ha : a ∈ C) (hb : b ∈ C) : mulL a b ∈ C := by
  refine c.lst (fun b => ∀ a ∈ C, mulL a b ∈ C) (fun a ha => by rw [mulL_unit (c.pm a ha)]; exact ha) (fun b hb ih g hg a ha => ?_) b hb a ha
  rw [← mulL_assoc (c.pm a ha) hb (pm g hg)]
  exact c.cl _ (ih a ha) g hg
theorem mul_right_inj {x y a : List Int} (hx : IsPm n x) (hy : IsPm n y) (ha : IsPm n a) (e : mulL x a = mulL y a) : x = y := by
  have h := congrArg (fun z => mulL z (invL a)) e
  have h : mulL (mulL x a) (invL a) = mulL (mulL y a) (invL a) := h
  rw [mulL_assoc hx ha (invL_pm ha), mulL_assoc hy ha (invL_pm ha), mul_inv ha, mulL_unit hx, mulL_unit hy] at h
  exact h
theorem Clos.inv (c : Clos n gs C) (pm : ∀ g ∈ gs, IsPm n g) {a : List Int} (ha : a ∈ C) : invL a ∈ C := by
  have pa := c.pm a ha
  obtain ⟨q, hq, e⟩ := inj_onto (fun x => mulL x a) c.nd (fun x hx => c.mul pm hx ha) (fun x hx y hy e => mul_right_inj (c.pm x hx) (c.pm y hy) pa e) c.one
  have e : mulL q a = unitL n := e
  have h : mulL (mulL q a) (invL a) = q := by rw [mulL_assoc (c.pm q hq) pa (invL_pm pa), mul_inv pa, mulL_unit (c.pm q hq)]
  rw [e, unit_mulL (invL_pm pa)] at h
  rw [h]
  exact hq
end
theorem act_assoc {n k : Nat} {v g h : List Int} (hv : OkT n k v) (hg : IsPm n g) (hh : IsPm n h) : mulL (mulL v g) h = mulL v (mulL g h) := by
  show (v.map fun x => g.getD x.toNat 0).map (fun x => h.getD x.toNat 0) = v.map fun x => (mulL g h).getD x.toNat 0
  rw [List.map_map]
  refine List.map_congr_left fun x hx => ?_
  obtain ⟨x0, x1⟩ := hv.2 x hx
  obtain ⟨y, hy, y0, y1⟩ := hg.get (i := x.toNat) (by omega)
  obtain ⟨z, hz, _, _⟩ := hh.get (i := y.toNat) (by omega)
  show h.getD (g.getD x.toNat 0).toNat 0 = _
  rw [getD_of hy, getD_of hz, getD_of (mulL_at hy hz)]
theorem act_unit {n k : Nat} {v : List Int} (hv : OkT n k v) : mulL v (unitL n) = v := by
  show (v.map fun x => (unitL n).getD x.toNat 0) = v
  refine (List.map_congr_left fun x hx => ?_).trans (List.map_id v)
  obtain ⟨x0, x1⟩ := hv.2 x hx
  rw [getD_of (unitL_get (by omega))]
  show ((x.toNat : Nat) : Int) = x
  omega
/-- one orbit of the whole group -/
structure Orbit (n k : Nat) (C L : List (List Int)) : Prop where
  nd : L.Nodup
  ne : L ≠ []
  ok : ∀ v ∈ L, OkT n k v
  act : ∀ v ∈ L, ∀ g ∈ C, mulL v g ∈ L
  to : ∀ v ∈ L, ∀ t ∈ L, ∃ h ∈ C, mulL v h = t
theorem Orb.orbit {n k : Nat} {u : List Int} {gs C L S : List (List Int)} (o : Orb (OkT n k) u gs L) (c : Clos n gs C) (pm : ∀ g ∈ gs, IsPm n g) (p : S.Perm L) : Orbit n k C S := by
  have act : ∀ v ∈ L, ∀ g ∈ C, mulL v g ∈ L := fun v hv g hg => by
    refine c.lst (fun g => ∀ v ∈ L, mulL v g ∈ L) (fun v hv => by rw [act_unit (o.pm v hv)]; exact hv) (fun g hg ih b hb v hv => ?_) g hg v hv
    rw [← act_assoc (o.pm v hv) hg (pm b hb)]
    exact o.cl _ (ih v hv) b hb
  have from_u : ∀ t ∈ L, ∃ h ∈ C, mulL u h = t := o.lst (fun t => ∃ h ∈ C, mulL u h = t) ⟨_, c.one, act_unit (o.pm u o.one)⟩ fun t ht ⟨h, hh, e⟩ g hg => ⟨mulL h g, c.cl h hh g hg, by rw [← act_assoc (o.pm u o.one) (c.pm h hh) (pm g hg), e]⟩
  have to : ∀ v ∈ L, ∀ t ∈ L, ∃ h ∈ C, mulL v h = t := fun v hv t ht => by
    obtain ⟨a, ha, ea⟩ := from_u v hv
    obtain ⟨b, hb, eb⟩ := from_u t ht
    have pa := c.pm a ha
    have pi := invL_pm pa
    refine ⟨mulL (invL a) b, c.mul pm (c.inv pm ha) hb, ?_⟩
    rw [← ea, ← act_assoc (by rw [ea]; exact o.pm v hv) pi (c.pm b hb), act_assoc (o.pm u o.one) pa pi, mul_inv pa, act_unit (o.pm u o.one), eb]
  exact ⟨p.nodup_iff.mpr o.nd, (fun e => by have := p.mem_iff.mpr o.one; rw [e] at this; cases this), fun v hv => o.pm v (p.mem_iff.mp hv), fun v hv g hg => p.mem_iff.mpr (act v (p.mem_iff.mp hv) g hg), fun v hv t ht => to v (p.mem_iff.mp hv) t (p.mem_iff.mp ht)⟩
theorem one_in {L : List (List Int)} {x : List Int} : ∀ (_ : L.Nodup) (_ : x ∈ L), (L.filter fun t => decide (x = t)).length = 1 := by
  induction L with
  | nil => intro _ h; cases h
  | cons t L ih =>
    intro nd h
    obtain ⟨n1, n2⟩ := List.nodup_cons.mp nd
    by_cases c : x = t
    · subst c
      rw [List.filter_cons_of_pos (p := fun t => decide (x = t)) (decide_eq_true rfl), List.length_cons]
      have e : L.filter (fun t => decide (x = t)) = [] := List.filter_eq_nil_iff.mpr fun y hy z => n1 (by rw [of_decide_eq_true z]; exact hy)
      rw [e]
      rfl
    · rw [List.filter_cons_of_neg (p := fun t => decide (x = t)) (by rw [decide_eq_false c]; exact Bool.false_ne_true)]
      exact ih n2 ((List.mem_cons.mp h).resolve_left c)
section
variable {n k : Nat} {gs C L : List (List Int)}
/-- how many elements carry v to t -/
def movC (C : List (List Int)) (v t : List Int) : Nat := (C.filter fun g => decide (mulL v g = t)).length
theorem Orbit.movs (o : Orbit n k C L) (c : Clos n gs C) (pm : ∀ g ∈ gs, IsPm n g) {v t : List Int} (hv : v ∈ L) (ht : t ∈ L) : L.length * movC C v t = C.length := by
  have le : ∀ t ∈ L, ∀ t' ∈ L, movC C v t ≤ movC C v t' := fun t ht t' ht' => by
    obtain ⟨h, hh, e⟩ := o.to t ht t' ht'
    refine inj_len (fun g => mulL g h) (c.nd.filter _) (fun g hg => ?_) fun x hx y hy e2 => ?_
    · obtain ⟨hg, e2⟩ := List.mem_filter.mp hg
      have e2 := of_decide_eq_true e2
      refine List.mem_filter.mpr ⟨c.mul pm hg hh, decide_eq_true ?_⟩
      rw [← act_assoc (o.ok v hv) (c.pm g hg) (c.pm h hh), e2, e]
    · exact mul_right_inj (c.pm x (List.mem_filter.mp hx).1) (c.pm y (List.mem_filter.mp hy).1) (c.pm h hh) e2
  have all : (L.map fun t => movC C v t).sum = C.length := by
    have sw := cnt_swap (fun (t g : List Int) => decide (mulL v g = t)) L C
    refine (show (L.map fun t => movC C v t).sum = _ from sw).trans ?_
    have : ∀ D : List (List Int), (∀ g ∈ D, g ∈ C) → (D.map fun g => (L.filter fun t => decide (mulL v g = t)).length).sum = D.length := fun D => by
      induction D with
      | nil => intro _; rfl
      | cons g D ih =>
        intro hD
        rw [List.map_cons, List.sum_cons, ih fun x hx => hD x (List.mem_cons_of_mem _ hx), one_in o.nd (o.act v hv g (hD g (List.mem_cons_self ..))), List.length_cons]
        omega
    exact this C fun g hg => hg
  have same : ∀ t' ∈ L, movC C v t' = movC C v t := fun t' ht' => Nat.le_antisymm (le t' ht' t ht) (le t ht t' ht')
  have : ∀ D : List (List Int), (∀ x ∈ D, x ∈ L) → (D.map fun t => movC C v t).sum = D.length * movC C v t := fun D => by
    induction D with
    | nil => intro _; rw [List.length_nil, Nat.zero_mul]; rfl
    | cons x D ih =>
      intro hD
      rw [List.map_cons, List.sum_cons, ih fun y hy => hD y (List.mem_cons_of_mem _ hy), same x (hD x (List.mem_cons_self ..)), List.length_cons, Nat.succ_mul]
      omega
  rw [← this L fun x hx => hx]
  exact all
theorem swL_act {v g : List Int} (hv : OkT n 2 v) : swL (mulL v g) = mulL (swL v) g := by
  match v, hv.1 with
  | [x, y], _ => rfl
theorem Orbit.turned (o : Orbit n 2 C L) (c : Clos n gs C) (pm : ∀ g ∈ gs, IsPm n g) {u : List Int} (hu : u ∈ L) : (L.map fun v => movC C v (swL v)).sum = if swL u ∈ L then C.length else 0 := by
  have all : swL u ∈ L → ∀ v ∈ L, swL v ∈ L := fun h v hv => by
    obtain ⟨g, hg, e⟩ := o.to u hu v hv
    rw [← e, swL_act (o.ok u hu)]
    exact o.act _ h g hg
  by_cases h : swL u ∈ L
  · rw [if_pos h]
    have pos : 0 < L.length := List.length_pos_of_mem hu
    have each : ∀ v ∈ L, L.length * movC C v (swL v) = C.length := fun v hv => o.movs c pm hv (all h v hv)
    have sum : ∀ D : List (List Int), (∀ x ∈ D, x ∈ L) → L.length * (D.map fun v => movC C v (swL v)).sum = D.length * C.length := fun D => by
      induction D with
      | nil => intro _; rw [List.length_nil, Nat.zero_mul]; rfl
      | cons x D ih =>
        intro hD
        rw [List.map_cons, List.sum_cons, Nat.mul_add, ih fun y hy => hD y (List.mem_cons_of_mem _ hy), each x (hD x (List.mem_cons_self ..)), List.length_cons, Nat.succ_mul]
        omega
    exact Nat.eq_of_mul_eq_mul_left pos (sum L fun x hx => hx)
  · rw [if_neg h]
    have zero : ∀ v ∈ L, movC C v (swL v) = 0 := fun v hv => by
      unfold movC
      rw [List.length_eq_zero_iff, List.filter_eq_nil_iff]
      intro g hg e
      have e := of_decide_eq_true e
      have hs : swL v ∈ L := by rw [← e]; exact o.act v hv g hg
      obtain ⟨t, ht, e2⟩ := o.to v hv u hu
      refine h ?_
      rw [← e2, swL_act (o.ok v hv)]
      exact o.act _ hs t ht
    have sum : ∀ D : List (List Int), (∀ x ∈ D, x ∈ L) → (D.map fun v => movC C v (swL v)).sum = 0 := fun D => by
      induction D with
      | nil => intro _; rfl
      | cons x D ih =>
        intro hD
        rw [List.map_cons, List.sum_cons, ih fun y hy => hD y (List.mem_cons_of_mem _ hy), zero x (hD x (List.mem_cons_self ..))]
    exact sum L fun x hx => hx
theorem perm_sum {a b : List Nat} (h : a.Perm b) : a.sum = b.sum := by
  induction h with
  | nil => rfl
  | cons x _ ih => rw [List.sum_cons, List.sum_cons, ih]
  | swap x y l => rw [List.sum_cons, List.sum_cons, List.sum_cons, List.sum_cons]; omega
  | trans _ _ h1 h2 => rw [h1, h2]
/-- the sum over all squares -/
theorem squares_sum {told : List (List (List Int))} (c : Clos n gs C) (pm : ∀ g ∈ gs, IsPm n g) (orb : ∀ D ∈ told, Orbit n 2 C D) (cover : told.flatten.Perm (pairsL n)) :
    (C.map fun g => fixC (mulL g g)).sum = (told.filter fun D => decide (swL (D.headD []) ∈ D)).length * C.length := by
  have e1 : (C.map fun g => fixC (mulL g g)).sum = (C.map fun g => ((pairsL n).filter fun v => decide (mulL v g = swL v)).length).sum := by
    congr 1
    exact List.map_congr_left fun g hg => fix_sq (c.pm g hg)
  rw [e1, cnt_swap (fun (g v : List Int) => decide (mulL v g = swL v)) C (pairsL n)]
  have e2 : ((pairsL n).map fun v => (C.filter fun g => decide (mulL v g = swL v)).length).sum = (told.flatten.map fun v => movC C v (swL v)).sum := (perm_sum (cover.map fun v => movC C v (swL v))).symm
  rw [e2, sum_flat]
  clear e1 e2 cover
  induction told with
  | nil => rw [List.filter_nil, List.length_nil, Nat.zero_mul]; rfl
  | cons D told ih =>
    have oD := orb D (List.mem_cons_self ..)
    rw [List.map_cons, List.sum_cons, ih fun E hE => orb E (List.mem_cons_of_mem _ hE)]
    obtain ⟨u, D', eD⟩ : ∃ u D', D = u :: D' := by
      cases D with
      | nil => exact absurd rfl oD.ne
      | cons u D' => exact ⟨u, D', rfl⟩
    have hu : u ∈ D := by rw [eD]; exact List.mem_cons_self ..
    have hh : D.headD [] = u := by rw [eD]; rfl
    rw [oD.turned c pm hu]
    by_cases h : swL u ∈ D
    · rw [if_pos h, List.filter_cons_of_pos (p := fun D : List (List Int) => decide (swL (D.headD []) ∈ D)) (by rw [hh]; exact decide_eq_true h), List.length_cons, Nat.succ_mul]
      omega
    · rw [if_neg h, List.filter_cons_of_neg (p := fun D : List (List Int) => decide (swL (D.headD []) ∈ D)) (by rw [hh, decide_eq_false h]; exact Bool.false_ne_true)]
      omega
end
end KL
/-! sets of tuples of ints: whether one is in, one put in, a new one -/
namespace KL
open PySem PySem.Spec PyProof.Rows L2 GA GxR
section
variable {P : Program} {w : World} {A : Around} {E : Value → Shared → Prop} {s : Shared} {a : Addr} {L : List (Addr × List Int)} {es : Array (Int × Value)} {ep : Nat} {t : SetTable}
/-- the c-th step of a key's way -/
def stp (m : Nat) (h : Int) (c : Nat) : SetTable.Probe := nth m (runAt m (SetTable.bits h % (m + 1)) (SetTable.bits h)) c
theorem stp_dummy (m : Nat) (h : Int) : ∀ c, (stp m h c).dummy = none
  | 0 => rfl
  | c + 1 => by
    have e : stp m h (c + 1) = adv m (stp m h c) := nth_succ m _ c
    rw [e]
    have ih := stp_dummy m h c
    generalize stp m h c = p at ih ⊢
    unfold adv
    split
    · exact ih
    · exact ih
theorem stp_add (m : Nat) (h : Int) (c q : Nat) : nth m (stp m h c) q = stp m h (c + q) := (nth_add m c _ q).symm
theorem find_from (R : SetTR P w s.heap a L es ep t) {x : Addr} {k : List Int} (hx : IsT P w s.heap k x) (hu : A.units < cLine) {K : Nat} (hKf : K < 10 * SetTable.turns t.mask)
    (hK : (stp t.mask (thash P w k) K).j ∉ t.place.toList) (hKb : ∀ c, c < K → (stp t.mask (thash P w k) c).j ∈ t.place.toList) {Q : SetFound → Shared → Prop}
    (yes : k ∈ L.map (·.2) → ∀ i : Nat, Q (.there (some i)) s) (no : k ∉ L.map (·.2) → ∀ j, Q (.free j false) s) (f : Nat) :
    ∀ (c : Nat) (stand : Option SetTable.Probe), stand.getD (t.probeStart (thash P w k)) = stp t.mask (thash P w k) c → c ≤ K → K - c < f →
      (∀ (i : Nat) p, L[i]? = some p → p.2 = k → ∃ c', c ≤ c' ∧ c' < K ∧ t.place.toList[i]? = some (stp t.mask (thash P w k) c').j) →
      wpAny (model P w) A (setSearchFrom a (.ref x) (thash P w k) false f stand) Q E s := by
  generalize hhash : thash P w k = hk at hK hKb ⊢
  induction f with
  | zero => intro c stand _ _ hf _; omega
  | succ f ih =>
    intro c stand hst hc hf ahead
    obtain ⟨o, ho, _, hd⟩ := R.ob
    have hashes : ∀ (i : Nat) p, L[i]? = some p → ((es[i]?.map (·.1)).getD 0) = thash P w p.2 := fun i p hp => by
      rw [R.entry hp]
      rfl
    have cases2 := go_spec t R.tab.ris R.tab.dm (fun i => (es[i]?.map (·.1)).getD 0) hk (10 * SetTable.turns t.mask) (K - c) (stp t.mask hk c) (stp_dummy ..) (by omega)
      (fun q hq => by rw [stp_add]; exact hKb (c + q) (by omega)) (by rw [stp_add, show c + (K - c) = K by omega]; exact hK)
    simp only [stp_add] at cases2
    rw [setSearchFrom_succ]
    refine wpAny_bind (wpAny_setState_of ho hd R.fits ?_)
    dsimp only
    refine wp_if_neg R.gw ?_
    try refine wpAny_bind (wpAny_pure ?_)
    rw [hst]
    rcases cases2 with ⟨q, i, hq, hi, _, before, pr⟩ | ⟨before, pr⟩
    · rw [show t.probe (fun i => (es[i]?.map (·.1)).getD 0) hk (stp t.mask hk c) = _ from pr]
      dsimp only
      have il : i < L.length := by
        have h1 := (List.getElem?_eq_some_iff.mp hi).1
        have h2 := R.tab.sz
        rw [List.length_map] at h2
        rw [Array.length_toList] at h1
        omega
      obtain ⟨p, hp⟩ : ∃ p, L[i]? = some p := ⟨_, List.getElem?_eq_getElem il⟩
      have pm := List.mem_of_getElem? hp
      have go : wpAny (model P w) A (searchRest a (.ref x) hk false f es t (stp t.mask hk (c + q)).j i (stp t.mask hk (c + (q + 1)))) Q E s := by
        have live := slot_live R.tab.ris hi
        unfold searchRest
        rw [R.entry hp]
        dsimp only
        refine wpAny_bind (wpAny_holding (wpAny_eqBool_tuple hu (R.tup p pm) hx ?_))
        refine wpAny_bind (wpAny_setState_of ho hd R.fits ?_)
        dsimp only
        refine wp_if_neg (by simp) ?_
        try refine wpAny_bind (wpAny_pure ?_)
        rw [sameMem]
        dsimp only
        simp only [if_true, live, R.entry hp]
        refine wpAny_bind (wpAny_isSame_ref_self (wpAny_bind (wpAny_pure ?_)))
        simp only [if_true]
        by_cases e : p.2 = k
        · refine wp_if_pos (by simp [e]) ?_
          exact wpAny_pure (yes (List.mem_map.mpr ⟨p, pm, e⟩) _)
        · refine wp_if_neg (by simp [e]) ?_
          refine ih (c + (q + 1)) _ rfl (by omega) (by omega) fun i0 p0 h0 k0 => ?_
          obtain ⟨c', a1, a2, a3⟩ := ahead i0 p0 h0 k0
          refine ⟨c', ?_, a2, a3⟩
          apply Classical.byContradiction
          intro small
          by_cases eq : c' = c + q
          · rw [eq] at a3
            have l2 := slot_live R.tab.ris a3
            rw [live] at l2
            injection l2 with l2
            rw [← l2, hp] at h0
            exact e ((congrArg Prod.snd (Option.some.inj h0)).trans k0)
          · refine before (c' - c) i0 (by omega) (by rw [show c + (c' - c) = c' by omega]; exact a3) ?_
            rw [hashes i0 p0 h0, k0, hhash]
      by_cases led : t.led = true
      · refine wp_if_neg (by simp [led]) ?_
        try refine wpAny_bind (wpAny_pure ?_)
        exact go
      · refine wp_if_pos (by simp [led]) ?_
        refine wpAny_bind (seen_tup hx (fun y hy => ?_) ?_)
        · obtain ⟨e, he, ee⟩ := List.mem_map.mp hy
          have he1 : e ∈ es.toList := by
            have h3 : e ∈ es ∧ e.1 = hk := by simpa using he
            simpa using h3.1
          rw [R.rows] at he1
          obtain ⟨p2, hp2, e2⟩ := List.mem_map.mp he1
          exact ⟨p2.2, p2.1, by rw [← ee, ← e2], R.tup p2 hp2⟩
        · refine wp_if_neg (by decide) ?_
          try refine wpAny_bind (wpAny_pure ?_)
          exact go
    · rw [show c + (K - c) = K by omega] at pr
      rw [show t.probe (fun i => (es[i]?.map (·.1)).getD 0) hk (stp t.mask hk c) = _ from pr]
      dsimp only
      refine wpAny_pure (no (fun hm => ?_) _)
      obtain ⟨p0, h0, k0⟩ := List.mem_map.mp hm
      obtain ⟨i0, hi0, e0⟩ := List.getElem_of_mem h0
      have h00 : L[i0]? = some p0 := by rw [List.getElem?_eq_getElem hi0, e0]
      obtain ⟨c', a1, a2, a3⟩ := ahead i0 p0 h00 k0
      refine before (c' - c) i0 (by omega) (by rw [show c + (c' - c) = c' by omega]; exact a3) ?_
      rw [hashes i0 p0 h00, k0, hhash]
theorem find_at (R : SetTR P w s.heap a L es ep t) {x : Addr} {k : List Int} (hx : IsT P w s.heap k x) (hu : A.units < cLine) {Q : Option Nat → Shared → Prop} (h : ∀ r : Option Nat, r.isSome = decide (k ∈ L.map (·.2)) → Q r s) :
    wpAny (model P w) A (setFind a (.ref x) (thash P w k)) Q E s := by
  obtain ⟨o, ho, _, hd⟩ := R.ob
  have room := R.room
  obtain ⟨K, k1, k2, k3⟩ := R.tab.first (by rw [List.length_map]; omega) (thash P w k)
  have big : K < 100000 := by
    have : 10 * SetTable.turns t.mask ≤ 1420 := by
      unfold SetTable.turns
      rcases R.tab.mok with e | e | e <;> omega
    omega
  unfold setFind
  rw [show (100000 : Nat) = 99999 + 1 from rfl]
  unfold setFindIn
  refine wpAny_bind (wpAny_setState_of ho hd R.fits ?_)
  dsimp only
  refine wp_if_neg (by simp [byScan, Value.scannable]) ?_
  try refine wpAny_bind (wpAny_pure ?_)
  refine wpAny_bind ?_
  unfold setSearch
  refine find_from R hx hu k1 k2 k3 (fun hin i => ?_) (fun hout j => ?_) 100000 0 none rfl (Nat.zero_le _) (by omega) fun i p hp hk => ?_
  · exact wpAny_pure (h (some i) (by rw [decide_eq_true hin]; rfl))
  · exact wpAny_pure (h none (by rw [decide_eq_false hout]; rfl))
  · have hi : (L.map fun p => thash P w p.2)[i]? = some (thash P w k) := by rw [List.getElem?_map, hp, ← hk] <;> rfl
    have il : i < t.place.toList.length := by
      have h1 : i < L.length := (List.getElem?_eq_some_iff.mp hp).1
      have h2 := R.tab.sz
      rw [List.length_map] at h2
      rw [Array.length_toList]
      omega
    have hj := List.getElem?_eq_getElem il
    obtain ⟨c, hc, e⟩ := R.tab.before k2 hi hj
    exact ⟨c, Nat.zero_le _, hc, by rw [hj, ← e]; rfl⟩
end
end KL
namespace KL
open PySem PySem.Spec PyProof.Rows L2 GA GxR
section
variable {P : Program} {w : World} {A : Around} {E : Value → Shared → Prop} {s : Shared} {a : Addr} {L : List (Addr × List Int)} {es : Array (Int × Value)} {ep : Nat} {t : SetTable}
theorem setT_type (R : SetTR P w s.heap a L es ep t) : s.TypeIs (.ref a) "set" := let ⟨o, ho, hex, _⟩ := R.ob; ⟨o, ho, hex.1⟩
theorem has_setT (R : SetTR P w s.heap a L es ep t) {x : Addr} {k : List Int} (hx : IsT P w s.heap k x) (hu : A.units + 8 < cLine) {Q : Bool → Shared → Prop} (h : ∀ tk, Q (decide (k ∈ L.map (·.2))) { s with toks := tk }) :
    wpAny (model P w) A (contains (.ref a) (.ref x)) Q E s := by
  unfold contains
  try with_reducible refine wpAny_holding ?_
  refine wpAny_bind (wpAny_specialOf (setT_type R) F.slot_set_contains.lookup ?_)
  show wpAny _ _ (if (some (Value.builtin "set.__contains__") == some Value.none) = true then _ else _) _ E s
  rw [if_neg (by rw [beq_builtin_none]; exact Bool.false_ne_true)]
  refine wpAny_bind (wpAny_callSpecialUnlessNone?_slot (name := Str.ofString "__contains__") (setT_type R) F.slot_set_contains
    (wpAny_call_entry F.slot_set_contains (setT_type R) entry_set_contains ?_ (F.args_set_contains_2 _ _)))
  unfold Builtin.«frozenset.__contains__» Builtin.Frozenset.oneOther
  simp only [List.isEmpty_nil, bind_assoc]
  unfold Builtin.Frozenset.addrOf Builtin.Frozenset.withSetAsKey setContains
  refine wpAny_bind (wpAny_pure ?_)
  try dsimp only
  refine wpAny_bind (wpAny_pure ?_)
  try dsimp only
  refine wpAny_bind (wpAny_tryCatch ?_)
  refine wpAny_holding ?_
  refine wpAny_bind (wpAny_pyHash_tuple (by first | exact Nat.lt_of_le_of_lt (Nat.le_add_right _ 8) hu | (show _ < cLine; omega) | (simp; omega)) hx ?_)
  refine wpAny_bind (find_at (s := { s with toks := s.toks + (k.length + 1) }) R hx (by first | exact Nat.lt_of_le_of_lt (Nat.le_add_right _ 8) hu | (simp; omega)) fun r hr => ?_)
  refine wpAny_pure ?_
  show wpAny _ _ (ret (Value.bool r.isSome)) _ _ _
  rw [hr]
  exact wpAny_pure ⟨_, rfl, wpAny_truthy_bool (h _)⟩
theorem put_setT (R : SetTR P w s.heap a L es ep t) {x : Addr} {k : List Int} (hx : IsT P w s.heap k x) (hu : A.units + 8 < cLine) (few : L.length + 1 < 64) {Q : Value → Shared → Prop}
    (h : ∀ h' tk L' es' ep' t', Heap.SameBut a s.heap h' → SetTR P w h' a L' es' ep' t' → (k ∈ L.map (·.2) → L' = L) → (k ∉ L.map (·.2) → L'.Perm ((x, k) :: L)) → Q .none { s with heap := h', toks := tk }) :
    wpAny (model P w) A (call (.builtin "set.add") [.ref a, .ref x]) Q E s := by
  refine wpAny_call_entry F.slot_set_add (setT_type R) F.entry_set_add ?_ (F.args_set_add_2 _ _)
  unfold Builtin.«set.add» Builtin.Frozenset.oneOther
  simp only [List.isEmpty_nil, bind_assoc]
  unfold Builtin.Frozenset.addrOf setAdd
  refine wpAny_bind (wpAny_pure ?_)
  try dsimp only
  refine wpAny_bind (wpAny_pure ?_)
  try dsimp only
  refine wpAny_bind ?_
  refine wpAny_holding ?_
  refine wpAny_bind (wpAny_pyHash_tuple (by first | exact Nat.lt_of_le_of_lt (Nat.le_add_right _ 8) hu | (simp; omega)) hx ?_)
  refine add_at (s := { s with toks := s.toks + (k.length + 1) }) R hx (by first | exact Nat.lt_of_le_of_lt (Nat.le_add_right _ 8) hu | (simp; omega)) few fun b h' L' es' ep' t' sb R2 c1 c2 => ?_
  show wpAny _ _ (ret Value.none) _ _ _
  exact wpAny_pure ⟨_, rfl, h h' _ L' es' ep' t' sb R2 c1 c2⟩
end
/-- the tuples of a set, with their places -/
def RowsT (H : Hp) (L : List (Addr × List Int)) : Prop := ∀ p ∈ L, H p.1 = some (.tup (p.2.map V.int))
section
variable {X : Cx}
/-- t in seen, t not in seen -/
def rInT (K : PySem.W.Frag) (P : Program) (w : World) (neg : Bool) : R2 := fun x y H Q => ∃ (b a : Addr) (k : List Int) (L : List (Addr × List Int)), x = .ref b ∧ H b = some (.tup (k.map V.int)) ∧ y = .ref a ∧ H a = some (SetTO P w a L) ∧ RowsT H L ∧ Q (.bl (if neg then !decide (k ∈ L.map (·.2)) else decide (k ∈ L.map (·.2)))) H
theorem setT_full {pins : List (Addr × Obj)} {σ : L2.St} {H : Hp} {s : Shared} {a : Addr} {L : List (Addr × List Int)} (I : Inv X pins σ H s) (h : H a = some (SetTO X.prog X.w a L)) (r : RowsT H L) : ∃ es ep t, SetTR X.prog X.w s.heap a L es ep t := by
  have R0 : SetT0 X.prog X.w s.heap a L := (I.hok a _ h).1
  exact R0.full fun p hp => I.isT (.inl (.inl (r p hp)))
theorem or_tin (hu : X.A.units + 64 < cLine) : OpR X (compareOp .In) (rInT X.K X.prog X.w false) := by
  intro pins s σ H x y v u Q I rx ry h
  obtain ⟨b, a, k, L, rfl, hb, rfl, ha, hr, q⟩ := h
  cases rx
  cases ry
  obtain ⟨es, ep, t, R⟩ := setT_full I ha hr
  show wpAny _ _ (do return Value.bool (← contains (.ref a) (.ref b))) _ _ s
  refine wpAny_bind (has_setT R (I.isT (.inl (.inl hb))) (by omega) fun tk => wpAny_pure ?_)
  exact ⟨.bl (decide (k ∈ L.map fun p : Addr × List Int => p.2)), H, I.tok tk, rfl, q⟩
theorem or_tnotin (hu : X.A.units + 64 < cLine) : OpR X (compareOp .NotIn) (rInT X.K X.prog X.w true) := by
  intro pins s σ H x y v u Q I rx ry h
  obtain ⟨b, a, k, L, rfl, hb, rfl, ha, hr, q⟩ := h
  cases rx
  cases ry
  obtain ⟨es, ep, t, R⟩ := setT_full I ha hr
  show wpAny _ _ (do return Value.bool (!(← contains (.ref a) (.ref b)))) _ _ s
  refine wpAny_bind (has_setT R (I.isT (.inl (.inl hb))) (by omega) fun tk => wpAny_pure ?_)
  exact ⟨.bl (!decide (k ∈ L.map fun p : Addr × List Int => p.2)), H, I.tok tk, rfl, q⟩
/-- set(), for tuples -/
def rSet0T (P : Program) (w : World) : List V → Hp → VK → Prop := fun xs H Q => xs = [] ∧ ∀ p, H p = none → Q (.ref p) (upd H p (SetTO P w p []))
theorem cr_set0T : CallR X (.type "set") (rSet0T X.prog X.w) := by
  intro pins s σ H xs us Q I r h
  obtain ⟨rfl, q⟩ := h
  cases r
  refine setR_new fun _ => ?_
  have new : SetTR X.prog X.w (s.heap.push { cls := .type "set", dict := none, data := .set #[] 0 (.fresh 0 0 (!X.w.params.followText "set-order")) }) s.heap.objs.size [] #[] 0 (.fresh 0 0 (!X.w.params.followText "set-order")) := setTR_fresh (Heap.get?_push_size _ rfl)
  exact ⟨.ref _, upd H s.heap.objs.size (SetTO X.prog X.w s.heap.objs.size []), I.laid (t' := s.toks) (fun b u e => Heap.get?_push_of_some _ e) (Nat.le_refl _) (setTO_new new.t0), rfl, q _ (I.hok.fresh (Nat.le_refl _))⟩
/-- seen.add(t) -/
def rAddT (P : Program) (w : World) : V → List V → Hp → VK → Prop := fun x xs H Q => ∃ (a b : Addr) (k : List Int) (L : List (Addr × List Int)), x = .ref a ∧ xs = [.ref b] ∧ H b = some (.tup (k.map V.int)) ∧ H a = some (SetTO P w a L) ∧ RowsT H L ∧ L.length + 1 < 64 ∧
  ∀ L' : List (Addr × List Int), (k ∈ L.map (·.2) → L' = L) → (k ∉ L.map (·.2) → L'.Perm ((b, k) :: L)) → Q .non (upd H a (SetTO P w a L'))
theorem mt_addT (hu : X.A.units + 64 < cLine) : MtR X "set.add" (rAddT X.prog X.w) := by
  intro pins s σ H x xs v us Q I rx rxs h
  obtain ⟨a, b, k, L, rfl, rfl, hb, ha, hr, few, q⟩ := h
  cases rx
  obtain rfl := Vals.ref1 rxs
  obtain ⟨es, ep, t, R⟩ := setT_full I ha hr
  refine put_setT R (I.isT (.inl (.inl hb))) (by omega) few fun h' tk L' es' ep' t' sb R2 c1 c2 => ?_
  have he : ∃ u, h'.get? a = some u := let ⟨o, ho, _⟩ := R2.ob; ⟨o, ho⟩
  exact ⟨.non, upd H a (SetTO X.prog X.w a L'), I.write (e := a) (t' := tk) (by rw [ha]; trivial) (.inl rfl) (fun b u hb hu => (sb.2 b hb).trans hu) he (setTO_new R2.t0), rfl, q L' c1 c2⟩
def tAddT (P : Program) (w : World) (to : TE) (t : TA) : TE := fun σ H Q => to σ H fun x H1 => (∃ a L, x = V.ref a ∧ H1 a = some (SetTO P w a L)) ∧ t σ H1 fun xs H2 => rAddT P w x xs H2 Q
variable {o e : Expr} {es' : List Expr} {to : TE} {t' : TA} {apos cpos : Pos}
theorem pe_addT (hu : X.A.units + 64 < cLine) (ho : PE X o to) (ha : PA X (e :: es') t')
    (hbase : attributeBase o "add" X.env (eval o X.env) = eval o X.env := by rfl)
    (hfew : ((backTo cpos (starEach (e :: es') X.env)).all (fun x => !x.1) && (backToKw cpos (keywordEach [] X.env)).all (fun x => x.1.isSome)
      && decide ((e :: es').length + ([] : List Keyword).length + (if ([] : List Keyword).isEmpty then 0 else 1) < 30)) = true := by rfl)
    (hline : (apos.endLine == cpos.line) = true := by rfl) (hs : starEach (e :: es') X.env = (false, eval e X.env) :: starEach es' X.env := by rfl) (hplain : (backTo cpos (starEach es' X.env)).any (·.1) = false := by rfl) :
    PE X (.Call (.Attribute o "add" apos) (e :: es') [] cpos) (tAddT X.prog X.w to t') := by
  refine ⟨fun pins s σ H Q I h => ?_⟩
  refine wpAny_Call_method_late hbase hfew hline rfl (thn (ho.run pins s σ H _ I h) fun v s1 ⟨x, H1, I1, r1, ty, q1⟩ => ?_)
  obtain ⟨a, L, rfl, hka⟩ := ty
  have R0 : SetT0 X.prog X.w s1.heap a L := (I1.hok a _ hka).1
  obtain ⟨_, _, _, ⟨ob, hob, hex, _⟩, _⟩ := R0.ex
  cases r1
  refine ⟨"set", "set.add", F.plainAttrs_set, F.slot_set_add, F.type_set_add, ⟨ob, hob, hex.1⟩, (fun b e => by injection e with e; subst e; exact ⟨ob, hob, hex.2.1⟩), ?_⟩
  have hA := ha.run cpos pins s1 σ H1 _ I1 q1
  rw [hs] at hA ⊢
  refine Calls.callWith_builtin (by show (false || (backTo cpos (starEach es' X.env)).any (·.1)) = false; rw [hplain] <;> rfl) (Calls.evalArgs_plain ?_)
  exact thn hA fun us s2 ⟨vs, H2, I2, r2, q2⟩ => mt_addT hu pins s2 σ H2 (.ref a) vs (.ref a) us Q I2 rfl r2 q2
end
theorem tinR {X : Cx} {K : PySem.W.Frag} (e : X.K = K) {k : Nat} (hr : Room k X.A) : OpR X (compareOp .In) (rInT K X.prog X.w false) := by subst e; exact or_tin (deepOf hr)
theorem tnotinR {X : Cx} {K : PySem.W.Frag} (e : X.K = K) {k : Nat} (hr : Room k X.A) : OpR X (compareOp .NotIn) (rInT K X.prog X.w true) := by subst e; exact or_tnotin (deepOf hr)
end KL
/-! the orbits of pairs -/
namespace KL
open PySem PySem.Spec PyProof.Rows L2 GA GxR
/-- one of the orbits as told: sorted, an orbit by the generators -/
def TldP (n : Nat) (gs D : List (List Int)) : Prop := D.Pairwise (fun a b => HT.lexLt b a = false) ∧ ∃ u L, Orb (OkT n 2) u gs L ∧ D.Perm L
def InOrb (n : Nat) (gs : List (List Int)) (u v : List Int) : Prop := ∀ S : List Int → Prop, S u → (∀ c, OkT n 2 c → S c → ∀ g ∈ gs, S (mulL c g)) → S v
/-- the row of u, and all rows, as they must be -/
noncomputable def rowF (n : Nat) (gs : List (List Int)) (u : List Int) : List (List Int) := (pairsL n).filter fun v => @decide (InOrb n gs u v) (Classical.propDecidable _)
noncomputable def poS (n : Nat) (gs : List (List Int)) (told : List (List (List Int))) (v : List Int) : List (List (List Int)) := if v ∈ told.flatten then told else told ++ [rowF n gs v]
noncomputable def poF (n : Nat) (gs : List (List Int)) : List (List (List Int)) := (pairsL n).foldl (poS n gs) []
def preL (n i j : Nat) : List (List Int) := ((List.range i).flatMap fun a : Nat => (List.range n).map fun b : Nat => [(a : Int), (b : Int)]) ++ (List.range j).map fun b : Nat => [(i : Int), (b : Int)]
theorem preL_more (n i j : Nat) : preL n i (j + 1) = preL n i j ++ [[(i : Int), (j : Int)]] := by
  unfold preL
  rw [List.range_succ, List.map_append, ← List.append_assoc]
  rfl
theorem preL_next (n i : Nat) : preL n (i + 1) 0 = preL n i n := by
  unfold preL
  rw [List.range_succ, List.flatMap_append, List.range_zero, List.map_nil, List.append_nil, List.flatMap_cons, List.flatMap_nil, List.append_nil]
theorem preL_all (n : Nat) : preL n n 0 = pairsL n := by
  unfold preL pairsL
  rw [List.range_zero, List.map_nil, List.append_nil]
theorem lex_anti : ∀ {xs ys : List Int}, xs.length = ys.length → HT.lexLt xs ys = false → HT.lexLt ys xs = false → xs = ys
  | [], [], _, _, _ => rfl
  | [], _ :: _, h, _, _ => by cases h
  | _ :: _, [], h, _, _ => by cases h
  | x :: xs, y :: ys, h, h1, h2 => by
    rw [HT.lexLt_cons] at h1 h2
    by_cases e : x = y
    · subst e
      rw [if_pos rfl] at h1 h2
      rw [lex_anti (by simpa using h) h1 h2]
    · rw [if_neg e] at h1
      rw [if_neg (fun z => e z.symm)] at h2
      have := of_decide_eq_false h1
      have := of_decide_eq_false h2
      omega
theorem sorted_one : ∀ {A B : List (List Int)}, A.Nodup → B.Nodup → A.Pairwise (fun a b => HT.lexLt b a = false) → B.Pairwise (fun a b => HT.lexLt b a = false) → (∀ v, v ∈ A ↔ v ∈ B) → (∀ x ∈ A, ∀ y ∈ A, x.length = y.length) → A = B
  | [], [], _, _, _, _, _, _ => rfl
  | [], b :: B, _, _, _, _, h, _ => by have := (h b).mpr (List.mem_cons_self ..); cases this
  | a :: A, [], _, _, _, _, h, _ => by have := (h a).mp (List.mem_cons_self ..); cases this
  | a :: A, b :: B, nA, nB, sA, sB, h, len => by
    obtain ⟨na, nA2⟩ := List.nodup_cons.mp nA
    obtain ⟨nb, nB2⟩ := List.nodup_cons.mp nB
    obtain ⟨sa, sA2⟩ := List.pairwise_cons.mp sA
    obtain ⟨sb, sB2⟩ := List.pairwise_cons.mp sB
    have bA : b ∈ a :: A := (h b).mpr (List.mem_cons_self ..)
    have aB : a ∈ b :: B := (h a).mp (List.mem_cons_self ..)
    have e : a = b := by
      rcases List.mem_cons.mp bA with e | hb
      · exact e.symm
      · rcases List.mem_cons.mp aB with e | ha
        · exact e
        · exact lex_anti (len a (List.mem_cons_self ..) b bA) (sb a ha) (sa b hb)
    subst e
    refine congrArg (a :: ·) (sorted_one nA2 nB2 sA2 sB2 (fun v => ⟨fun hv => ?_, fun hv => ?_⟩) fun x hx y hy => len x (List.mem_cons_of_mem _ hx) y (List.mem_cons_of_mem _ hy))
    · exact (List.mem_cons.mp ((h v).mp (List.mem_cons_of_mem _ hv))).resolve_left fun e => na (e ▸ hv)
    · exact (List.mem_cons.mp ((h v).mpr (List.mem_cons_of_mem _ hv))).resolve_left fun e => nb (e ▸ hv)
theorem pairs_nd : ∀ n, n < 8 → (pairsL n).Nodup := by decide +kernel
def srtB : List (List Int) → Bool
  | [] => true
  | x :: l => l.all (fun y => !HT.lexLt y x) && srtB l
theorem srtB_ok : ∀ {l : List (List Int)}, srtB l = true → l.Pairwise (fun a b => HT.lexLt b a = false)
  | [], _ => .nil
  | x :: l, h => by
    unfold srtB at h
    rw [Bool.and_eq_true] at h
    refine .cons (fun y hy => ?_) (srtB_ok h.2)
    have := List.all_eq_true.mp h.1 y hy
    simpa using this
theorem pairs_srt : ∀ n, n < 8 → srtB (pairsL n) = true := by decide +kernel
theorem row_is {n : Nat} {gs L R : List (List Int)} {u : List Int} (n7 : n ≤ 7) (o : Orb (OkT n 2) u gs L) (p : R.Perm L) (s : R.Pairwise (fun a b => HT.lexLt b a = false)) : R = rowF n gs u := by
  refine sorted_one (p.nodup_iff.mpr o.nd) ((pairs_nd n (by omega)).filter _) s ((srtB_ok (pairs_srt n (by omega))).filter _) (fun v => ?_) fun x hx y hy => ((o.pm x (p.mem_iff.mp hx)).1.trans (o.pm y (p.mem_iff.mp hy)).1.symm)
  unfold rowF
  rw [p.mem_iff, List.mem_filter, mem_pairsL]
  constructor
  · intro h
    exact ⟨o.pm v h, @decide_eq_true _ (Classical.propDecidable _) fun S h1 h2 => o.lst S h1 h2 v h⟩
  · intro ⟨_, h⟩
    exact (@of_decide_eq_true _ (Classical.propDecidable _) h) (fun v => v ∈ L) o.one fun c _ hc g hg => o.cl c hc g hg
structure PairO (n : Nat) (gs : List (List Int)) (told : List (List (List Int))) : Prop where
  each : ∀ D ∈ told, TldP n gs D
  cover : told.flatten.Perm (pairsL n)
  is : told = poF n gs
def spPairOrbits (K : PySem.W.Frag) : Sp := fun vs H Q _ => ∃ (a : Addr) (n : Nat) (gs : List (List Int)), vs = [.ref a] ∧ GrpAt H a n gs ∧ (∀ g ∈ gs, IsPm n g) ∧ 1 ≤ n ∧ n ≤ 7 ∧ gs.length ≤ 12 ∧ TabG H (PP K) ∧
  ∀ (c : Addr) (H' : Hp) (Bs : List Addr) (told : List (List (List Int))), Ex H H' → H' c = some (.lst (Bs.map V.ref)) → ListsT H' Bs told → PairO n gs told → Q (.ref c) H'
theorem pairs_few : ∀ n, n < 8 → (pairsL n).length ≤ 49 := by decide
theorem pairs_cap {n : Nat} (h : n ≤ 7) (L : List (List Int)) (nd : L.Nodup) (ok : ∀ v ∈ L, OkT n 2 v) : L.length ≤ 49 :=
  Nat.le_trans (llen_le_sub nd fun v hv => mem_pairsL.mpr (ok v hv)) (pairs_few n (by omega))
theorem act_inj {n k : Nat} {v t g : List Int} (hv : OkT n k v) (ht : OkT n k t) (hg : IsPm n g) (e : mulL v g = mulL t g) : v = t := by
  have h : mulL (mulL v g) (invL g) = mulL (mulL t g) (invL g) := by rw [e]
  rw [act_assoc hv hg (invL_pm hg), act_assoc ht hg (invL_pm hg), mul_inv hg, act_unit hv, act_unit ht] at h
  exact h
/-- orbits that meet are one -/
theorem TldP.meet {n : Nat} {gs D L : List (List Int)} {u v : List Int} (pm : ∀ g ∈ gs, IsPm n g) (d : TldP n gs D) (o : Orb (OkT n 2) u gs L) (hv : v ∈ L) (hd : v ∈ D) : u ∈ D := by
  obtain ⟨_, u2, L2, o2, p⟩ := d
  have nd : D.Nodup := p.nodup_iff.mpr o2.nd
  refine o.lst (fun t => t ∈ D → u ∈ D) (fun h => h) (fun c hc ih g hg h => ?_) v hv hd
  have ok : ∀ x ∈ D, OkT n 2 x := fun x hx => o2.pm x (p.mem_iff.mp hx)
  obtain ⟨x, hx, e⟩ := inj_onto (fun x => mulL x g) nd (fun x hx => p.mem_iff.mpr (o2.cl x (p.mem_iff.mp hx) g hg)) (fun x hx y hy e => act_inj (ok x hx) (ok y hy) (pm g hg) e) h
  have ex : x = c := act_inj (ok x hx) hc (pm g hg) e
  exact ih (ex ▸ hx)
structure PO (P : Program) (w : World) (n : Nat) (gs : List (List Int)) (H H1 : Hp) (l sS : Addr) (Bs : List Addr) (told : List (List (List Int))) (L : List (Addr × List Int)) : Prop where
  ex : Ex H H1
  hl : H1 l = some (.lst (Bs.map V.ref))
  rows : ListsT H1 Bs told
  hs : H1 sS = some (SetTO P w sS L)
  lt : RowsT H1 L
  each : ∀ D ∈ told, TldP n gs D
  nd : told.flatten.Nodup
  mem : ∀ v, v ∈ L.map (·.2) ↔ v ∈ told.flatten
  len : L.length = told.flatten.length
theorem PO.ok {P : Program} {w : World} {n : Nat} {gs : List (List Int)} {H H1 : Hp} {l sS : Addr} {Bs : List Addr} {told : List (List (List Int))} {L : List (Addr × List Int)} (p : PO P w n gs H H1 l sS Bs told L) : ∀ v ∈ told.flatten, OkT n 2 v := fun v hv => by
  obtain ⟨D, hD, hv⟩ := List.mem_flatten.mp hv
  obtain ⟨_, u, L2, o, q⟩ := p.each D hD
  exact o.pm v (q.mem_iff.mp hv)
theorem PO.exx {P : Program} {w : World} {n : Nat} {gs : List (List Int)} {H H1 H2 : Hp} {l sS : Addr} {Bs : List Addr} {told : List (List (List Int))} {L : List (Addr × List Int)} (p : PO P w n gs H H1 l sS Bs told L) (x : Ex H1 H2) : PO P w n gs H H2 l sS Bs told L :=
  ⟨p.ex.trans x, x.st _ _ p.hl refs_norow, p.rows.ex x, x.st _ _ p.hs trivial, fun q hq => x.st _ _ (p.lt q hq) trivial, p.each, p.nd, p.mem, p.len⟩
theorem ListsT.upd {H : Hp} {Bs : List Addr} {Ds : List (List (List Int))} {p : Addr} {o u : HO} (h : ListsT H Bs Ds) (e : H p = some u) (n : ∀ xs, u ≠ .tup xs) : ListsT (L2.upd H p o) Bs Ds := by
  induction h with
  | nil => exact .nil
  | @snoc Bs Ds b As D _ h1 h2 ih => exact .snoc ih (by rw [upd_ne (fun z => by rw [z, e] at h1; exact n _ (Option.some.inj h1))]; exact h1) (h2.upd e n)
theorem set_notup {P : Program} {w : World} {a : Addr} {L : List (Addr × List Int)} : ∀ xs, SetTO P w a L ≠ .tup xs := fun xs z => by unfold SetTO at z; cases z
theorem set_nolst {P : Program} {w : World} {a : Addr} {L : List (Addr × List Int)} {xs : List V} : HO.lst xs ≠ SetTO P w a L := fun z => by unfold SetTO at z; cases z
end KL
/-! t in a tuple of tuples; numbers that are let -/
namespace KL
open PySem PySem.Spec PyProof.Rows L2 GA GxR
def rInTD (K : PySem.W.Frag) : R2 := fun x y H Q => ∃ d ds, Dp K H x d ∧ Dp K H y (.tuple ds) ∧ SeqAt.shaped d = true ∧ SeqAt.shaped (.tuple ds) = true ∧ Q (.bl (ds.any fun z => PyData.eqv z d)) H
theorem op_inTD {X : Cx} (hu : X.A.units + 65 < cLine) : OpR X (compareOp .In) (rInTD X.K) := by
  intro pins s σ H x y v u Q I rx ry h
  obtain ⟨d, ds, hd, he, sd, se, q⟩ := h
  obtain ⟨as, r1⟩ := Dp.reads I d x v hd rx
  obtain ⟨bs, r2⟩ := Dp.reads I (.tuple ds) y u he ry
  exact SeqAt.in_tuple_reads r2 r1 (SeqAt.canLay_of_shaped se) (SeqAt.canLay_of_shaped sd) (room_in_shaped sd hu) ⟨.bl _, H, I, rfl, q⟩
theorem inTD {X : Cx} {K : PySem.W.Frag} (e : X.K = K) {k : Nat} (hr : Room k X.A) : OpR X (compareOp .In) (rInTD K) := by
  subst e
  exact op_inTD (by have := hr.un; omega)
theorem row_eqv (r t : List Int) : PyData.eqv (rowD r) (rowD t) = decide (r = t) := PySem.W.ked_eqvAll r t
theorem rows_any (R : List (List Int)) (v : List Int) : ((R.map rowD).any fun z => PyData.eqv z (rowD v)) = decide (v ∈ R) := by
  induction R with
  | nil => rfl
  | cons r R ih =>
    rw [List.map_cons, List.any_cons, ih, row_eqv, Bool.eq_iff_iff, Bool.or_eq_true, decide_eq_true_iff, decide_eq_true_iff, decide_eq_true_iff, List.mem_cons]
    exact ⟨fun h => h.imp Eq.symm id, fun h => h.imp Eq.symm id⟩
theorem shaped_rowsT (Rs : List (List Int)) : SeqAt.shaped (.tuple (Rs.map rowD)) = true := shaped_rows Rs
/-- v in a row of rows -/
theorem in_rows {K : PySem.W.Frag} {H : Hp} {b t : Addr} {As : List Addr} {R : List (List Int)} {v : List Int} {Q : VK} (hb : H b = some (.tup (v.map V.int))) (ht : H t = some (.tup (As.map V.ref))) (hR : RowsAt H As R) (q : Q (.bl (decide (v ∈ R))) H) : rInTD K (.ref b) (.ref t) H Q :=
  ⟨rowD v, R.map rowD, dpT_ints hb, .tup (.inl (.inl ht)) (dpAll_rows hR), shapedT_ints v, shaped_rowsT R, by rw [rows_any]; exact q⟩
def spCkNumber : Sp := fun vs H Q _ => ∃ v lo hi : Int, vs = [.int v, .int lo, .int hi] ∧ lo ≤ v ∧ v ≤ hi ∧ Q .non H
theorem ListsT.at_ {H : Hp} {Bs : List Addr} {Ds : List (List (List Int))} (h : ListsT H Bs Ds) : ∀ (i : Nat) (D : List (List Int)), Ds[i]? = some D → ∃ b As, Bs[i]? = some b ∧ H b = some (.tup (As.map V.ref)) ∧ RowsAt H As D := by
  induction h with
  | nil => intro i D e; simp at e
  | @snoc Bs Ds b As D hl h1 h2 ih =>
    intro i E e
    have ln := hl.len
    by_cases c : i < Ds.length
    · rw [List.getElem?_append_left c] at e
      obtain ⟨b', As', k1, k2, k3⟩ := ih i E e
      exact ⟨b', As', by rw [List.getElem?_append_left (by omega)]; exact k1, k2, k3⟩
    · have hi := (List.getElem?_eq_some_iff.mp e).1
      rw [List.length_append] at hi
      have hi : i < Ds.length + 1 := hi
      have ei : i = Ds.length := by omega
      subst ei
      rw [List.getElem?_append_right (Nat.le_refl _), Nat.sub_self] at e
      cases e
      exact ⟨b, As, by rw [List.getElem?_append_right (by omega), ln, Nat.sub_self]; rfl, h1, h2⟩
/-- which rows hold the pair of row k's first pair, turned about -/
def mirs (told : List (List (List Int))) (k : Nat) : List Nat := (List.range told.length).filter fun i => decide (swL ((told.getD k []).headD []) ∈ told.getD i [])
def spMirrorIx (K : PySem.W.Frag) : Sp := fun vs H Q _ => ∃ (l : Addr) (Bs : List Addr) (told : List (List (List Int))) (n k i : Nat) (more : List Nat), vs = [.ref l, .int k] ∧ H l = some (.lst (Bs.map V.ref)) ∧ ListsT H Bs told ∧ (∀ D ∈ told, D ≠ [] ∧ ∀ v ∈ D, OkT n 2 v) ∧ k < told.length ∧ told.length ≤ 49 ∧ mirs told k = i :: more ∧ ∀ H', Ex H H' → Q (.int i) H'
end KL
/-! mirrors -/
namespace KL
open PySem PySem.Spec PyProof.Rows L2 GA GxR
theorem one_rangeL (c : Nat) : ∀ n, ((List.range n).filter fun b => decide (b = c)) = if c < n then [c] else []
  | 0 => by rw [if_neg (by omega)]; rfl
  | n + 1 => by
    rw [List.range_succ, List.filter_append, one_rangeL c n]
    by_cases e : n = c
    · subst e
      rw [List.filter_cons_of_pos (p := fun b => decide (b = n)) (decide_eq_true rfl), List.filter_nil, if_neg (by omega), if_pos (by omega)]
      rfl
    · rw [List.filter_cons_of_neg (p := fun b => decide (b = c)) (by rw [decide_eq_false e]; exact Bool.false_ne_true), List.filter_nil, List.append_nil]
      by_cases h : c < n
      · rw [if_pos h, if_pos (by omega)]
      · rw [if_neg h, if_neg (by omega)]
section
variable {n : Nat} {gs : List (List Int)} {told : List (List (List Int))}
theorem PairO.ok (p : PairO n gs told) : ∀ D ∈ told, D ≠ [] ∧ ∀ v ∈ D, OkT n 2 v := fun D hD => by
  obtain ⟨_, u, L, o, q⟩ := p.each D hD
  refine ⟨fun e => ?_, fun v hv => o.pm v (q.mem_iff.mp hv)⟩
  have := q.mem_iff.mpr o.one
  rw [e] at this
  cases this
theorem PairO.len (p : PairO n gs told) (n7 : n ≤ 7) : told.length ≤ 49 := by
  have h2 : ∀ Ds : List (List (List Int)), (∀ D ∈ Ds, D ≠ []) → Ds.length ≤ Ds.flatten.length := fun Ds => by
    induction Ds with
    | nil => intro _; exact Nat.le_refl _
    | cons D Ds ih =>
      intro h
      have a := ih fun E hE => h E (List.mem_cons_of_mem _ hE)
      have b := List.length_pos_iff.mpr (h D (List.mem_cons_self ..))
      rw [List.length_cons, List.flatten_cons, List.length_append]
      omega
  have h3 := h2 told fun D hD => (p.ok D hD).1
  rw [p.cover.length_eq] at h3
  exact Nat.le_trans h3 (pairs_few n (by omega))
theorem PairO.one (p : PairO n gs told) (n7 : n ≤ 7) {v : List Int} (hv : OkT n 2 v) : ∃ i, i < told.length ∧ v ∈ told.getD i [] ∧ ((List.range told.length).filter fun j => decide (v ∈ told.getD j [])) = [i] := by
  have nd : told.flatten.Nodup := p.cover.nodup_iff.mpr (pairs_nd n (by omega))
  have dis := (List.pairwise_flatten.mp nd).2
  obtain ⟨D, hD, hvD⟩ := List.mem_flatten.mp (p.cover.mem_iff.mpr (mem_pairsL.mpr hv))
  obtain ⟨i, hi, e⟩ := List.getElem_of_mem hD
  have g : ∀ j (hj : j < told.length), told.getD j [] = told[j] := fun j hj => by rw [List.getD_eq_getElem?_getD, List.getElem?_eq_getElem hj]; rfl
  refine ⟨i, hi, by rw [g i hi, e]; exact hvD, ?_⟩
  have cong : ∀ j ∈ List.range told.length, decide (v ∈ told.getD j []) = decide (j = i) := fun j hj => by
    have hj := List.mem_range.mp hj
    rw [Bool.eq_iff_iff, decide_eq_true_iff, decide_eq_true_iff, g j hj]
    constructor
    · intro h
      apply Classical.byContradiction
      intro ne
      rcases Nat.lt_or_gt_of_ne ne with c | c
      · exact List.pairwise_iff_getElem.mp dis j i hj hi c v h v (by rw [e]; exact hvD) rfl
      · exact List.pairwise_iff_getElem.mp dis i j hi hj c v (by rw [e]; exact hvD) v h rfl
    · intro h
      subst h
      rw [e]
      exact hvD
  rw [List.filter_congr cong, one_rangeL, if_pos hi]
theorem swL_ok {v : List Int} (h : OkT n 2 v) : OkT n 2 (swL v) := by
  match v, h with
  | [x, y], h => exact ⟨rfl, fun z hz => h.2 z (by simp only [swL, List.mem_cons, List.not_mem_nil, or_false] at hz ⊢; exact hz.symm)⟩
theorem PairO.mirs (p : PairO n gs told) (n7 : n ≤ 7) {k : Nat} (hk : k < told.length) : ∃ i, i < told.length ∧ KL.mirs told k = [i] ∧ swL ((told.getD k []).headD []) ∈ told.getD i [] := by
  have gk : told.getD k [] = told[k] := by rw [List.getD_eq_getElem?_getD, List.getElem?_eq_getElem hk]; rfl
  have ok := p.ok told[k] (List.getElem_mem hk)
  have hh : OkT n 2 ((told.getD k []).headD []) := by
    rw [gk]
    generalize told[k] = D at ok
    cases D with
    | nil => exact absurd rfl ok.1
    | cons u D' => exact ok.2 u (List.mem_cons_self ..)
  obtain ⟨i, hi, hm, e⟩ := p.one n7 (swL_ok hh)
  exact ⟨i, hi, e, hm⟩
end
def spMirror (K : PySem.W.Frag) : Sp := fun vs H Q _ => ∃ (a : Addr) (n k : Nat) (gs : List (List Int)), vs = [.ref a, .int k] ∧ GrpAt H a n gs ∧ (∀ g ∈ gs, IsPm n g) ∧ 1 ≤ n ∧ n ≤ 7 ∧ gs.length ≤ 12 ∧ TabG H (PP K) ∧ k < (poF n gs).length ∧ ∀ (H' : Hp) (i : Nat), Ex H H' → mirs (poF n gs) k = [i] → Q (.int i) H'
/-- how many rows are their own mirrors -/
noncomputable def selfs (n : Nat) (gs : List (List Int)) : Nat := ((List.range (poF n gs).length).filter fun k => decide (mirs (poF n gs) k = [k])).length
def spSelfPaired (K : PySem.W.Frag) : Sp := fun vs H Q _ => ∃ (a : Addr) (n : Nat) (gs : List (List Int)), vs = [.ref a] ∧ GrpAt H a n gs ∧ (∀ g ∈ gs, IsPm n g) ∧ 1 ≤ n ∧ n ≤ 7 ∧ gs.length ≤ 12 ∧ TabG H (PP K) ∧ ∀ H' : Hp, Ex H H' → Q (.int (selfs n gs : Nat)) H'
theorem sumLK {X : Cx} {K : PySem.W.Frag} (e : X.K = K) (hc : X.calm = true := by rfl) : CallR X (.builtin "sum") (rSum K) := by
  subst e
  exact cr_sum hc
theorem filt_range (p : List (List Int) → Bool) (L : List (List (List Int))) : (L.filter p).length = ((List.range L.length).filter fun k => p (L.getD k [])).length := by
  have e : L = (List.range L.length).map fun k => L.getD k [] := by
    refine List.ext_getElem? fun j => ?_
    rw [List.getElem?_map]
    by_cases h : j < L.length
    · rw [List.getElem?_range h, List.getElem?_eq_getElem h]
      show some L[j] = some (L.getD j [])
      rw [List.getD_eq_getElem?_getD, List.getElem?_eq_getElem h]
      rfl
    · rw [List.getElem?_eq_none (by omega), List.getElem?_eq_none (by rw [List.length_range]; omega)]
      rfl
  conv => lhs; rw [e]
  rw [List.filter_map, List.length_map]
  rfl
theorem PairO.selfs {n : Nat} {gs : List (List Int)} {told : List (List (List Int))} (p : PairO n gs told) (n7 : n ≤ 7) : ((List.range told.length).filter fun k => decide (KL.mirs told k = [k])).length = (told.filter fun D => decide (swL (D.headD []) ∈ D)).length := by
  rw [filt_range]
  congr 1
  refine List.filter_congr fun k hk => ?_
  have hk := List.mem_range.mp hk
  obtain ⟨i, hi, e, hm⟩ := p.mirs n7 hk
  rw [Bool.eq_iff_iff, decide_eq_true_iff, decide_eq_true_iff, e]
  constructor
  · intro h
    have h := (List.cons.inj h).1
    subst h
    exact hm
  · intro h
    have h2 : k ∈ KL.mirs told k := List.mem_filter.mpr ⟨List.mem_range.mpr hk, decide_eq_true h⟩
    rw [e] at h2
    rw [List.mem_singleton.mp h2]
/-- the law's last equation -/
theorem PairO.squares {n : Nat} {gs C R : List (List Int)} {told : List (List (List Int))} (p : PairO n gs told) (n7 : n ≤ 7) (c : Clos n gs C) (pm : ∀ g ∈ gs, IsPm n g) (pR : R.Perm C) :
    (R.map fun g => fixC (mulL g g)).sum = ((List.range told.length).filter fun k => decide (KL.mirs told k = [k])).length * R.length := by
  rw [perm_sum (pR.map fun g => fixC (mulL g g)), p.selfs n7, pR.length_eq]
  exact squares_sum c pm (fun D hD => let ⟨_, u, L, o, q⟩ := p.each D hD; o.orbit c pm q) p.cover
end KL
/-! sorted(t), t a tuple of tuples of ints -/
namespace KL
open PySem PySem.Spec PyProof.Rows L2 GA GxR
theorem sorted_tupsT {prog : Program} {w : World} {A : Around} {E : Value → Shared → Prop} {s : Shared} {t : Addr} {vs : List Value} {d : Nat} {B : Int} {k : Value → List Int} {Q : Value → Shared → Prop} (hd1 : 1 ≤ d) (ht : s.heap.IsTuple t vs.toArray) (hz : vs.length ≤ sizeLine) (x : TS.TupsOk s.heap d B vs) (hk : ∀ v ∈ vs, ∀ ns, TS.TupInts s.heap v ns → k v = ns)
    (h : ∀ (h1 h' : Heap) (out : List Value), SrtO.Srtd (fun v u => HT.lexLt (k v) (k u)) out → SrtO.Stb (fun v u => HT.lexLt (k v) (k u)) out vs → (∀ b o, s.heap.get? b = some o → h1.get? b = some o) → (∀ b o, h1.get? b = some o → h'.get? b = some o) → (∃ n, h'.get? h1.objs.size = some (seqObj "list" out.toArray n)) → Q (.ref h1.objs.size) { s with heap := h' }) :
    wpAny (model prog w) A (call (.builtin "sorted") [.ref t]) Q E s := by
  refine Calls.call_function_entry kind_sorted plain_sorted entry_sorted (args_sorted1 _) ?_
  unfold Builtin.«sorted»
  refine wpAny_bind (m := checkCount "sorted" 1 1 _) (wpAny_pure ?_)
  obtain ⟨o, ho, hc, n, hd⟩ := ht
  refine wpAny_bind (wpAny_collect_seq t (.inr rfl) ho hc hd (fun h1 hkp => ?_) (by rw [List.size_toArray]; exact hz))
  have e0 : vs.toArray.toList = vs := by simp
  rw [e0]
  refine wpAny_bind (wpAny_newList ?_ hz)
  have hoL : (h1.push (seqObj "list" vs.toArray 0)).get? h1.objs.size = some (seqObj "list" vs.toArray 0) := Heap.get?_push_size _ rfl
  have up : ∀ b o, s.heap.get? b = some o → (h1.push (seqObj "list" vs.toArray 0)).get? b = some o := fun b o e => Heap.get?_push_of_some _ (hkp b o e)
  refine wpAny_bind (wpAny_holding (wpAny_call_entry slot_list_sort ⟨_, hoL, rfl⟩ entry_list_sort (SrtO.list_sort_ord (NtL.swo_lexL k) hoL hz (fun h2 => ?_) fun out hs hb => ⟨_, rfl, ?_⟩) (args_list_sort _)))
  · refine tups_sortableO (d := d) (B := B) (s := { s with heap := h1.push (seqObj "list" vs.toArray 0) }) hd1 (by omega) (x.keeps fun b o e _ => up b o e) (fun v hv ns t => ?_) fun o e => ?_
    · obtain ⟨ns0, t0, _⟩ := x v hv
      have e : ns = ns0 := t.ints.symm.trans (t0.keeps fun b o e _ => up b o e).ints
      rw [e]
      exact hk v hv ns0 t0
    · have e' : some o = some (seqObj "list" vs.toArray 0) := e.symm.trans hoL
      cases e'
      intro c
      exact absurd (Value.type.inj c) (by decide)
  · obtain ⟨e, he⟩ := sortedHeap_at (vs := vs) (out := out.toArray) hoL
    refine wpAny_pure ⟨_, rfl, h h1 _ out hs hb hkp (fun b u q1 => ?_) ⟨e, he⟩⟩
    have hlt : b < h1.objs.size := Heap.lt_size q1
    have hlt2 : b < (h1.push (seqObj "list" vs.toArray 0)).objs.size := by rw [Heap.size_push]; exact Nat.lt_succ_of_lt hlt
    rw [sortedHeap_old (Nat.ne_of_lt hlt) hlt2]
    exact Heap.get?_push_of_some _ q1
def rSortedTT (K : PySem.W.Frag) : List V → Hp → VK → Prop := fun vs H Q => ∃ (a : Addr) (xs : List V) (k : V → List Int) (d : Nat), vs = [V.ref a] ∧ SqT K H a xs ∧ 1 ≤ d ∧ (∀ x ∈ xs, ∃ t, x = V.ref t ∧ H t = some (.tup ((k x).map V.int)) ∧ (k x).length = d ∧ ∀ y ∈ k x, 0 ≤ y ∧ y < 64) ∧
  ∀ ys p, SrtO.Srtd (ltL k) ys → ys.Perm xs → H p = none → Q (.ref p) (upd H p (.lst ys))
theorem cr_sortedTT {X : Cx} : CallR X (.builtin "sorted") (rSortedTT X.K) := by
  intro pins s σ H vs us Q I r h
  obtain ⟨a, xs, k, d, rfl, hs, hd, hx, q⟩ := h
  obtain ⟨its, rv, hl, hz⟩ := I.tuple hs
  obtain ⟨u, rfl, ru⟩ := vals1 r
  obtain rfl : u = Value.ref a := ru
  obtain ⟨e1, e2⟩ := refs_back rv fun x m => by
    obtain ⟨t, e, _⟩ := hx x m
    exact ⟨t, e⟩
  have tups : ∀ v ∈ its, TS.TupInts s.heap v (k (backV v)) ∧ (k (backV v)).length = d ∧ TS.Bd 64 (k (backV v)) := fun v hv => by
    obtain ⟨t, rfl⟩ := e2 v hv
    have hm : V.ref t ∈ xs := by rw [e1]; exact List.mem_map.mpr ⟨_, hv, rfl⟩
    obtain ⟨t', e, ht, hl, hb⟩ := hx _ hm
    cases e
    obtain ⟨_, its2, r2, o, ho, hc, n, hdt⟩ := I.hok _ _ ht
    exact ⟨⟨t, its2.toArray, rfl, ⟨o, ho, hc, n, hdt⟩, by rw [List.toList_toArray]; exact ints_of_vals r2⟩, hl, hb⟩
  refine sorted_tupsT (d := d) (B := 64) (k := fun u => k (backV u)) hd (show s.heap.IsTuple a its.toArray from hl) (by rw [← rv.length]; exact hz) (fun v hv => ⟨_, tups v hv⟩) (fun v hv ns t => (tups v hv).1.ints.symm.trans t.ints) fun h1 h' out o1 o2 hk hk' hn => ?_
  have h3 : ∀ u ∈ out, ∃ a, u = Value.ref a := fun u hu => e2 u (o2.perm.mem_iff.mp hu)
  obtain ⟨n, hn⟩ := hn
  have hb : (out.map backV).Perm xs := by
    rw [e1]
    exact o2.perm.map backV
  have I1 : Inv X pins σ H { s with heap := h1 } := I.kept (t' := s.toks) hk
  refine ⟨.ref _, upd H h1.objs.size (.lst (out.map backV)), I1.laid (t' := s.toks) hk' (Nat.le_refl _) ⟨?_, out, n, vals_back h3, hn⟩, rfl, q _ _ (SrtO.srtd_map o1) hb (I1.hok.fresh (Nat.le_refl _))⟩
  rw [hb.length_eq]
  exact hz
theorem srtTT {X : Cx} {K : PySem.W.Frag} (e : X.K = K) : CallR X (.builtin "sorted") (rSortedTT K) := by
  subst e
  exact cr_sortedTT
end KL
/-! a row of pairs and its mirror -/
namespace KL
open PySem PySem.Spec PyProof.Rows L2 GA GxR
theorem swL_swL {n : Nat} {v : List Int} (h : OkT n 2 v) : swL (swL v) = v := by
  match v, h.1 with
  | [x, y], _ => rfl
theorem TldP.okP {n : Nat} {gs D : List (List Int)} (d : TldP n gs D) : ∀ v ∈ D, OkT n 2 v := fun v hv => by
  obtain ⟨_, u, L, o, p⟩ := d
  exact o.pm v (p.mem_iff.mp hv)
theorem TldP.turn {n : Nat} {gs D E : List (List Int)} {h : List Int} (pm : ∀ g ∈ gs, IsPm n g) (d : TldP n gs D) (e : TldP n gs E) (hd : h ∈ D) (he : swL h ∈ E) : ∀ v ∈ D, swL v ∈ E := fun v hv => by
  have okE := e.okP
  obtain ⟨_, u, L, o, p⟩ := d
  obtain ⟨_, u2, L2, o2, p2⟩ := e
  have nd : E.Nodup := p2.nodup_iff.mpr o2.nd
  have hu : swL u ∈ E := by
    refine o.lst (fun t => swL t ∈ E → swL u ∈ E) (fun h => h) (fun c hc ih g hg h => ?_) h (p.mem_iff.mp hd) he
    obtain ⟨x, hx, ex⟩ := inj_onto (fun x => mulL x g) nd (fun x hx => p2.mem_iff.mpr (o2.cl x (p2.mem_iff.mp hx) g hg)) (fun x hx y hy e => act_inj (okE x hx) (okE y hy) (pm g hg) e) h
    rw [swL_act hc] at ex
    have e3 : x = swL c := act_inj (okE x hx) (swL_ok hc) (pm g hg) ex
    exact ih (e3 ▸ hx)
  refine o.lst (fun t => swL t ∈ E) hu (fun c hc ih g hg => ?_) v (p.mem_iff.mp hv)
  show swL (mulL c g) ∈ E
  rw [swL_act hc]
  exact p2.mem_iff.mpr (o2.cl _ (p2.mem_iff.mp ih) g hg)
theorem TldP.mirror {n : Nat} {gs D E A B : List (List Int)} {h : List Int} (pm : ∀ g ∈ gs, IsPm n g) (d : TldP n gs D) (e : TldP n gs E) (hd : h ∈ D) (he : swL h ∈ E)
    (pA : A.Perm (D.map swL)) (sA : A.Pairwise (fun a b => HT.lexLt b a = false)) (pB : B.Perm E) (sB : B.Pairwise (fun a b => HT.lexLt b a = false)) : A = B := by
  have okD := d.okP
  have okE := e.okP
  have t1 := d.turn pm e hd he
  have t2 := e.turn pm d he (by rw [swL_swL (okD _ hd)]; exact hd)
  have ndD : D.Nodup := by obtain ⟨_, _, _, o, p⟩ := d; exact p.nodup_iff.mpr o.nd
  have ndE : E.Nodup := by obtain ⟨_, _, _, o, p⟩ := e; exact p.nodup_iff.mpr o.nd
  have ndM : (D.map swL).Nodup := by
    rw [List.Nodup, List.pairwise_map]
    refine List.Pairwise.imp_of_mem (fun {a b} ha hb ne q => ne ?_) ndD
    rw [← swL_swL (okD a ha), q, swL_swL (okD b hb)]
  have memM : ∀ v, v ∈ A ↔ v ∈ B := fun v => by
    rw [pA.mem_iff, pB.mem_iff, List.mem_map]
    constructor
    · rintro ⟨t, ht, rfl⟩
      exact t1 t ht
    · intro hv
      exact ⟨swL v, t2 v hv, swL_swL (okE v hv)⟩
  refine sorted_one (pA.nodup_iff.mpr ndM) (pB.nodup_iff.mpr ndE) sA sB memM fun x hx y hy => ?_
  rw [(okE x (pB.mem_iff.mp ((memM x).mp hx))).1, (okE y (pB.mem_iff.mp ((memM y).mp hy))).1]
/-- two lists of the same rows differ nowhere -/
theorem ne_rows {K : PySem.W.Frag} {H : Hp} {a b : Addr} {As Bs : List Addr} {R S : List (List Int)} {Q : VK} (ha : H a = some (.lst (As.map V.ref))) (hb : H b = some (.lst (Bs.map V.ref))) (hR : RowsAt H As R) (hS : RowsAt H Bs S) (e : R = S) (q : Q (.bl false) H) : rNeD K (.ref a) (.ref b) H Q := by
  subst e
  exact ⟨.list (R.map rowD), .list (R.map rowD), .lst (sl_at ha) (dpAll_rows hR), .lst (sl_at hb) (dpAll_rows hS), shaped_rows R, shaped_rows R, by rw [SeqAt.eqv_refl _ (SeqAt.canLay_of_shaped (shaped_rows R))]; exact q⟩
end KL
/-! min of a list of tuples of ints -/
namespace KL
open PySem PySem.Spec PyProof.Rows L2 GA GxR
theorem toks_ints (x : Int) (r : List Int) : PySem.W.keyToksAll ((x :: r).map PyData.int) = .inl 1 :: .inl x :: PySem.W.keyToksAll (r.map PyData.int) := rfl
theorem lexAll_ints : ∀ r t : List Int, PyProof.Rows.lexLt itemOrd (PySem.W.keyToksAll (r.map PyData.int)) (PySem.W.keyToksAll (t.map PyData.int)) = HT.lexLt r t
  | [], [] => rfl
  | [], y :: t => rfl
  | x :: r, [] => rfl
  | x :: r, y :: t => by
    rw [toks_ints, toks_ints, HT.lexLt_cons, PyProof.Rows.lex_self]
    by_cases e : x = y
    · subst e
      rw [PyProof.Rows.lex_self, if_pos rfl]
      exact lexAll_ints r t
    · rw [if_neg e, PyProof.Rows.lex_diff (O := itemOrd) (fun h => e (Sum.inl.inj h))]
      rfl
theorem dataLt_rows (r t : List Int) : PySem.W.dataLt (rowD r) (rowD t) = HT.lexLt r t := lexAll_ints r t
def minR (r : List Int) (R : List (List Int)) : List Int := R.foldl (fun a y => if HT.lexLt y a = true then y else a) r
theorem minD_rows : ∀ (R : List (List Int)) (r : List Int), PySem.W.minD (rowD r) (R.map rowD) = rowD (minR r R)
  | [], r => rfl
  | y :: R, r => by
    have ih := minD_rows R
    unfold PySem.W.minD minR at ih ⊢
    rw [List.map_cons, List.foldl_cons, List.foldl_cons, dataLt_rows]
    by_cases h : HT.lexLt y r = true
    · rw [if_pos h, if_pos h]; exact ih y
    · rw [if_neg h, if_neg h]; exact ih r
theorem minR_ok : ∀ (R : List (List Int)) (r : List Int), minR r R ∈ r :: R ∧ ∀ y ∈ r :: R, HT.lexLt y (minR r R) = false
  | [], r => ⟨List.mem_cons_self .., fun y hy => by
    rw [List.mem_singleton.mp hy]
    exact (NtL.swo_lexL fun x : List Int => x).refl r⟩
  | z :: R, r => by
    have O := NtL.swo_lexL fun x : List Int => x
    show minR (if HT.lexLt z r = true then z else r) R ∈ _ ∧ ∀ y ∈ _, HT.lexLt y (minR (if HT.lexLt z r = true then z else r) R) = false
    by_cases h : HT.lexLt z r = true
    · rw [if_pos h]
      obtain ⟨a, b⟩ := minR_ok R z
      refine ⟨List.mem_cons_of_mem _ a, fun y hy => ?_⟩
      rcases List.mem_cons.mp hy with e | hy
      · rw [e]
        exact O.tr _ _ _ (b z (List.mem_cons_self ..)) (O.asym _ _ h)
      · exact b y hy
    · rw [if_neg h]
      obtain ⟨a, b⟩ := minR_ok R r
      have h : HT.lexLt z r = false := by cases e : HT.lexLt z r with | true => exact absurd e h | false => rfl
      refine ⟨?_, fun y hy => ?_⟩
      · rcases List.mem_cons.mp a with e | a
        · rw [e]; exact List.mem_cons_self ..
        · exact List.mem_cons_of_mem _ (List.mem_cons_of_mem _ a)
      · rcases List.mem_cons.mp hy with e | hy
        · rw [e]; exact b r (List.mem_cons_self ..)
        · rcases List.mem_cons.mp hy with e | hy
          · rw [e]
            exact O.tr _ _ _ (b r (List.mem_cons_self ..)) h
          · exact b y (List.mem_cons_of_mem _ hy)
theorem alike_ints : ∀ r t : List Int, PySem.W.alikeAll (r.map PyData.int) (t.map PyData.int) = true
  | [], t => by unfold PySem.W.alikeAll; rfl
  | x :: r, [] => by unfold PySem.W.alikeAll; rfl
  | x :: r, y :: t => by
    show (PySem.W.alike (.int x) (.int y) && PySem.W.alikeAll (r.map PyData.int) (t.map PyData.int)) = true
    rw [alike_ints r t]
    rfl
theorem alike_rows (R : List (List Int)) : PySem.W.AlikeAll (R.map rowD) := by
  refine ⟨fun x hx y hy => ?_, fun x hx => ?_⟩
  · obtain ⟨r, _, rfl⟩ := List.mem_map.mp hx
    obtain ⟨t, _, rfl⟩ := List.mem_map.mp hy
    exact alike_ints r t
  · obtain ⟨r, _, rfl⟩ := List.mem_map.mp hx
    intro e
    cases e
theorem rowD_inj {r t : List Int} (e : rowD r = rowD t) : r = t := by
  have h := row_eqv r t
  rw [e, SeqAt.eqv_refl (rowD t) (SeqAt.canLay_of_shaped (shapedT_ints t))] at h
  exact of_decide_eq_true h.symm
/-- min(l), l a list of tuples of ints -/
def rMinTT (K : PySem.W.Frag) : List V → Hp → VK → Prop := fun vs H Q => ∃ (a : Addr) (As : List Addr) (R : List (List Int)), vs = [V.ref a] ∧ SqL K H a (As.map V.ref) ∧ RowsAt H As R ∧ R ≠ [] ∧
  ∀ (b : Addr) (m : List Int) (i : Nat), As[i]? = some b → R[i]? = some m → H b = some (.tup (m.map V.int)) → (∀ y ∈ R, HT.lexLt y m = false) → Q (.ref b) H
theorem cr_minTT {X : Cx} (hu : X.A.units + 65 < cLine) (hc : X.calm = true := by rfl) : CallR X (.builtin "min") (rMinTT X.K) := by
  intro pins s σ H vs us Q I r h
  obtain ⟨a, As, R, rfl, hs, hR, ne, q⟩ := h
  obtain ⟨its, rv, hl, hz⟩ := I.list hs
  rw [Vals.ref1 r]
  obtain ⟨as, rd⟩ := Dp.readsAll I _ _ _ (dpAll_rows hR) rv
  obtain ⟨r0, R', rfl⟩ := List.exists_cons_of_ne_nil ne
  have dep := depth_rows (r0 :: R')
  refine PySem.W.min_list_data (I.ok.hd hc) hl.isList (by simpa using rd) (alike_rows (r0 :: R')) (by show X.A.units + 1 + PyData.depthAll ((r0 :: R').map rowD) < cLine; omega) fun i v h' tk bs hv rr kp => ?_
  rw [minD_rows] at rr
  obtain ⟨m1, m2⟩ := minR_ok R' r0
  generalize minR r0 R' = m at rr m1 m2
  have lA := hR.len
  have hi : i < its.length := by
    have := (Array.getElem?_eq_some_iff.mp hv).1
    simpa using this
  have hi2 : i < As.length := by have := rv.length; rw [List.length_map] at this; omega
  have hR1 : (r0 :: R')[i]? = some (r0 :: R')[i] := List.getElem?_eq_getElem (by omega)
  obtain ⟨b, hb, hb2⟩ := hR.at_ i _ hR1
  have ev : v = Value.ref b := by
    have hv2 : its[i]? = some v := by rw [← hv]; simp
    obtain ⟨u, e1, e2⟩ := rv.get (i := i) (x := .ref b) (by rw [List.getElem?_map, hb]; rfl)
    rw [hv2] at e1
    cases e1
    exact e2
  subst ev
  obtain ⟨as2, r2⟩ := Dp.reads I (rowD (r0 :: R')[i]) (.ref b) (.ref b) (dpT_ints hb2) rfl
  have e := SeqAt.Reads.unique _ _ _ _ _ (SeqAt.canLay_of_shaped (shapedT_ints (r0 :: R')[i])) (PySem.W.reads_keeps kp r2) rr
  have e := rowD_inj e
  rw [e] at hR1 hb2
  exact ⟨.ref b, H, I.kept kp, rfl, q b m i hb hR1 hb2 m2⟩
theorem minTT {X : Cx} {K : PySem.W.Frag} (e : X.K = K) {k : Nat} (hr : Room k X.A) (hc : X.calm = true := by rfl) : CallR X (.builtin "min") (rMinTT K) := by
  subst e
  exact cr_minTT (by have := hr.un; omega) hc
end KL
/-! towers of stabilizers, the mathematics: words, floors, products of carriers -/
namespace KL
open PySem PySem.Spec PyProof.Rows L2 GA GxR
/-! ### images -/
def imN (p : List Int) (x : Nat) : Nat := (p.getD x 0).toNat
section
variable {n : Nat} {p q : List Int} {x : Nat}
theorem imN_at (hp : IsPm n p) (hx : x < n) : p[x]? = some (imN p x : Int) ∧ imN p x < n := by
  obtain ⟨y, e, y0, y1⟩ := hp.get hx
  unfold imN
  rw [getD_of e, e]
  exact ⟨by rw [Int.toNat_of_nonneg y0], by omega⟩
theorem imN_lt (hp : IsPm n p) (hx : x < n) : imN p x < n := (imN_at hp hx).2
theorem imN_mul (hp : IsPm n p) (hq : IsPm n q) (hx : x < n) : imN (mulL p q) x = imN q (imN p x) := by
  obtain ⟨e1, l1⟩ := imN_at hp hx
  obtain ⟨e2, l2⟩ := imN_at hq l1
  have h := mulL_at e1 (show q[(imN p x : Int).toNat]? = some (imN q (imN p x) : Int) from e2)
  show ((mulL p q).getD x 0).toNat = _
  rw [getD_of h]
  rfl
theorem imN_unit (hx : x < n) : imN (unitL n) x = x := by
  unfold imN
  rw [getD_of (unitL_get hx)]
  rfl
theorem imN_ext (hp : IsPm n p) (hq : IsPm n q) (h : ∀ x, x < n → imN p x = imN q x) : p = q :=
  pm_ext hp.len hq.len fun j hj => by rw [(imN_at hp hj).1, (imN_at hq hj).1, h j hj]
theorem imN_inj (hp : IsPm n p) {y : Nat} (hx : x < n) (hy : y < n) (e : imN p x = imN p y) : x = y :=
  hp.inj (imN_at hp hx).1 (by rw [(imN_at hp hy).1, e])
theorem imN_inv (hp : IsPm n p) (hx : x < n) : imN (invL p) (imN p x) = x := by
  rw [← imN_mul hp (invL_pm hp) hx, mul_inv hp, imN_unit hx]
theorem invL_unit : invL (unitL n) = unitL n := by
  have pu : IsPm n (unitL n) := unit_pm n
  have h := mul_inv pu
  rw [unit_mulL (invL_pm pu)] at h
  exact h
theorem inv_mulLL (hp : IsPm n p) (hq : IsPm n q) : invL (mulL p q) = mulL (invL q) (invL p) := by
  have pq := mulL_pm hp hq
  have h : mulL (mulL p q) (mulL (invL q) (invL p)) = unitL n := by
    rw [mulL_assoc hp hq (mulL_pm (invL_pm hq) (invL_pm hp)), ← mulL_assoc hq (invL_pm hq) (invL_pm hp), mul_inv hq, unit_mulL (invL_pm hp), mul_inv hp]
  have k : mulL (invL (mulL p q)) (mulL (mulL p q) (mulL (invL q) (invL p))) = invL (mulL p q) := by rw [h, mulL_unit (invL_pm pq)]
  rw [← mulL_assoc (invL_pm pq) pq (mulL_pm (invL_pm hq) (invL_pm hp)), inv_mulL pq, unit_mulL (mulL_pm (invL_pm hq) (invL_pm hp))] at k
  exact k.symm
end
/-! ### words -/
/-- what generators and their inverses make -/
inductive Wd (n : Nat) (gs : List (List Int)) : List Int → Prop
  | one : Wd n gs (unitL n)
  | step {p g : List Int} : Wd n gs p → g ∈ gs → Wd n gs (mulL p g)
  | back {p g : List Int} : Wd n gs p → g ∈ gs → Wd n gs (mulL p (invL g))
section
variable {n : Nat} {gs hs : List (List Int)} {p q : List Int}
theorem Wd.pm (pm : ∀ g ∈ gs, IsPm n g) (h : Wd n gs p) : IsPm n p := by
  induction h with
  | one => exact unit_pm n
  | step _ hg ih => exact mulL_pm ih (pm _ hg)
  | back _ hg ih => exact mulL_pm ih (invL_pm (pm _ hg))
theorem Wd.mul (pm : ∀ g ∈ gs, IsPm n g) (h : Wd n gs p) (k : Wd n gs q) : Wd n gs (mulL p q) := by
  have pp := h.pm pm
  induction k with
  | one => rw [mulL_unit pp]; exact h
  | step k hg ih => rw [← mulL_assoc pp (k.pm pm) (pm _ hg)]; exact ih.step hg
  | back k hg ih => rw [← mulL_assoc pp (k.pm pm) (invL_pm (pm _ hg))]; exact ih.back hg
theorem Wd.of (pm : ∀ g ∈ gs, IsPm n g) (h : p ∈ gs) : Wd n gs p := by
  have k := Wd.one.step (n := n) h
  rw [unit_mulL (pm _ h)] at k
  exact k
theorem Wd.ofInv (pm : ∀ g ∈ gs, IsPm n g) (h : p ∈ gs) : Wd n gs (invL p) := by
  have k := Wd.one.back (n := n) h
  rw [unit_mulL (invL_pm (pm _ h))] at k
  exact k
theorem Wd.inv (pm : ∀ g ∈ gs, IsPm n g) (h : Wd n gs p) : Wd n gs (invL p) := by
  induction h with
  | one => rw [invL_unit]; exact .one
  | step h hg ih => rw [inv_mulLL (h.pm pm) (pm _ hg)]; exact (Wd.ofInv pm hg).mul pm ih
  | back h hg ih =>
    rw [inv_mulLL (h.pm pm) (invL_pm (pm _ hg)), invL_invL (pm _ hg)]
    exact (Wd.of pm hg).mul pm ih
theorem Wd.sub (pm : ∀ g ∈ gs, IsPm n g) (s : ∀ h ∈ hs, Wd n gs h) (h : Wd n hs p) : Wd n gs p := by
  induction h with
  | one => exact .one
  | step _ hg ih => exact ih.mul pm (s _ hg)
  | back _ hg ih => exact ih.mul pm ((s _ hg).inv pm)
theorem Wd.nil (h : Wd n [] p) : p = unitL n := by
  induction h with
  | one => rfl
  | step _ hg => cases hg
  | back _ hg => cases hg
theorem Wd.fix {b : Nat} (hb : b < n) (pm : ∀ g ∈ gs, IsPm n g) (s : ∀ g ∈ gs, imN g b = b) (h : Wd n gs p) : imN p b = b := by
  induction h with
  | one => exact imN_unit hb
  | step h hg ih => rw [imN_mul (h.pm pm) (pm _ hg) hb, ih, s _ hg]
  | back h hg ih =>
    rw [imN_mul (h.pm pm) (invL_pm (pm _ hg)) hb, ih]
    have := imN_inv (pm _ hg) hb
    rw [s _ hg] at this
    exact this
theorem Clos.wd {C : List (List Int)} (c : Clos n gs C) (pm : ∀ g ∈ gs, IsPm n g) : p ∈ C ↔ Wd n gs p := by
  constructor
  · intro h
    exact c.lst (fun p => Wd n gs p) .one (fun c _ ih g hg => ih.step hg) p h
  · intro h
    induction h with
    | one => exact c.one
    | step _ hg ih => exact c.cl _ ih _ hg
    | back _ hg ih =>
      refine c.mul pm ih (c.inv pm ?_)
      have k := c.cl _ c.one _ hg
      rw [unit_mulL (pm _ hg)] at k
      exact k
end
/-! ### floors -/
/-- a floor: its point, generators, carriers by the images, the pairs that wait -/
structure Flr where
  pt : Nat
  gens : List (List Int)
  fo : List (Nat × List Int)
  pend : List (Nat × List Int)
def upG : List Flr → List (List Int)
  | [] => []
  | f :: _ => f.gens
/-- all products of carriers -/
def TL (n : Nat) : List Flr → List (List Int)
  | [] => [unitL n]
  | f :: fs => (TL n fs).flatMap fun t => f.fo.map fun c => mulL t c.2
def fixes (bs : List Nat) (p : List Int) : Prop := ∀ b ∈ bs, imN p b = b
structure FInv (n : Nat) (bs : List Nat) (f : Flr) (up : List (List Int)) : Prop where
  pt : f.pt < n
  gens : ∀ g ∈ f.gens, IsPm n g ∧ fixes bs g
  one : (f.pt, unitL n) ∈ f.fo
  keys : (f.fo.map Prod.fst).Nodup
  fo : ∀ c ∈ f.fo, c.1 < n ∧ IsPm n c.2 ∧ imN c.2 f.pt = c.1 ∧ Wd n f.gens c.2
  pend : ∀ c ∈ f.pend, c.1 ∈ f.fo.map Prod.fst ∧ c.2 ∈ f.gens
  upw : ∀ g ∈ up, Wd n f.gens g
  done : ∀ c ∈ f.fo, ∀ g ∈ f.gens, (c.1, g) ∈ f.pend ∨ ∃ d ∈ f.fo, imN g c.1 = d.1 ∧ Wd n up (mulL (mulL c.2 g) (invL d.2))
def TInv (n : Nat) : List Nat → List Flr → Prop
  | _, [] => True
  | bs, f :: fs => FInv n bs f (upG fs) ∧ TInv n (bs ++ [f.pt]) fs
/-- the base points reach all -/
def Covers (n : Nat) (bs : List Nat) : Prop := ∀ x, x < n → x ∈ bs
section
variable {n : Nat} {bs : List Nat} {f : Flr} {fs : List Flr} {p t : List Int}
theorem FInv.pm {up : List (List Int)} (h : FInv n bs f up) : ∀ g ∈ f.gens, IsPm n g := fun g hg => (h.gens g hg).1
theorem mem_TL : p ∈ TL n (f :: fs) ↔ ∃ t ∈ TL n fs, ∃ c ∈ f.fo, p = mulL t c.2 := by
  show p ∈ (TL n fs).flatMap _ ↔ _
  rw [List.mem_flatMap]
  constructor
  · rintro ⟨t, ht, h⟩
    obtain ⟨c, hc, e⟩ := List.mem_map.mp h
    exact ⟨t, ht, c, hc, e.symm⟩
  · rintro ⟨t, ht, c, hc, e⟩
    exact ⟨t, ht, List.mem_map.mpr ⟨c, hc, e.symm⟩⟩
theorem TInv.upPm (h : TInv n bs fs) : ∀ g ∈ upG fs, IsPm n g ∧ fixes bs g := fun g hg => by
  cases fs with
  | nil => cases hg
  | cons f fs => exact h.1.gens g hg
/-- the products are words -/
theorem TL_wd : ∀ {fs : List Flr} {bs : List Nat}, TInv n bs fs → ∀ p ∈ TL n fs, Wd n (upG fs) p
  | [], _, _, p, hp => by rw [List.mem_singleton.mp hp]; exact .one
  | f :: fs, bs, h, p, hp => by
    obtain ⟨t, ht, c, hc, rfl⟩ := mem_TL.mp hp
    have w := TL_wd h.2 t ht
    exact (w.sub h.1.pm h.1.upw).mul h.1.pm (h.1.fo c hc).2.2.2
theorem TL_pm (h : TInv n bs fs) (hp : p ∈ TL n fs) : IsPm n p := (TL_wd h p hp).pm fun g hg => (h.upPm g hg).1
theorem TL_fix (h : TInv n bs fs) (hp : p ∈ TL n fs) (hb : ∀ b ∈ bs, b < n) : fixes bs p := fun b m =>
  (TL_wd h p hp).fix (hb b m) (fun g hg => (h.upPm g hg).1) fun g hg => (h.upPm g hg).2 b m
theorem bs_snoc (hb : ∀ b ∈ bs, b < n) (h : f.pt < n) : ∀ b ∈ bs ++ [f.pt], b < n := fun b m => by
  rcases List.mem_append.mp m with m | m
  · exact hb b m
  · rw [List.mem_singleton.mp m]; exact h
/-- which image a product has at the floor's point -/
theorem TL_im (h : TInv n bs (f :: fs)) (hb : ∀ b ∈ bs, b < n) {c : Nat × List Int} (ht : t ∈ TL n fs) (hc : c ∈ f.fo) : imN (mulL t c.2) f.pt = c.1 := by
  have b2 := bs_snoc hb h.1.pt
  rw [imN_mul (TL_pm h.2 ht) (h.1.fo c hc).2.1 h.1.pt, TL_fix h.2 ht b2 f.pt (List.mem_append_right _ (List.mem_singleton.mpr rfl)), (h.1.fo c hc).2.2.1]
theorem fo_one {up : List (List Int)} (h : FInv n bs f up) {c d : Nat × List Int} (hc : c ∈ f.fo) (hd : d ∈ f.fo) (e : c.1 = d.1) : c = d := by
  have k := h.keys
  generalize f.fo = l at hc hd k
  induction l with
  | nil => cases hc
  | cons a l ih =>
    obtain ⟨k1, k2⟩ := List.nodup_cons.mp k
    rcases List.mem_cons.mp hc with ec | hc
    · rcases List.mem_cons.mp hd with ed | hd
      · rw [ec, ed]
      · exact absurd (List.mem_map.mpr ⟨d, hd, by rw [← e, ec]⟩) k1
    · rcases List.mem_cons.mp hd with ed | hd
      · exact absurd (List.mem_map.mpr ⟨c, hc, by rw [e, ed]⟩) k1
      · exact ih hc hd k2
theorem TL_nd : ∀ {fs : List Flr} {bs : List Nat}, TInv n bs fs → (∀ b ∈ bs, b < n) → (TL n fs).Nodup
  | [], _, _, _ => by show [unitL n].Nodup; exact List.nodup_cons.mpr ⟨(by intro h; cases h), List.nodup_nil⟩
  | f :: fs, bs, h, hb => by
    have ih := TL_nd h.2 (bs_snoc hb h.1.pt)
    show ((TL n fs).flatMap fun t => f.fo.map fun c => mulL t c.2).Nodup
    refine List.pairwise_flatMap.mpr ⟨fun t ht => ?_, ?_⟩
    · have kd : f.fo.Pairwise (fun c d => c.1 ≠ d.1) := List.pairwise_map.mp h.1.keys
      refine List.pairwise_map.mpr (List.Pairwise.imp_of_mem (fun {c d} hc hd ne e => ne ?_) kd)
      have e := congrArg (fun p => imN p f.pt) e
      have e : imN (mulL t c.2) f.pt = imN (mulL t d.2) f.pt := e
      rw [TL_im h hb ht hc, TL_im h hb ht hd] at e
      exact e
    · refine List.Pairwise.imp_of_mem (fun {t s} ht hs ne p hp q hq e => ne ?_) ih
      obtain ⟨c, hc, rfl⟩ := List.mem_map.mp hp
      obtain ⟨d, hd, rfl⟩ := List.mem_map.mp hq
      have e2 := congrArg (fun p => imN p f.pt) e
      have e2 : imN (mulL t c.2) f.pt = imN (mulL s d.2) f.pt := e2
      rw [TL_im h hb ht hc, TL_im h hb hs hd] at e2
      have ecd := fo_one h.1 hc hd e2
      subst ecd
      exact mul_right_inj (TL_pm h.2 ht) (TL_pm h.2 hs) (h.1.fo c hc).2.1 e
theorem TL_len : ∀ fs : List Flr, (TL n fs).length = (fs.map fun f => f.fo.length).foldr (· * ·) 1
  | [] => rfl
  | f :: fs => by
    show ((TL n fs).flatMap fun t => f.fo.map fun c => mulL t c.2).length = f.fo.length * (fs.map fun f => f.fo.length).foldr (· * ·) 1
    rw [← TL_len fs, List.length_flatMap]
    generalize TL n fs = l
    induction l with
    | nil => rfl
    | cons a l ih => rw [List.map_cons, List.sum_cons, ih, List.length_map, List.length_cons, Nat.mul_succ, Nat.add_comm]
def Still (fs : List Flr) : Prop := ∀ f ∈ fs, f.pend = []
theorem unit_TL : ∀ {fs : List Flr} {bs : List Nat}, TInv n bs fs → unitL n ∈ TL n fs
  | [], _, _ => List.mem_singleton.mpr rfl
  | f :: fs, bs, h => mem_TL.mpr ⟨unitL n, unit_TL h.2, _, h.1.one, (unit_mulL (n := n) (p := unitL n) (unit_pm n)).symm⟩
/-- where nothing waits, the products are all that the generators make -/
theorem still_ok : ∀ {fs : List Flr} {bs : List Nat}, TInv n bs fs → (∀ b ∈ bs, b < n) → Still fs → ∀ p, p ∈ TL n fs ↔ Wd n (upG fs) p
  | [], _, _, _, _, p => ⟨fun h => by rw [List.mem_singleton.mp h]; exact .one, fun h => by rw [h.nil]; exact List.mem_singleton.mpr rfl⟩
  | f :: fs, bs, h, hb, st, p => by
    have ih := still_ok h.2 (bs_snoc hb h.1.pt) fun g hg => st g (List.mem_cons_of_mem _ hg)
    have pmU : ∀ g ∈ upG fs, IsPm n g := fun g hg => (h.2.upPm g hg).1
    have pend0 : f.pend = [] := st f (List.mem_cons_self ..)
    refine ⟨TL_wd h p, fun w => ?_⟩
    have step : ∀ t ∈ TL n (f :: fs), ∀ g ∈ f.gens, mulL t g ∈ TL n (f :: fs) := fun t ht g hg => by
      obtain ⟨s, hs, c, hc, rfl⟩ := mem_TL.mp ht
      obtain ⟨c1, c2, c3, c4⟩ := h.1.fo c hc
      rcases h.1.done c hc g hg with m | ⟨d, hd, e, w⟩
      · rw [pend0] at m; cases m
      · obtain ⟨d1, d2, d3, d4⟩ := h.1.fo d hd
        have pg := h.1.pm g hg
        have ps := TL_pm h.2 hs
        have pcg := mulL_pm c2 pg
        refine mem_TL.mpr ⟨mulL s (mulL (mulL c.2 g) (invL d.2)), (ih _).mpr (((ih s).mp hs).mul pmU w), d, hd, ?_⟩
        rw [mulL_assoc ps (mulL_pm pcg (invL_pm d2)) d2, mulL_assoc pcg (invL_pm d2) d2, inv_mulL d2, mulL_unit pcg, mulL_assoc ps c2 pg]
    have pmT : ∀ t ∈ TL n (f :: fs), IsPm n t := fun t ht => TL_pm h ht
    induction w with
    | one => exact unit_TL h
    | step _ hg ih2 => exact step _ ih2 _ hg
    | back w hg ih2 =>
      have pg := h.1.pm _ hg
      obtain ⟨s, hs, e⟩ := inj_onto (fun t => mulL t _) (TL_nd h hb) (fun t ht => step t ht _ hg) (fun x hx y hy e => mul_right_inj (pmT x hx) (pmT y hy) pg e) ih2
      have e : mulL s _ = _ := e
      rw [← e, mulL_assoc (pmT s hs) pg (invL_pm pg), mul_inv pg, mulL_unit (pmT s hs)]
      exact hs
end
end KL
/-! sifting, and what changes a tower -/
namespace KL
open PySem PySem.Spec PyProof.Rows L2 GA GxR
def look (f : Flr) (x : Nat) : Option (List Int) := f.fo.lookup x
def siftF : List Flr → List Int → List Int × Nat × List (List Int)
  | [], p => (p, 0, [])
  | f :: fs, p => match look f (imN p f.pt) with
    | none => (p, 0, [])
    | some c => if imN p f.pt = f.pt then ((siftF fs p).1, (siftF fs p).2.1 + 1, (siftF fs p).2.2) else ((siftF fs (mulL p (invL c))).1, (siftF fs (mulL p (invL c))).2.1 + 1, invL c :: (siftF fs (mulL p (invL c))).2.2)
theorem lookup_mem {l : List (Nat × List Int)} {x : Nat} {c : List Int} (h : l.lookup x = some c) : (x, c) ∈ l := by
  induction l with
  | nil => cases h
  | cons a l ih =>
    obtain ⟨y, d⟩ := a
    rw [List.lookup_cons] at h
    cases e : (x == y) with
    | true =>
      rw [e] at h
      have e := beq_iff_eq.mp e
      subst e
      have h : some d = some c := h
      cases h
      exact List.mem_cons_self ..
    | false =>
      rw [e] at h
      exact List.mem_cons_of_mem _ (ih h)
theorem lookup_none {l : List (Nat × List Int)} {x : Nat} (h : l.lookup x = none) : x ∉ l.map Prod.fst := by
  induction l with
  | nil => intro k; cases k
  | cons a l ih =>
    obtain ⟨y, d⟩ := a
    rw [List.lookup_cons] at h
    cases e : (x == y) with
    | true => rw [e] at h; cases h
    | false =>
      rw [e] at h
      have e := beq_eq_false_iff_ne.mp e
      intro k
      rcases List.mem_cons.mp k with k | k
      · exact e k
      · exact ih h k
theorem lookup_some {l : List (Nat × List Int)} {x : Nat} (h : x ∈ l.map Prod.fst) : ∃ c, l.lookup x = some c := by
  cases e : l.lookup x with
  | some c => exact ⟨c, rfl⟩
  | none => exact absurd h (lookup_none e)
section
variable {n : Nat} {bs : List Nat} {f : Flr} {fs : List Flr} {p t : List Int}
theorem look_one {up : List (List Int)} (h : FInv n bs f up) : look f f.pt = some (unitL n) := by
  obtain ⟨c, e⟩ := lookup_some (List.mem_map.mpr ⟨_, h.one, rfl⟩ : f.pt ∈ f.fo.map Prod.fst)
  have := fo_one h (lookup_mem e) h.one rfl
  cases this
  exact e
structure SiftOk (n : Nat) (bs : List Nat) (fs : List Flr) (p : List Int) : Prop where
  le : (siftF fs p).2.1 ≤ fs.length
  pm : IsPm n (siftF fs p).1
  fpm : ∀ c ∈ (siftF fs p).2.2, IsPm n c
  fwd : ∀ c ∈ (siftF fs p).2.2, Wd n (upG fs) c
  flen : (siftF fs p).2.2.length ≤ fs.length
  eq : (siftF fs p).2.2.foldl mulL p = (siftF fs p).1
  fix : fixes (bs ++ (fs.take (siftF fs p).2.1).map Flr.pt) (siftF fs p).1
  out : ∀ f, fs[(siftF fs p).2.1]? = some f → imN (siftF fs p).1 f.pt ∉ f.fo.map Prod.fst
  tl : p ∈ TL n fs ↔ (siftF fs p).1 = unitL n
theorem fixes_mul {a b : List Int} (ha : IsPm n a) (hb : IsPm n b) (l : ∀ x ∈ bs, x < n) (f1 : fixes bs a) (f2 : fixes bs b) : fixes bs (mulL a b) := fun x hx => by
  rw [imN_mul ha hb (l x hx), f1 x hx, f2 x hx]
theorem fixes_inv {a : List Int} (ha : IsPm n a) (l : ∀ x ∈ bs, x < n) (f1 : fixes bs a) : fixes bs (invL a) := fun x hx => by
  have h := imN_inv ha (l x hx)
  rw [f1 x hx] at h
  exact h
theorem sift_ok : ∀ {fs : List Flr} {bs : List Nat} {p : List Int}, TInv n bs fs → (∀ b ∈ bs, b < n) → IsPm n p → fixes bs p → SiftOk n bs fs p
  | [], bs, p, _, _, pm, fx => ⟨Nat.le_refl _, pm, (fun _ h => by cases h), (fun _ h => by cases h), Nat.le_refl _, rfl, by show fixes (bs ++ []) p; rw [List.append_nil]; exact fx, (fun f h => by cases h), List.mem_singleton⟩
  | f :: fs, bs, p, h, hb, pm, fx => by
    have b2 := bs_snoc hb h.1.pt
    have notTL : look f (imN p f.pt) = none → p ∉ TL n (f :: fs) := fun e k => by
      obtain ⟨t, ht, c, hc, rfl⟩ := mem_TL.mp k
      rw [TL_im h hb ht hc] at e
      exact lookup_none e (List.mem_map.mpr ⟨c, hc, rfl⟩)
    cases e : look f (imN p f.pt) with
    | none =>
      have s : siftF (f :: fs) p = (p, 0, []) := by simp only [siftF, e]
      refine ⟨by rw [s]; exact Nat.zero_le _, by rw [s]; exact pm, (by rw [s]; intro _ h; cases h), (by rw [s]; intro _ h; cases h), by rw [s]; exact Nat.zero_le _, by rw [s]; rfl, by rw [s]; show fixes (bs ++ []) p; rw [List.append_nil]; exact fx, fun g hg => ?_, ?_⟩
      · rw [s] at hg ⊢
        have hg : some f = some g := hg
        cases hg
        exact lookup_none e
      · rw [s]
        refine ⟨fun k => absurd k (notTL e), fun k => ?_⟩
        have k : p = unitL n := k
        rw [k, imN_unit h.1.pt, look_one h.1] at e
        cases e
    | some c =>
      obtain ⟨c1, c2, c3, c4⟩ := h.1.fo _ (lookup_mem e)
      have c2 : IsPm n c := c2
      have c3 : imN c f.pt = imN p f.pt := c3
      have fc : fixes bs c := fun b m => c4.fix (hb b m) h.1.pm fun g hg => (h.1.gens g hg).2 b m
      by_cases k : imN p f.pt = f.pt
      · have fx2 : fixes (bs ++ [f.pt]) p := fun b m => by
          rcases List.mem_append.mp m with m | m
          · exact fx b m
          · rw [List.mem_singleton.mp m]; exact k
        have ih := sift_ok h.2 b2 pm fx2
        have s : siftF (f :: fs) p = ((siftF fs p).1, (siftF fs p).2.1 + 1, (siftF fs p).2.2) := by simp only [siftF, e, if_pos k]
        have ec : c = unitL n := by rw [k, look_one h.1] at e; exact (Option.some.inj e).symm
        refine ⟨by rw [s]; exact Nat.succ_le_succ ih.le, by rw [s]; exact ih.pm, by rw [s]; exact ih.fpm, by rw [s]; exact fun c hc => (ih.fwd c hc).sub h.1.pm h.1.upw, by rw [s]; exact Nat.le_succ_of_le ih.flen, by rw [s]; exact ih.eq, ?_, ?_, ?_⟩
        · rw [s]
          have := ih.fix
          rw [List.append_assoc] at this
          exact this
        · rw [s]; exact ih.out
        · rw [s]
          refine Iff.trans ⟨fun q => ?_, fun q => ?_⟩ ih.tl
          · obtain ⟨t, ht, d, hd, ep⟩ := mem_TL.mp q
            have ed : d = (f.pt, unitL n) := fo_one h.1 hd h.1.one (by rw [← TL_im h hb ht hd, ← ep]; exact k)
            subst ed
            rw [ep, show mulL t (f.pt, unitL n).2 = t from mulL_unit (TL_pm h.2 ht)]
            exact ht
          · exact mem_TL.mpr ⟨p, q, _, h.1.one, (mulL_unit pm).symm⟩
      · have ci := invL_pm c2
        have pm2 := mulL_pm pm ci
        have fx2 : fixes (bs ++ [f.pt]) (mulL p (invL c)) := fun b m => by
          rcases List.mem_append.mp m with m | m
          · exact fixes_mul pm ci hb fx (fixes_inv c2 hb fc) b m
          · rw [List.mem_singleton.mp m, imN_mul pm ci h.1.pt, ← c3]
            exact imN_inv c2 h.1.pt
        have ih := sift_ok h.2 b2 pm2 fx2
        have s : siftF (f :: fs) p = ((siftF fs (mulL p (invL c))).1, (siftF fs (mulL p (invL c))).2.1 + 1, invL c :: (siftF fs (mulL p (invL c))).2.2) := by simp only [siftF, e, if_neg k]
        refine ⟨by rw [s]; exact Nat.succ_le_succ ih.le, by rw [s]; exact ih.pm, ?_, ?_, by rw [s]; exact Nat.succ_le_succ ih.flen, by rw [s]; exact ih.eq, ?_, ?_, ?_⟩
        · rw [s]
          intro d hd
          rcases List.mem_cons.mp hd with hd | hd
          · rw [hd]; exact ci
          · exact ih.fpm d hd
        · rw [s]
          intro d hd
          rcases List.mem_cons.mp hd with hd | hd
          · rw [hd]; exact c4.inv h.1.pm
          · exact (ih.fwd d hd).sub h.1.pm h.1.upw
        · rw [s]
          have := ih.fix
          rw [List.append_assoc] at this
          exact this
        · rw [s]; exact ih.out
        · rw [s]
          refine Iff.trans ⟨fun q => ?_, fun q => ?_⟩ ih.tl
          · obtain ⟨t, ht, d, hd, ep⟩ := mem_TL.mp q
            have ed : d = (imN p f.pt, c) := fo_one h.1 hd (lookup_mem e) (by rw [← TL_im h hb ht hd, ← ep])
            subst ed
            have ep : p = mulL t c := ep
            rw [ep, mulL_assoc (TL_pm h.2 ht) c2 ci, mul_inv c2, mulL_unit (TL_pm h.2 ht)]
            exact ht
          · exact mem_TL.mpr ⟨_, q, _, lookup_mem e, by show p = mulL (mulL p (invL c)) c; rw [mulL_assoc pm ci c2, inv_mulL c2, mulL_unit pm]⟩
/-- p from what is left and the factors -/
theorem fold_wd {gs : List (List Int)} (pg : ∀ g ∈ gs, IsPm n g) : ∀ {fa : List (List Int)} {p : List Int}, IsPm n p → (∀ c ∈ fa, IsPm n c) → (∀ c ∈ fa, Wd n gs c) → (Wd n gs (fa.foldl mulL p) ↔ Wd n gs p)
  | [], p, _, _, _ => Iff.rfl
  | c :: fa, p, hp, hc, hw => by
    have c1 := hc c (List.mem_cons_self ..)
    have w1 := hw c (List.mem_cons_self ..)
    refine Iff.trans (fold_wd (fa := fa) (p := mulL p c) pg (mulL_pm hp c1) (fun d hd => hc d (List.mem_cons_of_mem _ hd)) fun d hd => hw d (List.mem_cons_of_mem _ hd)) ⟨fun h => ?_, fun h => h.mul pg w1⟩
    have k := h.mul pg (w1.inv pg)
    rw [mulL_assoc hp c1 (invL_pm c1), mul_inv c1, mulL_unit hp] at k
    exact k
end
end KL
/-! what changes a tower; what bounds the changes -/
namespace KL
open PySem PySem.Spec PyProof.Rows L2 GA GxR
/-- a generator more: all that the floor reaches waits for it -/
def Flr.plus (f : Flr) (r : List Int) : Flr := { f with gens := f.gens ++ [r], pend := f.pend ++ f.fo.map fun c => (c.1, r) }
/-- a point more -/
def Flr.rch (f : Flr) (y : Nat) (c : List Int) : Flr := { f with fo := f.fo ++ [(y, c)], pend := f.pend ++ f.gens.map fun g => (y, g) }
def takeK : Nat → List Int → List Flr → List Flr
  | _, _, [] => []
  | 0, r, f :: fs => f.plus r :: fs
  | k + 1, r, f :: fs => f.plus r :: takeK k r fs
theorem takeK_pts : ∀ (k : Nat) (r : List Int) (fs : List Flr), (takeK k r fs).map Flr.pt = fs.map Flr.pt
  | _, _, [] => by unfold takeK; rfl
  | 0, r, f :: fs => rfl
  | k + 1, r, f :: fs => by
    show f.pt :: (takeK k r fs).map Flr.pt = _
    rw [takeK_pts k r fs]
    rfl
theorem takeK_len (k : Nat) (r : List Int) (fs : List Flr) : (takeK k r fs).length = fs.length := by
  rw [← List.length_map (f := Flr.pt), takeK_pts, List.length_map]
theorem upG_takeK {k : Nat} {r : List Int} {fs : List Flr} (h : fs ≠ []) : upG (takeK k r fs) = upG fs ++ [r] := by
  cases fs with
  | nil => exact absurd rfl h
  | cons f fs => cases k <;> rfl
section
variable {n : Nat} {bs : List Nat} {f : Flr} {fs : List Flr} {r : List Int}
theorem Wd.more {gs hs : List (List Int)} {p : List Int} (s : ∀ g ∈ gs, g ∈ hs) (h : Wd n gs p) : Wd n hs p := by
  induction h with
  | one => exact .one
  | step _ hg ih => exact ih.step (s _ hg)
  | back _ hg ih => exact ih.back (s _ hg)
theorem FInv.plus {up up2 : List (List Int)} (h : FInv n bs f up) (hr : IsPm n r) (fx : fixes bs r) (e : up2 = up ∨ up2 = up ++ [r]) : FInv n bs (f.plus r) up2 := by
  have s1 : ∀ g ∈ f.gens, g ∈ (f.plus r).gens := fun g hg => List.mem_append_left _ hg
  have s2 : ∀ g ∈ up, g ∈ up2 := fun g hg => by rcases e with e | e <;> rw [e]; exact hg; exact List.mem_append_left _ hg
  have mr : r ∈ (f.plus r).gens := List.mem_append_right _ (List.mem_singleton.mpr rfl)
  have gn : ∀ g ∈ (f.plus r).gens, IsPm n g ∧ fixes bs g := fun g hg => by
    rcases List.mem_append.mp hg with hg | hg
    · exact h.gens g hg
    · rw [List.mem_singleton.mp hg]; exact ⟨hr, fx⟩
  refine ⟨h.pt, gn, h.one, h.keys, fun c hc => ?_, fun c hc => ?_, fun g hg => ?_, fun c hc g hg => ?_⟩
  · obtain ⟨a, b, d, w⟩ := h.fo c hc
    exact ⟨a, b, d, w.more s1⟩
  · rcases List.mem_append.mp hc with hc | hc
    · exact ⟨(h.pend c hc).1, s1 _ (h.pend c hc).2⟩
    · obtain ⟨d, hd, e⟩ := List.mem_map.mp hc
      rw [← e]
      exact ⟨List.mem_map.mpr ⟨d, hd, rfl⟩, mr⟩
  · rcases e with e | e
    · rw [e] at hg
      exact (h.upw g hg).more s1
    · rw [e] at hg
      rcases List.mem_append.mp hg with hg | hg
      · exact (h.upw g hg).more s1
      · rw [List.mem_singleton.mp hg]
        exact Wd.of (fun g hg => (gn g hg).1) mr
  · rcases List.mem_append.mp hg with hg | hg
    · rcases h.done c hc g hg with m | ⟨d, hd, e1, w⟩
      · exact .inl (List.mem_append_left _ m)
      · exact .inr ⟨d, hd, e1, w.more s2⟩
    · rw [List.mem_singleton.mp hg]
      exact .inl (List.mem_append_right _ (List.mem_map.mpr ⟨c, hc, rfl⟩))
theorem takeK_inv : ∀ {k : Nat} {fs : List Flr} {bs : List Nat}, TInv n bs fs → IsPm n r → fixes (bs ++ (fs.take k).map Flr.pt) r → TInv n bs (takeK k r fs)
  | _, [], _, _, _, _ => by unfold takeK; trivial
  | 0, f :: fs, bs, h, hr, fx => by
    have fx : fixes (bs ++ []) r := fx
    rw [List.append_nil] at fx
    exact ⟨h.1.plus hr fx (.inl rfl), h.2⟩
  | k + 1, f :: fs, bs, h, hr, fx => by
    have fx2 : fixes bs r := fun b m => fx b (List.mem_append_left _ m)
    refine ⟨h.1.plus hr fx2 ?_, takeK_inv (k := k) h.2 hr (by rw [List.append_assoc]; exact fx)⟩
    cases fs with
    | nil => exact .inl (by unfold takeK; rfl)
    | cons g gs => exact .inr (upG_takeK (by intro h; cases h))
/-- floors above, whose last has `up` above it -/
def TPre (n : Nat) : List Nat → List Flr → List (List Int) → Prop
  | _, [], _ => True
  | bs, [f], up => FInv n bs f up
  | bs, f :: g :: fs, up => FInv n bs f g.gens ∧ TPre n (bs ++ [f.pt]) (g :: fs) up
theorem TInv_app : ∀ {pre post : List Flr} {bs : List Nat}, TInv n bs (pre ++ post) ↔ TPre n bs pre (upG post) ∧ TInv n (bs ++ pre.map Flr.pt) post
  | [], post, bs => by
    show TInv n bs post ↔ True ∧ TInv n (bs ++ []) post
    rw [List.append_nil, true_and]
  | [f], post, bs => Iff.rfl
  | f :: g :: fs, post, bs => by
    have ih := TInv_app (pre := g :: fs) (post := post) (bs := bs ++ [f.pt])
    show FInv n bs f g.gens ∧ TInv n (bs ++ [f.pt]) ((g :: fs) ++ post) ↔ (FInv n bs f g.gens ∧ TPre n (bs ++ [f.pt]) (g :: fs) (upG post)) ∧ TInv n (bs ++ f.pt :: (g :: fs).map Flr.pt) post
    rw [ih, and_assoc, List.append_assoc]
    rfl
/-- the last pair is taken from those that wait: it is seen to -/
theorem FInv.pop {up up2 : List (List Int)} {pd : List (Nat × List Int)} {x : Nat} {g c : List Int} {d : Nat × List Int} (h : FInv n bs f up) (e : f.pend = pd ++ [(x, g)]) (hc : (x, c) ∈ f.fo) (hd : d ∈ f.fo) (ed : imN g x = d.1) (w : Wd n up2 (mulL (mulL c g) (invL d.2))) (s : ∀ g ∈ up, g ∈ up2) (s2 : ∀ g ∈ up2, Wd n f.gens g) : FInv n bs { f with pend := pd } up2 := by
  refine ⟨h.pt, h.gens, h.one, h.keys, h.fo, fun c hc => h.pend c (by rw [e]; exact List.mem_append_left _ hc), s2, fun c2 hc2 g2 hg2 => ?_⟩
  rcases h.done c2 hc2 g2 hg2 with m | ⟨d2, hd2, e1, w2⟩
  · rw [e] at m
    rcases List.mem_append.mp m with m | m
    · exact .inl m
    · have m := List.mem_singleton.mp m
      have m1 : c2.1 = x := congrArg Prod.fst m
      have m2 : g2 = g := congrArg Prod.snd m
      have ec : c2 = (x, c) := fo_one h hc2 hc m1
      subst ec m2
      exact .inr ⟨d, hd, ed, w⟩
  · exact .inr ⟨d2, hd2, e1, w2.more s⟩
theorem FInv.reach {up : List (List Int)} {pd : List (Nat × List Int)} {x y : Nat} {g c : List Int} (h : FInv n bs f up) (e : f.pend = pd ++ [(x, g)]) (hc : (x, c) ∈ f.fo) (ey : imN g x = y) (hy : y ∉ f.fo.map Prod.fst) : FInv n bs (Flr.rch { f with pend := pd } y (mulL c g)) up := by
  have hg : g ∈ f.gens := (h.pend (x, g) (by rw [e]; exact List.mem_append_right _ (List.mem_singleton.mpr rfl))).2
  have pg := h.pm g hg
  obtain ⟨c1, c2, c3, c4⟩ := h.fo _ hc
  have c1 : x < n := c1
  have c2 : IsPm n c := c2
  have c3 : imN c f.pt = x := c3
  have c4 : Wd n f.gens c := c4
  have pcg := mulL_pm c2 pg
  have mk : ∀ z, z ∈ f.fo.map Prod.fst → z ∈ (f.fo ++ [(y, mulL c g)]).map Prod.fst := fun z hz => by rw [List.map_append]; exact List.mem_append_left _ hz
  refine ⟨h.pt, h.gens, List.mem_append_left _ h.one, ?_, fun d hd => ?_, fun d hd => ?_, h.upw, fun d hd g2 hg2 => ?_⟩
  · show ((f.fo ++ [(y, mulL c g)]).map Prod.fst).Nodup
    rw [List.map_append]
    refine List.nodup_append.mpr ⟨h.keys, List.nodup_cons.mpr ⟨(by intro h; cases h), List.nodup_nil⟩, fun a ha b hb e => hy ?_⟩
    rw [show y = b from (List.mem_singleton.mp hb).symm, ← e]
    exact ha
  · rcases List.mem_append.mp hd with hd | hd
    · exact h.fo d hd
    · rw [List.mem_singleton.mp hd]
      exact ⟨by show y < n; rw [← ey]; exact imN_lt pg c1, pcg, by show imN (mulL c g) f.pt = y; rw [imN_mul c2 pg h.pt, c3, ey], c4.step hg⟩
  · rcases List.mem_append.mp hd with hd | hd
    · have k := h.pend d (by rw [e]; exact List.mem_append_left _ hd)
      exact ⟨mk _ k.1, k.2⟩
    · obtain ⟨g2, hg2, e2⟩ := List.mem_map.mp hd
      rw [← e2]
      refine ⟨?_, hg2⟩
      show y ∈ (f.fo ++ [(y, mulL c g)]).map Prod.fst
      rw [List.map_append]
      exact List.mem_append_right _ (List.mem_singleton.mpr rfl)
  · rcases List.mem_append.mp hd with hd | hd
    · rcases h.done d hd g2 hg2 with m | ⟨d2, hd2, e1, w2⟩
      · rw [e] at m
        rcases List.mem_append.mp m with m | m
        · exact .inl (List.mem_append_left _ m)
        · have m := List.mem_singleton.mp m
          have m1 : d.1 = x := congrArg Prod.fst m
          have m2 : g2 = g := congrArg Prod.snd m
          have ec : d = (x, c) := fo_one h hd hc m1
          subst ec m2
          refine .inr ⟨(y, mulL c g2), List.mem_append_right _ (List.mem_singleton.mpr rfl), ey, ?_⟩
          show Wd n up (mulL (mulL c g2) (invL (mulL c g2)))
          rw [mul_inv pcg]
          exact .one
      · exact .inr ⟨d2, List.mem_append_left _ hd2, e1, w2⟩
    · rw [List.mem_singleton.mp hd]
      exact .inl (List.mem_append_right _ (List.mem_map.mpr ⟨g2, hg2, rfl⟩))
end
/-! ### bounds -/
open Classical in
/-- how many points the generators reach from the floor's point -/
noncomputable def orbN (n : Nat) (f : Flr) : Nat := ((List.range n).filter fun x => decide (∃ w, Wd n f.gens w ∧ imN w f.pt = x)).length
noncomputable def MB (n : Nat) (fs : List Flr) : Nat := (fs.map fun f => n - orbN n f).sum
theorem llen_le_subN : ∀ {ks ns : List Nat}, ks.Nodup → (∀ k ∈ ks, k ∈ ns) → ks.length ≤ ns.length
  | [], _, _, _ => Nat.zero_le _
  | k :: ks, ns, nd, h => by
    obtain ⟨h1, h2⟩ := List.nodup_cons.mp nd
    have ih := llen_le_subN (ks := ks) (ns := ns.erase k) h2 fun x hx => by
      have ne : x ≠ k := fun e => h1 (e ▸ hx)
      exact (List.mem_erase_of_ne ne).mpr (h x (List.mem_cons_of_mem _ hx))
    have hk := h k (List.mem_cons_self ..)
    rw [List.length_erase_of_mem hk] at ih
    have := List.length_pos_of_mem hk
    rw [List.length_cons]
    omega
def BB (n : Nat) (fs : List Flr) : Nat := (fs.map fun f => n - f.fo.length).sum
def PB (fs : List Flr) : Nat := (fs.map fun f => f.pend.length).sum
section
variable {n : Nat} {bs : List Nat} {f g : Flr} {fs : List Flr} {r : List Int}
theorem orbN_le : orbN n f ≤ n := Nat.le_trans (List.length_filter_le ..) (by rw [List.length_range]; exact Nat.le_refl _)
open Classical in
theorem orbN_pos (h : f.pt < n) : 1 ≤ orbN n f := List.length_pos_iff.mpr fun e => by
  have : f.pt ∈ ([] : List Nat) := by
    rw [← e]
    refine List.mem_filter.mpr ⟨List.mem_range.mpr h, ?_⟩
    rw [decide_eq_true_iff]
    exact ⟨unitL n, .one, imN_unit h⟩
  cases this
theorem filter_mono {α : Type} {p q : α → Bool} : ∀ {l : List α}, (∀ x ∈ l, p x = true → q x = true) → (l.filter p).length ≤ (l.filter q).length
  | [], _ => Nat.le_refl _
  | x :: l, h => by
    have ih := filter_mono (l := l) fun y hy => h y (List.mem_cons_of_mem _ hy)
    have h0 := h x (List.mem_cons_self ..)
    rw [List.filter_cons, List.filter_cons]
    cases e : p x with
    | true =>
      rw [h0 e]
      exact Nat.succ_le_succ ih
    | false =>
      cases q x with
      | true => exact Nat.le_succ_of_le ih
      | false => exact ih
theorem filter_less {α : Type} {p q : α → Bool} : ∀ {l : List α}, (∀ x ∈ l, p x = true → q x = true) → (∃ x ∈ l, q x = true ∧ p x = false) → (l.filter p).length + 1 ≤ (l.filter q).length
  | [], _, ⟨_, h, _⟩ => by cases h
  | x :: l, h, ⟨y, hy, q1, p0⟩ => by
    have hl : ∀ z ∈ l, p z = true → q z = true := fun z hz => h z (List.mem_cons_of_mem _ hz)
    have h0 := h x (List.mem_cons_self ..)
    rw [List.filter_cons, List.filter_cons]
    rcases List.mem_cons.mp hy with e | hy
    · subst e
      rw [p0, q1]
      exact Nat.succ_le_succ (filter_mono hl)
    · have ih := filter_less hl ⟨y, hy, q1, p0⟩
      cases e : p x with
      | true =>
        rw [h0 e]
        exact Nat.succ_le_succ ih
      | false =>
        cases q x with
        | true => exact Nat.le_succ_of_le ih
        | false => exact ih
open Classical in
theorem orbN_plus : orbN n f ≤ orbN n (f.plus r) := filter_mono fun x _ h => by
  rw [decide_eq_true_iff] at h ⊢
  obtain ⟨w, hw, e⟩ := h
  exact ⟨w, hw.more fun g hg => List.mem_append_left _ hg, e⟩
open Classical in
/-- a floor that is still, and all above: a generator that leads out of what is reached reaches more -/
theorem orbN_less (h : TInv n bs (f :: fs)) (hb : ∀ b ∈ bs, b < n) (st : Still (f :: fs)) (hr : IsPm n r) (out : imN r f.pt ∉ f.fo.map Prod.fst) : orbN n f + 1 ≤ orbN n (f.plus r) := by
  refine filter_less (fun x _ h => ?_) ⟨imN r f.pt, List.mem_range.mpr (imN_lt hr h.1.pt), ?_, ?_⟩
  · rw [decide_eq_true_iff] at h ⊢
    obtain ⟨w, hw, e⟩ := h
    exact ⟨w, hw.more fun g hg => List.mem_append_left _ hg, e⟩
  · rw [decide_eq_true_iff]
    refine ⟨r, Wd.of (fun g hg => ?_) (List.mem_append_right _ (List.mem_singleton.mpr rfl)), rfl⟩
    rcases List.mem_append.mp hg with hg | hg
    · exact h.1.pm g hg
    · rw [List.mem_singleton.mp hg]; exact hr
  · rw [decide_eq_false_iff_not]
    rintro ⟨w, hw, e⟩
    obtain ⟨t, ht, c, hc, ew⟩ := mem_TL.mp ((still_ok h hb st w).mpr hw)
    rw [ew, TL_im h hb ht hc] at e
    exact out (by rw [← e]; exact List.mem_map.mpr ⟨c, hc, rfl⟩)
theorem fo_len {up : List (List Int)} (h : FInv n bs f up) : f.fo.length ≤ n := by
  have := llen_le_subN h.keys (ns := List.range n) fun k hk => by
    obtain ⟨c, hc, rfl⟩ := List.mem_map.mp hk
    exact List.mem_range.mpr (h.fo c hc).1
  rw [List.length_map, List.length_range] at this
  exact this
theorem takeK_MB : ∀ {k : Nat} {fs : List Flr} {bs : List Nat}, TInv n bs fs → (∀ b ∈ bs, b < n) → Still fs → IsPm n r → (∀ f, fs[k]? = some f → imN r f.pt ∉ f.fo.map Prod.fst) → k < fs.length → MB n (takeK k r fs) + 1 ≤ MB n fs
  | _, [], _, _, _, _, _, _, l => by cases l
  | 0, f :: fs, bs, h, hb, st, hr, out, _ => by
    have k := orbN_less h hb st hr (out f rfl)
    have k2 := orbN_le (n := n) (f := f.plus r)
    show (n - orbN n (f.plus r)) + MB n fs + 1 ≤ (n - orbN n f) + MB n fs
    omega
  | k + 1, f :: fs, bs, h, hb, st, hr, out, l => by
    have ih := takeK_MB (k := k) h.2 (bs_snoc hb h.1.pt) (fun g hg => st g (List.mem_cons_of_mem _ hg)) hr out (by simpa using l)
    have k1 := orbN_plus (n := n) (f := f) (r := r)
    show (n - orbN n (f.plus r)) + MB n (takeK k r fs) + 1 ≤ (n - orbN n f) + MB n fs
    omega
theorem takeK_BB : ∀ (k : Nat) (fs : List Flr), BB n (takeK k r fs) = BB n fs
  | _, [] => by unfold takeK; rfl
  | 0, f :: fs => rfl
  | k + 1, f :: fs => by
    show (n - f.fo.length) + BB n (takeK k r fs) = (n - f.fo.length) + BB n fs
    rw [takeK_BB k fs]
theorem takeK_PB : ∀ {k : Nat} {fs : List Flr} {bs : List Nat}, TInv n bs fs → PB (takeK k r fs) ≤ PB fs + n * fs.length
  | _, [], _, _ => by unfold takeK; exact Nat.zero_le _
  | 0, f :: fs, bs, h => by
    have k := fo_len h.1
    show (f.pend ++ f.fo.map fun c => (c.1, r)).length + PB fs ≤ f.pend.length + PB fs + n * (fs.length + 1)
    rw [List.length_append, List.length_map, Nat.mul_succ]
    omega
  | k + 1, f :: fs, bs, h => by
    have k1 := fo_len h.1
    have ih := takeK_PB (k := k) h.2
    show (f.pend ++ f.fo.map fun c => (c.1, r)).length + PB (takeK k r fs) ≤ f.pend.length + PB fs + n * (fs.length + 1)
    rw [List.length_append, List.length_map, Nat.mul_succ]
    omega
theorem takeK_gens : ∀ {k m : Nat} {fs : List Flr}, (∀ f ∈ fs, f.gens.length ≤ m) → ∀ f ∈ takeK k r fs, f.gens.length ≤ m + 1
  | _, _, [], _, f, hf => by unfold takeK at hf; cases hf
  | 0, m, g :: fs, h, f, hf => by
    rcases List.mem_cons.mp hf with e | hf
    · have := h g (List.mem_cons_self ..)
      rw [e]
      show (g.gens ++ [r]).length ≤ _
      rw [List.length_append]
      show g.gens.length + 1 ≤ _
      omega
    · have := h f (List.mem_cons_of_mem _ hf)
      omega
  | k + 1, m, g :: fs, h, f, hf => by
    rcases List.mem_cons.mp hf with e | hf
    · have := h g (List.mem_cons_self ..)
      rw [e]
      show (g.gens ++ [r]).length ≤ _
      rw [List.length_append]
      show g.gens.length + 1 ≤ _
      omega
    · exact takeK_gens (k := k) (fun f hf => h f (List.mem_cons_of_mem _ hf)) f hf
end
end KL
/-! towers in the heap -/
namespace KL
open PySem PySem.Spec PyProof.Rows L2 GA GxR
/-! ### what changes, and where -/
/-- the heap without these -/
def wo (M : List Addr) (H : Hp) : Hp := fun a => if a ∈ M then none else H a
/-- all but these stays -/
def ExM (M : List Addr) (H H' : Hp) : Prop := Ex (wo M H) H'
section
variable {M N : List Addr} {H H1 H2 H0 : Hp}
theorem wo_at {a : Addr} {o : HO} (h : wo M H a = some o) : a ∉ M ∧ H a = some o := by
  unfold wo at h
  by_cases c : a ∈ M
  · rw [if_pos c] at h; cases h
  · rw [if_neg c] at h; exact ⟨c, h⟩
theorem wo_of {a : Addr} (c : a ∉ M) : wo M H a = H a := by unfold wo; rw [if_neg c]
theorem wo_ex : Ex (wo M H) H := by
  refine ⟨fun a o h _ => (wo_at h).2, fun P h => ?_, fun r s h => ?_, fun a h => ?_⟩
  · obtain ⟨ps, e, t⟩ := h
    exact ⟨ps, (wo_at e).2, t⟩
  · obtain ⟨i, j, k, e, t⟩ := h
    exact ⟨i, j, k, (wo_at e).2, t⟩
  · unfold wo
    by_cases c : a ∈ M
    · rw [if_pos c]
    · rw [if_neg c]; exact h
theorem ExM.of (x : Ex H H1) : ExM M H H1 := wo_ex.trans x
theorem ExM.refl : ExM M H H := wo_ex
theorem wo_mid (x : ExM M H H1) : Ex (wo M H) (wo M H1) := by
  refine ⟨fun a o h s => ?_, fun P h => ?_, fun r s h => ?_, fun a h => ?_⟩
  · rw [wo_of (wo_at h).1]
    exact x.st a o h s
  · obtain ⟨ps, e, _⟩ := id h
    obtain ⟨ps2, e2, t⟩ := x.tab P h
    exact ⟨ps2, by rw [wo_of (wo_at e).1]; exact e2, t⟩
  · obtain ⟨_, _, _, e, _⟩ := id h
    obtain ⟨i, j, k, e2, t⟩ := x.row r s h
    exact ⟨i, j, k, by rw [wo_of (wo_at e).1]; exact e2, t⟩
  · unfold wo at h ⊢
    by_cases c : a ∈ M
    · rw [if_pos c]
    · rw [if_neg c] at h ⊢
      have := x.no a h
      unfold wo at this
      rw [if_neg c] at this
      exact this
theorem ExM.trans (x : ExM M H H1) (y : ExM M H1 H2) : ExM M H H2 := Ex.trans (wo_mid x) y
theorem ExM.up {p : Addr} {o : HO} (x : ExM M H H1) (h : p ∈ M) : ExM M H (upd H1 p o) := Ex.own x (by unfold wo; rw [if_pos h])
theorem ExM.sub (x : ExM M H H1) (h : ∀ a ∈ M, a ∈ N) : ExM N H H1 := by
  refine Ex.trans (H1 := wo M H) ?_ x
  refine ⟨fun a o e s => ?_, fun P e => ?_, fun r s e => ?_, fun a e => ?_⟩
  · rw [wo_of fun c => (wo_at e).1 (h a c)]
    exact (wo_at e).2
  · obtain ⟨ps, e, t⟩ := e
    exact ⟨ps, by rw [wo_of fun c => (wo_at e).1 (h _ c)]; exact (wo_at e).2, t⟩
  · obtain ⟨i, j, k, e, t⟩ := e
    exact ⟨i, j, k, by rw [wo_of fun c => (wo_at e).1 (h _ c)]; exact (wo_at e).2, t⟩
  · unfold wo at e ⊢
    by_cases c : a ∈ N
    · rw [if_pos c]
    · rw [if_neg fun q => c (h a q)] at e
      rw [if_neg c]
      exact e
/-- what stood before the changing things were made -/
theorem ExM.base (x : ExM M H H1) (b : Ex H0 H) (n : ∀ a ∈ M, H0 a = none) : Ex H0 H1 := by
  refine ⟨fun a o h s => ?_, fun P h => ?_, fun r s h => ?_, fun a h => ?_⟩
  · have c : a ∉ M := fun c => by rw [n a c] at h; cases h
    exact x.st a o (by rw [wo_of c]; exact b.st a o h s) s
  · obtain ⟨ps, e, _⟩ := id h
    have c : P ∉ M := fun c => by rw [n P c] at e; cases e
    obtain ⟨ps2, e2, t⟩ := b.tab P h
    exact x.tab P ⟨ps2, by rw [wo_of c]; exact e2, t⟩
  · obtain ⟨_, _, _, e, _⟩ := id h
    have c : r ∉ M := fun c => by rw [n r c] at e; cases e
    obtain ⟨i, j, k, e2, t⟩ := b.row r s h
    exact x.row r s ⟨i, j, k, by rw [wo_of c]; exact e2, t⟩
  · have := x.no a h
    unfold wo at this
    by_cases c : a ∈ M
    · exact n a c
    · rw [if_neg c] at this
      exact b.no a this
theorem ExM.at_ (x : ExM M H H1) {a : Addr} {o : HO} (h : H a = some o) (c : a ∉ M) (s : Stable o) : H1 a = some o := x.st a o (by rw [wo_of c]; exact h) s
def isMut : HO → Prop
  | .lst _ => True
  | .dK _ => True
  | .dT _ => True
  | _ => False
/-- what changes are lists and dicts -/
def KM (H : Hp) (M : List Addr) : Prop := ∀ a ∈ M, ∃ o, H a = some o ∧ isMut o
theorem KM.no (k : KM H M) {a : Addr} {o : HO} (h : H a = some o) (n : ¬ isMut o) : a ∉ M := fun c => by
  obtain ⟨u, e, m⟩ := k a c
  rw [h] at e
  cases e
  exact n m
theorem KM.free (k : KM H M) {a : Addr} (h : H a = none) : a ∉ M := fun c => by
  obtain ⟨u, e, m⟩ := k a c
  rw [h] at e
  cases e
theorem ExM.t (x : ExM M H H1) (k : KM H M) {a : Addr} {xs : List V} (h : H a = some (.tup xs)) : H1 a = some (.tup xs) := x.at_ h (k.no h fun z => z) trivial
theorem ExM.rows (x : ExM M H H1) (k : KM H M) {As : List Addr} {R : List (List Int)} (h : RowsAt H As R) : RowsAt H1 As R := ⟨h.len, fun i r e => let ⟨a, e1, e2⟩ := h.at_ i r e; ⟨a, e1, x.t k e2⟩⟩
theorem ExM.pm (x : ExM M H H1) (k : KM H M) {a : Addr} {n : Nat} {p : List Int} (h : Pm H a n p) : Pm H1 a n p := ⟨x.t k h.at_, h.is⟩
end
/-! ### the tape -/
structure TA where
  tp : Addr
  dx : Addr
  st : Addr
  pl : Addr
  one : Addr
def taF (A : TA) : List (Str × V) := [("one", .ref A.one), ("steps", .ref A.st), ("places", .ref A.pl)]
structure TpAt (K : PySem.W.Frag) (n : Nat) (H : Hp) (A : TA) (L : List (List Int)) : Prop where
  ins : H A.tp = some (.ins (He.ga K "Tape") A.dx (taF A))
  one : H A.one = some (.tup ((unitL n).map V.int))
  st : ∃ As : List Addr, H A.st = some (.lst (As.map V.ref)) ∧ As.length = L.length
  pl : ∃ kvs : List (List L2.Key × V), H A.pl = some (.dT kvs) ∧ kvs.map Prod.fst = L.map keyI ∧ ∀ kv ∈ kvs, ∃ i : Int, kv.2 = .int i
def TA.mut (A : TA) : List Addr := [A.st, A.pl]
/-- the tape knows how p is made -/
def Has (n : Nat) (L : List (List Int)) (p : List Int) : Prop := p = unitL n ∨ p ∈ L
/-! ### floors -/
structure FA where
  fl : Addr
  dx : Addr
  lg : Addr
  fo : Addr
  ba : Addr
  pe : Addr
def flF (a : FA) (pt : Nat) : List (Str × V) := [("point", .int pt), ("generators", .ref a.lg), ("forth", .ref a.fo), ("back", .ref a.ba), ("pending", .ref a.pe)]
def FA.mut (a : FA) : List Addr := [a.lg, a.fo, a.ba, a.pe]
/-- keys with their tuples -/
def kvs (ks : List Nat) (As : List Addr) : List (L2.Key × V) := (ks.zip As).map fun q => (Sum.inl (q.1 : Int), V.ref q.2)
structure PairsAt (H : Hp) (As : List Addr) (ps : List (Nat × List Int)) : Prop where
  len : As.length = ps.length
  at_ : ∀ (i : Nat) (q : Nat × List Int), ps[i]? = some q → ∃ a c : Addr, As[i]? = some a ∧ H a = some (.tup [.int q.1, .ref c]) ∧ H c = some (.tup (q.2.map V.int))
structure FlAt (K : PySem.W.Frag) (H : Hp) (a : FA) (f : Flr) : Prop where
  ins : H a.fl = some (.ins (He.ga K "Floor") a.dx (flF a f.pt))
  gens : ∃ As : List Addr, H a.lg = some (.lst (As.map V.ref)) ∧ RowsAt H As f.gens
  fo : ∃ As : List Addr, H a.fo = some (.dK (kvs (f.fo.map Prod.fst) As)) ∧ RowsAt H As (f.fo.map Prod.snd)
  ba : ∃ As : List Addr, H a.ba = some (.dK (kvs (f.fo.map Prod.fst) As)) ∧ RowsAt H As (f.fo.map fun c => invL c.2)
  pe : ∃ As : List Addr, H a.pe = some (.lst (As.map V.ref)) ∧ PairsAt H As f.pend
theorem taF_one (A : TA) : (taF A).lookup ("one" : Str) = some (.ref A.one) := by kernel_rfl
theorem taF_st (A : TA) : (taF A).lookup ("steps" : Str) = some (.ref A.st) := by kernel_rfl
theorem taF_pl (A : TA) : (taF A).lookup ("places" : Str) = some (.ref A.pl) := by kernel_rfl
theorem flF_pt (a : FA) (x : Nat) : (flF a x).lookup ("point" : Str) = some (.int x) := by kernel_rfl
theorem flF_lg (a : FA) (x : Nat) : (flF a x).lookup ("generators" : Str) = some (.ref a.lg) := by kernel_rfl
theorem flF_fo (a : FA) (x : Nat) : (flF a x).lookup ("forth" : Str) = some (.ref a.fo) := by kernel_rfl
theorem flF_ba (a : FA) (x : Nat) : (flF a x).lookup ("back" : Str) = some (.ref a.ba) := by kernel_rfl
theorem flF_pe (a : FA) (x : Nat) : (flF a x).lookup ("pending" : Str) = some (.ref a.pe) := by kernel_rfl
end KL
/-! what stays of tapes and floors; the promises of their methods -/
namespace KL
open PySem PySem.Spec PyProof.Rows L2 GA GxR
theorem refsM {As : List Addr} : Stable (.lst (As.map V.ref)) := refs_norow
section
variable {K : PySem.W.Frag} {n : Nat} {H H1 : Hp} {M : List Addr} {A : TA} {L : List (List Int)} {a : FA} {f : Flr}
theorem PairsAt.kept {As : List Addr} {ps : List (Nat × List Int)} (t : ∀ a xs, H a = some (.tup xs) → H1 a = some (.tup xs)) (h : PairsAt H As ps) : PairsAt H1 As ps :=
  ⟨h.len, fun i q e => let ⟨a, c, e1, e2, e3⟩ := h.at_ i q e; ⟨a, c, e1, t _ _ e2, t _ _ e3⟩⟩
theorem RowsAt.kept {As : List Addr} {R : List (List Int)} (t : ∀ a xs, H a = some (.tup xs) → H1 a = some (.tup xs)) (h : RowsAt H As R) : RowsAt H1 As R :=
  ⟨h.len, fun i r e => let ⟨a, e1, e2⟩ := h.at_ i r e; ⟨a, e1, t _ _ e2⟩⟩
/-- what was tuples stays -/
theorem ex_t (x : Ex H H1) : ∀ a xs, H a = some (.tup xs) → H1 a = some (.tup xs) := fun a xs e => x.st a _ e trivial
theorem PairsAt.nil : PairsAt H [] [] := ⟨rfl, fun i q h => by cases i <;> cases h⟩
theorem PairsAt.more {As : List Addr} {ps : List (Nat × List Int)} {b c : Addr} {q : Nat × List Int} (h : PairsAt H As ps) (h1 : H b = some (.tup [.int q.1, .ref c])) (h2 : H c = some (.tup (q.2.map V.int))) : PairsAt H (As ++ [b]) (ps ++ [q]) := by
  refine ⟨by rw [List.length_append, List.length_append, h.len]; rfl, fun i r e => ?_⟩
  by_cases l : i < ps.length
  · rw [List.getElem?_append_left l] at e
    obtain ⟨a, d, e1, e2, e3⟩ := h.at_ i r e
    exact ⟨a, d, by rw [List.getElem?_append_left (by rw [h.len]; exact l)]; exact e1, e2, e3⟩
  · have hi := (List.getElem?_eq_some_iff.mp e).1
    rw [List.length_append] at hi
    have hi : i < ps.length + 1 := hi
    have ei : i = ps.length := by omega
    subst ei
    rw [List.getElem?_append_right (Nat.le_refl _), Nat.sub_self] at e
    cases e
    exact ⟨b, c, by rw [List.getElem?_append_right (by rw [h.len]; exact Nat.le_refl _), h.len, Nat.sub_self]; rfl, h1, h2⟩
theorem PairsAt.app {As Bs : List Addr} {ps qs : List (Nat × List Int)} (h : PairsAt H As ps) (k : PairsAt H Bs qs) : PairsAt H (As ++ Bs) (ps ++ qs) := by
  refine ⟨by rw [List.length_append, List.length_append, h.len, k.len], fun i r e => ?_⟩
  by_cases l : i < ps.length
  · rw [List.getElem?_append_left l] at e
    obtain ⟨a, d, e1, e2, e3⟩ := h.at_ i r e
    exact ⟨a, d, by rw [List.getElem?_append_left (by rw [h.len]; exact l)]; exact e1, e2, e3⟩
  · rw [List.getElem?_append_right (by omega)] at e
    obtain ⟨a, d, e1, e2, e3⟩ := k.at_ _ r e
    exact ⟨a, d, by rw [List.getElem?_append_right (by rw [h.len]; omega), h.len]; exact e1, e2, e3⟩
theorem PairsAt.pop {As : List Addr} {ps : List (Nat × List Int)} {q : Nat × List Int} (h : PairsAt H As (ps ++ [q])) : ∃ (Bs : List Addr) (b c : Addr), As = Bs ++ [b] ∧ PairsAt H Bs ps ∧ H b = some (.tup [.int q.1, .ref c]) ∧ H c = some (.tup (q.2.map V.int)) := by
  obtain ⟨a, c, e1, e2, e3⟩ := h.at_ ps.length q (by rw [List.getElem?_append_right (Nat.le_refl _), Nat.sub_self]; rfl)
  have l := h.len
  rw [List.length_append] at l
  have l : As.length = ps.length + 1 := l
  have hA : As ≠ [] := fun e => by rw [e] at l; cases l
  have e4 : As = As.dropLast ++ [a] := by
    rw [← List.dropLast_concat_getLast hA]
    congr 1
    · rw [List.dropLast_concat]
    · rw [List.getLast_eq_getElem]
      rw [List.getElem?_eq_getElem (by omega)] at e1
      have e1 := Option.some.inj e1
      have e5 : As.length - 1 = ps.length := by omega
      simp only [e5, e1]
  refine ⟨As.dropLast, a, c, e4, ⟨by rw [List.length_dropLast]; omega, fun i r e => ?_⟩, e2, e3⟩
  have li := (List.getElem?_eq_some_iff.mp e).1
  obtain ⟨a', c', k1, k2, k3⟩ := h.at_ i r (by rw [List.getElem?_append_left li]; exact e)
  refine ⟨a', c', ?_, k2, k3⟩
  rw [e4, List.getElem?_append_left (by rw [List.length_dropLast]; omega)] at k1
  exact k1
theorem TpAt.km (h : TpAt K n H A L) : KM H A.mut := fun x hx => by
  obtain ⟨As, e, _⟩ := h.st
  obtain ⟨kv, e2, _⟩ := h.pl
  rcases List.mem_cons.mp hx with rfl | hx
  · exact ⟨_, e, trivial⟩
  · rw [List.mem_singleton.mp hx]; exact ⟨_, e2, trivial⟩
theorem FlAt.km (h : FlAt K H a f) : KM H a.mut := fun x hx => by
  obtain ⟨_, e1, _⟩ := h.gens
  obtain ⟨_, e2, _⟩ := h.fo
  obtain ⟨_, e3, _⟩ := h.ba
  obtain ⟨_, e4, _⟩ := h.pe
  simp only [FA.mut, List.mem_cons, List.not_mem_nil, or_false] at hx
  rcases hx with rfl | rfl | rfl | rfl
  · exact ⟨_, e1, trivial⟩
  · exact ⟨_, e2, trivial⟩
  · exact ⟨_, e3, trivial⟩
  · exact ⟨_, e4, trivial⟩
theorem TpAt.exm (x : ExM M H H1) (k : KM H M) (d : ∀ y ∈ A.mut, y ∉ M) (h : TpAt K n H A L) : TpAt K n H1 A L := by
  obtain ⟨As, e, l⟩ := h.st
  obtain ⟨kv, e2, r⟩ := h.pl
  exact ⟨x.at_ h.ins (k.no h.ins fun z => z) trivial, x.t k h.one, ⟨As, x.at_ e (d _ (List.mem_cons_self ..)) refsM, l⟩, ⟨kv, x.at_ e2 (d _ (List.mem_cons_of_mem _ (List.mem_singleton.mpr rfl))) trivial, r⟩⟩
theorem KM.nil : KM H [] := fun _ h => by cases h
theorem ExM.nil (x : Ex H H1) : ExM [] H H1 := .of x
theorem TpAt.ex (x : Ex H H1) (h : TpAt K n H A L) : TpAt K n H1 A L := h.exm (.of (M := []) x) .nil fun _ _ h => by cases h
theorem FlAt.exm (x : ExM M H H1) (k : KM H M) (d : ∀ y ∈ a.mut, y ∉ M) (h : FlAt K H a f) : FlAt K H1 a f := by
  obtain ⟨A1, e1, r1⟩ := h.gens
  obtain ⟨A2, e2, r2⟩ := h.fo
  obtain ⟨A3, e3, r3⟩ := h.ba
  obtain ⟨A4, e4, r4⟩ := h.pe
  have t : ∀ a xs, H a = some (.tup xs) → H1 a = some (.tup xs) := fun a xs e => x.t k e
  exact ⟨x.at_ h.ins (k.no h.ins fun z => z) trivial, ⟨A1, x.at_ e1 (d _ (by simp [FA.mut])) refsM, r1.kept t⟩, ⟨A2, x.at_ e2 (d _ (by simp [FA.mut])) trivial, r2.kept t⟩, ⟨A3, x.at_ e3 (d _ (by simp [FA.mut])) trivial, r3.kept t⟩, ⟨A4, x.at_ e4 (d _ (by simp [FA.mut])) refsM, r4.kept t⟩⟩
theorem FlAt.ex (x : Ex H H1) (h : FlAt K H a f) : FlAt K H1 a f := h.exm (.of (M := []) x) .nil fun _ _ h => by cases h
/-! ### keys of a floor's dicts -/
theorem kvs_len {ks : List Nat} {As : List Addr} (l : As.length = ks.length) : (kvs ks As).length = ks.length := by
  unfold kvs
  rw [List.length_map, List.length_zip]
  omega
theorem kvs_app {ks js : List Nat} {As Bs : List Addr} (l : As.length = ks.length) : kvs ks As ++ kvs js Bs = kvs (ks ++ js) (As ++ Bs) := by
  unfold kvs
  rw [List.zip_append l.symm, List.map_append]
theorem valV_kvs {g : Nat × List Int → List Int} : ∀ {l : List (Nat × List Int)} {As : List Addr} {x : Nat} {c : List Int}, RowsAt H As (l.map g) → l.lookup x = some c → (∀ d, (x, d) ∈ l → d = c) → ∃ b, valV (kvs (l.map Prod.fst) As) (Sum.inl (x : Int)) = some (.ref b) ∧ H b = some (.tup ((g (x, c)).map V.int))
  | [], _, _, _, _, h, _ => by cases h
  | (y, d) :: l, [], _, _, R, _, _ => by have := R.len; simp at this
  | (y, d) :: l, a :: As, x, c, R, h, u => by
    obtain ⟨a', e1, e2⟩ := R.at_ 0 _ rfl
    cases e1
    have R2 : RowsAt H As (l.map g) := ⟨by have := R.len; simpa using this, fun i r e => R.at_ (i + 1) r e⟩
    rw [List.lookup_cons] at h
    cases q : (x == y) with
    | true =>
      rw [q] at h
      have q := beq_iff_eq.mp q
      subst q
      have h : some d = some c := h
      cases h
      refine ⟨a, ?_, e2⟩
      show ((kvs (x :: l.map Prod.fst) (a :: As)).find? fun kv => decide (kv.1 = Sum.inl (x : Int))).map (·.2) = _
      unfold kvs
      rw [List.zip_cons_cons, List.map_cons, List.find?_cons_of_pos (by simp)]
      rfl
    | false =>
      rw [q] at h
      obtain ⟨b, k1, k2⟩ := valV_kvs (g := g) R2 h fun d hd => u d (List.mem_cons_of_mem _ hd)
      refine ⟨b, ?_, k2⟩
      have ne := beq_eq_false_iff_ne.mp q
      show ((kvs (y :: l.map Prod.fst) (a :: As)).find? fun kv => decide (kv.1 = Sum.inl (x : Int))).map (·.2) = _
      unfold kvs
      rw [List.zip_cons_cons, List.map_cons, List.find?_cons_of_neg (by simp; omega)]
      exact k1
theorem valV_none {ks : List Nat} : ∀ {As : List Addr} {x : Nat}, x ∉ ks → valV (kvs ks As) (Sum.inl (x : Int)) = none := by
  intro As x h
  show ((kvs ks As).find? fun kv => decide (kv.1 = Sum.inl (x : Int))).map (·.2) = none
  rw [Option.map_eq_none_iff, List.find?_eq_none]
  intro kv hkv e
  obtain ⟨q, hq, rfl⟩ := List.mem_map.mp hkv
  have e := of_decide_eq_true e
  have e : (q.1 : Int) = x := Sum.inl.inj e
  have := (List.of_mem_zip hq).1
  exact h (by rw [show x = q.1 by omega]; exact this)
theorem putK_kvs {ks : List Nat} {As : List Addr} {x : Nat} {b : Addr} (l : As.length = ks.length) (h : x ∉ ks) : putK (kvs ks As) (Sum.inl (x : Int)) (.ref b) = kvs (ks ++ [x]) (As ++ [b]) := by
  unfold putK
  rw [if_neg, ← kvs_app l]
  · rfl
  · intro e
    obtain ⟨kv, hkv, e⟩ := List.any_eq_true.mp e
    obtain ⟨q, hq, rfl⟩ := List.mem_map.mp hkv
    have e := of_decide_eq_true e
    have e : (q.1 : Int) = x := Sum.inl.inj e
    exact h (by rw [show x = q.1 by omega]; exact (List.of_mem_zip hq).1)
end
/-! ### promises -/
def spNote (K : PySem.W.Frag) : Sp := fun vs H Q _ => ∃ (A : TA) (n : Nat) (L : List (List Int)) (a s : Addr) (p : List Int) (xs : List V), vs = [.ref A.tp, .ref a, .ref s] ∧ TpAt K n H A L ∧ A.st ≠ A.pl ∧ H a = some (.tup (p.map V.int)) ∧ H s = some (.tup xs) ∧ L.length ≤ 100000 ∧
  ∀ H', ExM A.mut H H' → TpAt K n H' A (addL L p) → Q (.ref a) H'
def spJoined : Sp := fun vs H Q _ => ∃ (t : V) (a b : Addr) (n : Nat) (p q : List Int), vs = [t, .ref a, .ref b] ∧ Pm H a n p ∧ Pm H b n q ∧ n ≤ 1000 ∧ ∀ c H', Ex H H' → H' c = some (.tup ((mulL p q).map V.int)) → Q (.ref c) H'
def spFlipped : Sp := fun vs H Q _ => ∃ (t : V) (a : Addr) (n : Nat) (p : List Int), vs = [t, .ref a] ∧ Pm H a n p ∧ n ≤ 1000 ∧ ∀ c H', Ex H H' → H' c = some (.tup ((invL p).map V.int)) → Q (.ref c) H'
def spTimes (K : PySem.W.Frag) : Sp := fun vs H Q _ => ∃ (A : TA) (n : Nat) (L : List (List Int)) (a b : Addr) (p q : List Int), vs = [.ref A.tp, .ref a, .ref b] ∧ TpAt K n H A L ∧ A.st ≠ A.pl ∧ Pm H a n p ∧ Pm H b n q ∧ Has n L p ∧ Has n L q ∧ n ≤ 12 ∧ L.length ≤ 100000 ∧
  ∀ (c : Addr) (H' : Hp) (L' : List (List Int)), ExM A.mut H H' → TpAt K n H' A L' → (∀ x ∈ L, x ∈ L') → L'.length ≤ L.length + 1 → Has n L' (mulL p q) → H' c = some (.tup ((mulL p q).map V.int)) → Q (.ref c) H'
def spTurned (K : PySem.W.Frag) : Sp := fun vs H Q _ => ∃ (A : TA) (n : Nat) (L : List (List Int)) (a : Addr) (p : List Int), vs = [.ref A.tp, .ref a] ∧ TpAt K n H A L ∧ A.st ≠ A.pl ∧ Pm H a n p ∧ Has n L p ∧ n ≤ 12 ∧ L.length ≤ 100000 ∧
  ∀ (c : Addr) (H' : Hp) (L' : List (List Int)), ExM A.mut H H' → TpAt K n H' A L' → (∀ x ∈ L, x ∈ L') → L'.length ≤ L.length + 1 → Has n L' (invL p) → H' c = some (.tup ((invL p).map V.int)) → Q (.ref c) H'
def spFloorTake (K : PySem.W.Frag) : Sp := fun vs H Q _ => ∃ (a : FA) (f : Flr) (b : Addr) (r : List Int), vs = [.ref a.fl, .ref b] ∧ FlAt K H a f ∧ a.mut.Nodup ∧ H b = some (.tup (r.map V.int)) ∧ f.gens.length ≤ 1000 ∧ f.fo.length ≤ 12 ∧ f.pend.length ≤ 100000 ∧
  ∀ H', ExM a.mut H H' → FlAt K H' a (f.plus r) → Q .non H'
def spReach (K : PySem.W.Frag) : Sp := fun vs H Q _ => ∃ (a : FA) (f : Flr) (b d : Addr) (y : Nat) (c : List Int), vs = [.ref a.fl, .int y, .ref b, .ref d] ∧ FlAt K H a f ∧ a.mut.Nodup ∧ y ∉ f.fo.map Prod.fst ∧ H b = some (.tup (c.map V.int)) ∧ H d = some (.tup ((invL c).map V.int)) ∧ f.gens.length ≤ 1000 ∧ f.fo.length ≤ 12 ∧ f.pend.length ≤ 100000 ∧
  ∀ H', ExM a.mut H H' → FlAt K H' a (f.rch y c) → Q .non H'
end KL
/-! methods with defaults; a default that is an empty tuple -/
namespace KL
open PySem PySem.Spec PyProof.Rows L2 GA GxR
theorem fun_ofDA {K : PySem.W.Frag} {x q : Str} {st : Stmt} {dvs : List V} {a : Addr} (h : ∃ fd, FunD K x q (defArgs st) (defBody st) (defScope st) dvs [] a fd) : FunD K x q (defArgs st) (defBody st) (defScope st) dvs [] a (fdA K a) := by
  obtain ⟨fd, F⟩ := h
  obtain ⟨oc, od, dV, kV, doc, pm, an, cdv, ct, osl, e, lk, hcd, hD, hK⟩ := F.ex
  have ef : fdA K a = fd := by
    unfold fdA
    rw [lk]
  rw [ef]
  exact F
/-- a def's first default is an empty tuple of the text -/
def dftB (K : PySem.W.Frag) (x : Str) : Bool := match K.lookup (He.dflAt (x, none) 0 K) with
  | some ⟨.type c, _, .seq its _, _⟩ => decide (c = "tuple") && decide (its.size = 0)
  | _ => false
theorem dft_ok {K : PySem.W.Frag} {x : Str} (h : dftB K x = true) (H : Hp) : SqT K H (He.dflAt (x, none) 0 K) [] := by
  unfold dftB at h
  cases q : K.lookup (He.dflAt (x, none) 0 K) with
  | none =>
    rw [q] at h
    cases h
  | some o =>
    obtain ⟨oc, od, dt, osl⟩ := o
    rw [q] at h
    cases oc with
    | type c =>
      cases dt with
      | seq its n =>
        obtain ⟨h1, h2⟩ := He.ba (show (decide (c = "tuple") && decide (its.size = 0)) = true from h)
        have h2 := of_decide_eq_true h2
        have hl : its.toList = [] := List.length_eq_zero_iff.mp (by rw [Array.length_toList]; exact h2)
        exact .inr ⟨_, its, n, q, congrArg Value.type (of_decide_eq_true h1), rfl, by rw [h2]; exact Nat.zero_le _, by rw [hl]; exact .nil⟩
      | _ => cases h
    | _ => cases dt <;> cases h
theorem pe_fldK {X : Cx} {K : PySem.W.Frag} {e : Expr} {f : Str} {ta : TE} {pos : Pos} (h : X.K = K) (he : PE X e ta) (hb : attributeBase e f X.env (eval e X.env) = eval e X.env) : PE X (.Attribute e f pos) (tFld K ta f) := by
  subst h
  exact pe_fld he hb
theorem eq_ints {K : PySem.W.Frag} {H : Hp} {a b : Addr} {p q : List Int} {Q : VK} (ha : H a = some (.tup (p.map V.int))) (hb : H b = some (.tup (q.map V.int))) (z : Q (.bl (decide (p = q))) H) : rEqD K (.ref a) (.ref b) H Q :=
  ⟨_, _, dpT_ints ha, dpT_ints hb, shapedT_ints p, shapedT_ints q, by rw [eqvT_ints]; exact z⟩
theorem ne_intsT {K : PySem.W.Frag} {H : Hp} {a b : Addr} {p q : List Int} {Q : VK} (ha : H a = some (.tup (p.map V.int))) (hb : H b = some (.tup (q.map V.int))) (z : Q (.bl (!decide (p = q))) H) : rNeD K (.ref a) (.ref b) H Q :=
  ⟨_, _, dpT_ints ha, dpT_ints hb, shapedT_ints p, shapedT_ints q, by rw [eqvT_ints]; exact z⟩
theorem taF_note (A : TA) : (taF A).lookup ("note" : Str) = none := by kernel_rfl
theorem taF_joined (A : TA) : (taF A).lookup ("joined" : Str) = none := by kernel_rfl
theorem taF_flipped (A : TA) : (taF A).lookup ("flipped" : Str) = none := by kernel_rfl
theorem taF_times (A : TA) : (taF A).lookup ("times" : Str) = none := by kernel_rfl
theorem taF_turned (A : TA) : (taF A).lookup ("turned" : Str) = none := by kernel_rfl
theorem flF_take (a : FA) (x : Nat) : (flF a x).lookup ("take" : Str) = none := by kernel_rfl
theorem flF_reach (a : FA) (x : Nat) : (flF a x).lookup ("reach" : Str) = none := by kernel_rfl
theorem TpAt.get {K : PySem.W.Frag} {n : Nat} {H : Hp} {A : TA} {L : List (List Int)} (h : TpAt K n H A L) {a : Addr} {p : List Int} (ha : H a = some (.tup (p.map V.int))) (m : p ∈ L) : ∃ i : Int, DGet H A.pl (.ref a) (some (.int i)) := by
  obtain ⟨kv, e2, ek, iv⟩ := h.pl
  have nk : keyI p ∈ kv.map Prod.fst := by rw [ek]; exact mem_keys.mpr m
  have ka : H a = some (.tup ((keyI p).map kV)) := by rw [keyI_at]; exact ha
  have s := valV_mem.mpr nk
  cases e : valV kv (keyI p) with
  | none => rw [e] at s; cases s
  | some v =>
    have m2 : ∃ kv' ∈ kv, kv'.2 = v := by
      unfold valV at e
      obtain ⟨q, hq, e3⟩ := Option.map_eq_some_iff.mp e
      exact ⟨q, List.mem_of_find?_eq_some hq, e3⟩
    obtain ⟨q, hq, e3⟩ := m2
    obtain ⟨i, ei⟩ := iv q hq
    refine ⟨i, .inr ⟨kv, keyI p, a, .inl e2, rfl, ka, ?_⟩⟩
    rw [e, ← e3, ei]
/-- making a tape: its own object alone changes, two new ones -/
def spTapeInit (K : PySem.W.Frag) : Sp := fun vs H Q _ => ∃ (t dx o g : Addr) (n : Nat) (As : List Addr) (gs : List (List Int)), vs = [.ref t, .ref o, .ref g] ∧ H t = some (.ins (He.ga K "Tape") dx []) ∧ H o = some (.tup ((unitL n).map V.int)) ∧ H g = some (.tup (As.map V.ref)) ∧ RowsAt H As gs ∧ gs.length ≤ 1000 ∧
  ∀ (A : TA) (H' : Hp) (L : List (List Int)), A.tp = t → A.one = o → ExM [t] H H' → H A.st = none → H A.pl = none → A.st ≠ A.pl → TpAt K n H' A L → (∀ g ∈ gs, g ∈ L) → L.length ≤ gs.length → Q .non H'
theorem putT1 (o : Addr) : putF "one" (.ref o) [] = ([("one", .ref o)] : List (Str × V)) := by kernel_rfl
theorem putT2 (o s : Addr) : putF "steps" (.ref s) [("one", .ref o)] = ([("one", .ref o), ("steps", .ref s)] : List (Str × V)) := by kernel_rfl
theorem putT3 (o s p : Addr) : putF "places" (.ref p) [("one", .ref o), ("steps", .ref s)] = ([("one", .ref o), ("steps", .ref s), ("places", .ref p)] : List (Str × V)) := by kernel_rfl
theorem ExM.no1 {t a : Addr} {H H1 : Hp} {o : HO} (x : ExM [t] H H1) (h1 : H1 t = some o) (n : H1 a = none) : H a = none := by
  have := x.no a n
  unfold wo at this
  by_cases c : a ∈ [t]
  · rw [List.mem_singleton.mp c] at n; rw [n] at h1; cases h1
  · rw [if_neg c] at this; exact this
def spFloorInit (K : PySem.W.Frag) : Sp := fun vs H Q _ => ∃ (x dx o : Addr) (n pt : Nat), vs = [.ref x, .int pt, .ref o] ∧ H x = some (.ins (He.ga K "Floor") dx []) ∧ H o = some (.tup ((unitL n).map V.int)) ∧
  ∀ (a : FA) (H' : Hp), a.fl = x → ExM [x] H H' → (∀ y ∈ a.mut, H y = none) → a.mut.Nodup → FlAt K H' a ⟨pt, [], [(pt, unitL n)], []⟩ → Q .non H'
theorem putW1 (p : Int) : putF "point" (.int p) [] = ([("point", .int p)] : List (Str × V)) := by kernel_rfl
theorem putW2 (p : Int) (g : Addr) : putF "generators" (.ref g) [("point", .int p)] = ([("point", .int p), ("generators", .ref g)] : List (Str × V)) := by kernel_rfl
theorem putW3 (p : Int) (g f : Addr) : putF "forth" (.ref f) [("point", .int p), ("generators", .ref g)] = ([("point", .int p), ("generators", .ref g), ("forth", .ref f)] : List (Str × V)) := by kernel_rfl
theorem putW4 (p : Int) (g f b : Addr) : putF "back" (.ref b) [("point", .int p), ("generators", .ref g), ("forth", .ref f)] = ([("point", .int p), ("generators", .ref g), ("forth", .ref f), ("back", .ref b)] : List (Str × V)) := by kernel_rfl
theorem putW5 (p : Int) (g f b q : Addr) : putF "pending" (.ref q) [("point", .int p), ("generators", .ref g), ("forth", .ref f), ("back", .ref b)] = ([("point", .int p), ("generators", .ref g), ("forth", .ref f), ("back", .ref b), ("pending", .ref q)] : List (Str × V)) := by kernel_rfl
theorem upd2 {H : Hp} {d : Addr} {u v : HO} : upd (upd H d u) d v = upd H d v := by
  funext a
  by_cases e : a = d
  · subst e
    rw [upd_same, upd_same]
  · rw [upd_ne e, upd_ne e, upd_ne e]
end KL
/-! towers in the heap; the promises of their methods -/
namespace KL
open PySem PySem.Spec PyProof.Rows L2 GA GxR
structure TW where
  tw : Addr
  dx : Addr
  lf : Addr
  one : Addr
  A : TA
  Fs : List FA
def twF (W : TW) : List (Str × V) := [("one", .ref W.one), ("is_blind", .bl false), ("tape", .ref W.A.tp), ("floors", .ref W.lf)]
def TW.mut (W : TW) : List Addr := W.A.mut ++ W.Fs.flatMap FA.mut
structure TwAt (K : PySem.W.Frag) (n : Nat) (H : Hp) (W : TW) (L : List (List Int)) (fs : List Flr) : Prop where
  ins : H W.tw = some (.ins (He.ga K "Tower") W.dx (twF W))
  tape : TpAt K n H W.A L
  tone : W.A.one = W.one
  lf : H W.lf = some (.lst ((W.Fs.map FA.fl).map V.ref))
  lfn : W.lf ∉ W.mut
  len : W.Fs.length = fs.length
  fl : ∀ (i : Nat) (a : FA) (f : Flr), W.Fs[i]? = some a → fs[i]? = some f → FlAt K H a f
  nd : W.mut.Nodup
theorem twF_one (W : TW) : (twF W).lookup ("one" : Str) = some (.ref W.one) := by kernel_rfl
theorem twF_tape (W : TW) : (twF W).lookup ("tape" : Str) = some (.ref W.A.tp) := by kernel_rfl
theorem twF_floors (W : TW) : (twF W).lookup ("floors" : Str) = some (.ref W.lf) := by kernel_rfl
theorem twF_sift (W : TW) : (twF W).lookup ("sift" : Str) = none := by kernel_rfl
theorem twF_take (W : TW) : (twF W).lookup ("take" : Str) = none := by kernel_rfl
theorem twF_settle (W : TW) : (twF W).lookup ("settle" : Str) = none := by kernel_rfl
theorem twF_try (W : TW) : (twF W).lookup ("try_pair" : Str) = none := by kernel_rfl
theorem twF_sizes (W : TW) : (twF W).lookup ("sizes" : Str) = none := by kernel_rfl
theorem twF_holds (W : TW) : (twF W).lookup ("holds" : Str) = none := by kernel_rfl
theorem twF_order (W : TW) : (twF W).lookup ("order" : Str) = none := by kernel_rfl
section
variable {K : PySem.W.Frag} {n : Nat} {H H1 : Hp} {M : List Addr} {W : TW} {L : List (List Int)} {fs : List Flr}
theorem TwAt.km (h : TwAt K n H W L fs) : KM H W.mut := fun x hx => by
  rcases List.mem_append.mp hx with hx | hx
  · exact h.tape.km x hx
  · obtain ⟨a, ha, hx⟩ := List.mem_flatMap.mp hx
    obtain ⟨i, hi, e⟩ := List.getElem_of_mem ha
    have ea : W.Fs[i]? = some a := by rw [List.getElem?_eq_getElem hi, e]
    have l := h.len
    have ef : fs[i]? = some fs[i] := List.getElem?_eq_getElem (by omega)
    exact (h.fl i a _ ea ef).km x hx
theorem TwAt.ex (x : Ex H H1) (h : TwAt K n H W L fs) : TwAt K n H1 W L fs :=
  ⟨x.st _ _ h.ins trivial, h.tape.ex x, h.tone, x.st _ _ h.lf refsM, h.lfn, h.len, fun i a f ha hf => (h.fl i a f ha hf).ex x, h.nd⟩
theorem TwAt.one_ (h : TwAt K n H W L fs) : H W.one = some (.tup ((unitL n).map V.int)) := by rw [← h.tone]; exact h.tape.one
theorem TwAt.stpl (h : TwAt K n H W L fs) : W.A.st ≠ W.A.pl := fun e => by
  have nd := (List.nodup_append.mp h.nd).1
  simp only [TA.mut, e] at nd
  exact absurd nd (by simp)
theorem TwAt.flnd (h : TwAt K n H W L fs) {i : Nat} {a : FA} (ha : W.Fs[i]? = some a) : a.mut.Nodup := by
  have nd := (List.nodup_append.mp h.nd).2.1
  exact (List.pairwise_flatMap.mp nd).1 a (List.mem_of_getElem? ha)
theorem TwAt.sub (h : TwAt K n H W L fs) {i : Nat} {a : FA} (ha : W.Fs[i]? = some a) : ∀ x ∈ a.mut, x ∈ W.mut := fun x hx => List.mem_append_right _ (List.mem_flatMap.mpr ⟨a, List.mem_of_getElem? ha, hx⟩)
theorem TwAt.subT (h : TwAt K n H W L fs) : ∀ x ∈ W.A.mut, x ∈ W.mut := fun x hx => List.mem_append_left _ hx
theorem TwAt.apart (h : TwAt K n H W L fs) {i j : Nat} {a b : FA} (ha : W.Fs[i]? = some a) (hb : W.Fs[j]? = some b) (ne : i ≠ j) : ∀ x ∈ a.mut, x ∉ b.mut := fun x hx hy => by
  have nd := (List.pairwise_flatMap.mp (List.nodup_append.mp h.nd).2.1).2
  have li := (List.getElem?_eq_some_iff.mp ha)
  have lj := (List.getElem?_eq_some_iff.mp hb)
  obtain ⟨l1, e1⟩ := li
  obtain ⟨l2, e2⟩ := lj
  rcases Nat.lt_or_gt_of_ne ne with c | c
  · exact List.pairwise_iff_getElem.mp nd i j l1 l2 c x (by rw [e1]; exact hx) x (by rw [e2]; exact hy) rfl
  · exact List.pairwise_iff_getElem.mp nd j i l2 l1 c x (by rw [e2]; exact hy) x (by rw [e1]; exact hx) rfl
theorem TwAt.apartT (h : TwAt K n H W L fs) {i : Nat} {a : FA} (ha : W.Fs[i]? = some a) : ∀ x ∈ a.mut, x ∉ W.A.mut := fun x hx hy =>
  (List.nodup_append.mp h.nd).2.2 x hy x (List.mem_flatMap.mpr ⟨a, List.mem_of_getElem? ha, hx⟩) rfl
/-- one floor changes -/
theorem TwAt.setFl (h : TwAt K n H W L fs) {i : Nat} {a : FA} {f : Flr} (ha : W.Fs[i]? = some a) (x : ExM a.mut H H1) (k : FlAt K H1 a f) : TwAt K n H1 W L (fs.set i f) := by
  have km : KM H a.mut := fun y hy => h.km y (h.sub ha y hy)
  refine ⟨x.at_ h.ins (km.no h.ins fun z => z) trivial, h.tape.exm x km fun y hy c => h.apartT ha y c hy, h.tone, x.at_ h.lf (fun c => h.lfn (h.sub ha _ c)) refsM, h.lfn, by rw [List.length_set]; exact h.len, fun j b g hb hg => ?_, h.nd⟩
  by_cases e : i = j
  · subst e
    rw [hb] at ha
    cases ha
    have l := (List.getElem?_eq_some_iff.mp hg).1
    rw [List.length_set] at l
    rw [List.getElem?_set_self l] at hg
    cases hg
    exact k
  · rw [List.getElem?_set_ne e] at hg
    exact (h.fl j b g hb hg).exm x km (h.apart hb ha (Ne.symm e))
/-- the tape changes -/
theorem TwAt.setTp (h : TwAt K n H W L fs) {L' : List (List Int)} (x : ExM W.A.mut H H1) (k : TpAt K n H1 W.A L') : TwAt K n H1 W L' fs := by
  have km : KM H W.A.mut := h.tape.km
  refine ⟨x.at_ h.ins (km.no h.ins fun z => z) trivial, k, h.tone, x.at_ h.lf (fun c => h.lfn (h.subT _ c)) refsM, h.lfn, h.len, fun j b g hb hg => (h.fl j b g hb hg).exm x km (h.apartT hb), h.nd⟩
end
/-- what is asked of a tower's state -/
structure TOk (n : Nat) (ins L : List (List Int)) (fs : List Flr) : Prop where
  inv : TInv n [] fs
  cov : Covers n (fs.map Flr.pt)
  n12 : n ≤ 12
  len : fs.length ≤ 12
  gb : ∀ f ∈ fs, f.gens.length + MB n fs ≤ 144
  pot : 3000 * (MB n fs + BB n fs) + 20 * PB fs ≤ 900000
  src : ∀ g ∈ upG fs, Wd n ins g
  ipm : ∀ g ∈ ins, IsPm n g
  has : ∀ f ∈ fs, (∀ g ∈ f.gens, Has n L g) ∧ ∀ c ∈ f.fo, Has n L c.2 ∧ Has n L (invL c.2)
  tl : L.length + 20 * (MB n fs + BB n fs) ≤ 20000
def spSift (K : PySem.W.Frag) : Sp := fun vs H Q _ => ∃ (W : TW) (n : Nat) (L : List (List Int)) (fs : List Flr) (a : Addr) (p : List Int) (start : Nat), vs = [.ref W.tw, .ref a, .int start] ∧ TwAt K n H W L fs ∧ (∃ bs, TInv n bs (fs.drop start)) ∧ n ≤ 12 ∧ fs.length ≤ 12 ∧ start ≤ fs.length ∧ Pm H a n p ∧
  ∀ (t b l : Addr) (Cs : List Addr) (H' : Hp), Ex H H' → H' t = some (.tup [.ref b, .int ((start + (siftF (fs.drop start) p).2.1 : Nat) : Int), .ref l]) → H' b = some (.tup ((siftF (fs.drop start) p).1.map V.int)) → H' l = some (.lst (Cs.map V.ref)) → RowsAt H' Cs (siftF (fs.drop start) p).2.2 → H l = none → Q (.ref t) H'
theorem siftF_len : ∀ (fs : List Flr) (p : List Int), (siftF fs p).2.2.length ≤ fs.length
  | [], p => Nat.le_refl _
  | f :: fs, p => by
    unfold siftF
    cases look f (imN p f.pt) with
    | none => exact Nat.zero_le _
    | some c =>
      by_cases k : imN p f.pt = f.pt
      · simp only [if_pos k]
        exact Nat.le_succ_of_le (siftF_len fs p)
      · simp only [if_neg k]
        exact Nat.succ_le_succ (siftF_len fs _)
theorem TInv.at_ {n : Nat} : ∀ {fs : List Flr} {bs : List Nat}, TInv n bs fs → ∀ (i : Nat) (f : Flr), fs[i]? = some f → ∃ bs' up, FInv n bs' f up
  | [], _, _, i, f, h => by cases h
  | g :: fs, bs, h, 0, f, e => by
    cases e
    exact ⟨bs, _, h.1⟩
  | g :: fs, bs, h, i + 1, f, e => TInv.at_ h.2 i f e
end KL
/-! Tower.take -/
namespace KL
open PySem PySem.Spec PyProof.Rows L2 GA GxR
/-- floors s to s + j - 1 take r -/
def plusR (r : List Int) : Nat → Nat → List Flr → List Flr
  | _, _, [] => []
  | s + 1, j, f :: fs => f :: plusR r s j fs
  | 0, 0, f :: fs => f :: fs
  | 0, j + 1, f :: fs => f.plus r :: plusR r 0 j fs
section
variable {r : List Int}
theorem plusR_zero : ∀ (s : Nat) (fs : List Flr), plusR r s 0 fs = fs
  | 0, [] => rfl
  | 0, f :: fs => rfl
  | s + 1, [] => rfl
  | s + 1, f :: fs => by
    show f :: plusR r s 0 fs = _
    rw [plusR_zero s fs]
theorem plusR_set : ∀ (s j : Nat) (fs : List Flr) (f : Flr), fs[s + j]? = some f → plusR r s (j + 1) fs = (plusR r s j fs).set (s + j) (f.plus r)
  | _, _, [], f, h => by cases h
  | s + 1, j, g :: fs, f, h => by
    show g :: plusR r s (j + 1) fs = (g :: plusR r s j fs).set (s + 1 + j) (f.plus r)
    rw [Nat.add_right_comm s 1 j] at h ⊢
    rw [List.set_cons_succ, plusR_set s j fs f h]
  | 0, 0, g :: fs, f, h => by
    cases h
    show g.plus r :: plusR r 0 0 fs = g.plus r :: fs
    rw [plusR_zero]
  | 0, j + 1, g :: fs, f, h => by
    have h : fs[0 + j]? = some f := by rw [Nat.zero_add]; rw [Nat.zero_add] at h; exact h
    have := plusR_set 0 j fs f h
    show g.plus r :: plusR r 0 (j + 1) fs = (g.plus r :: plusR r 0 j fs).set (0 + (j + 1)) (f.plus r)
    rw [show 0 + (j + 1) = (0 + j) + 1 by omega, List.set_cons_succ, this]
theorem plusR_get : ∀ (s j : Nat) (fs : List Flr), (plusR r s j fs)[s + j]? = fs[s + j]?
  | 0, 0, [] => rfl
  | 0, _ + 1, [] => rfl
  | _ + 1, _, [] => by unfold plusR; rfl
  | s + 1, j, g :: fs => by
    show (g :: plusR r s j fs)[s + 1 + j]? = _
    rw [Nat.add_right_comm s 1 j, List.getElem?_cons_succ, List.getElem?_cons_succ, plusR_get s j fs]
  | 0, 0, g :: fs => rfl
  | 0, j + 1, g :: fs => by
    show (g.plus r :: plusR r 0 j fs)[0 + (j + 1)]? = _
    rw [show 0 + (j + 1) = (0 + j) + 1 by omega, List.getElem?_cons_succ, List.getElem?_cons_succ, plusR_get 0 j fs]
theorem plusR_takeK : ∀ (k : Nat) (fs : List Flr), plusR r 0 (k + 1) fs = takeK k r fs
  | _, [] => by unfold plusR takeK; rfl
  | 0, f :: fs => by
    show f.plus r :: plusR r 0 0 fs = f.plus r :: fs
    rw [plusR_zero]
  | k + 1, f :: fs => by
    show f.plus r :: plusR r 0 (k + 1) fs = f.plus r :: takeK k r fs
    rw [plusR_takeK k fs]
theorem plusR_done : ∀ (s k : Nat) (fs : List Flr), plusR r s (k + 1) fs = fs.take s ++ takeK k r (fs.drop s)
  | 0, k, fs => plusR_takeK k fs
  | s + 1, k, [] => by unfold plusR takeK; rfl
  | s + 1, k, f :: fs => by
    show f :: plusR r s (k + 1) fs = f :: (fs.take s ++ takeK k r (fs.drop s))
    rw [plusR_done s k fs]
end
/-- what a tower becomes that takes p from floor s on -/
def takeS (n : Nat) (fs : List Flr) (s : Nat) (p : List Int) : List Flr := if (siftF (fs.drop s) p).1 = unitL n then fs else fs.take s ++ takeK (siftF (fs.drop s) p).2.1 (siftF (fs.drop s) p).1 (fs.drop s)
theorem siftF_from : ∀ {fs : List Flr} {p : List Int}, ∀ x ∈ (siftF fs p).2.2, ∃ f ∈ fs, ∃ c ∈ f.fo, x = invL c.2
  | [], p, x, h => by cases h
  | f :: fs, p, x, h => by
    unfold siftF at h
    cases e : look f (imN p f.pt) with
    | none =>
      rw [e] at h
      cases h
    | some c =>
      rw [e] at h
      by_cases k : imN p f.pt = f.pt
      · simp only [if_pos k] at h
        obtain ⟨g, hg, q⟩ := siftF_from (fs := fs) x h
        exact ⟨g, List.mem_cons_of_mem _ hg, q⟩
      · simp only [if_neg k] at h
        rcases List.mem_cons.mp h with h | h
        · exact ⟨f, List.mem_cons_self .., _, lookup_mem e, h⟩
        · obtain ⟨g, hg, q⟩ := siftF_from (fs := fs) x h
          exact ⟨g, List.mem_cons_of_mem _ hg, q⟩
/-- p that is left behind the last floor is the unit -/
theorem sift_end {n : Nat} {bs : List Nat} {fs : List Flr} {p : List Int} (s : SiftOk n bs fs p) (c : Covers n (bs ++ fs.map Flr.pt)) (ne : (siftF fs p).1 ≠ unitL n) : (siftF fs p).2.1 < fs.length := by
  apply Classical.byContradiction
  intro h
  have e : (siftF fs p).2.1 = fs.length := Nat.le_antisymm s.le (by omega)
  have fx := s.fix
  rw [e, List.take_of_length_le (Nat.le_refl _)] at fx
  refine ne (imN_ext s.pm (unit_pm n) fun x hx => ?_)
  rw [fx x (c x hx)]
  exact (imN_unit hx).symm
theorem TInv.drop {n : Nat} : ∀ {fs : List Flr} {bs : List Nat} (s : Nat), TInv n bs fs → TInv n (bs ++ (fs.take s).map Flr.pt) (fs.drop s)
  | fs, bs, 0, h => by
    show TInv n (bs ++ []) fs
    rw [List.append_nil]
    exact h
  | [], bs, s + 1, h => trivial
  | f :: fs, bs, s + 1, h => by
    have := TInv.drop s h.2
    rw [List.append_assoc] at this
    exact this
theorem TInv.pts {n : Nat} : ∀ {fs : List Flr} {bs : List Nat}, TInv n bs fs → ∀ f ∈ fs, f.pt < n
  | [], _, _, f, h => by cases h
  | g :: fs, bs, h, f, hf => by
    rcases List.mem_cons.mp hf with e | hf
    · rw [e]; exact h.1.pt
    · exact h.2.pts f hf
def spTowerTake (K : PySem.W.Frag) : Sp := fun vs H Q _ => ∃ (W : TW) (n : Nat) (L : List (List Int)) (fs : List Flr) (a : Addr) (p : List Int) (start : Nat), vs = [.ref W.tw, .ref a, .int start] ∧ TwAt K n H W L fs ∧ TInv n ((fs.take start).map Flr.pt) (fs.drop start) ∧ (∀ f ∈ fs, f.pt < n) ∧ Covers n (fs.map Flr.pt) ∧ n ≤ 12 ∧ fs.length ≤ 12 ∧ start ≤ fs.length ∧
  Pm H a n p ∧ fixes ((fs.take start).map Flr.pt) p ∧ Has n L p ∧ (∀ f ∈ fs, ∀ c ∈ f.fo, Has n L (invL c.2)) ∧ (∀ f ∈ fs, f.gens.length ≤ 1000 ∧ f.pend.length ≤ 90000) ∧ L.length ≤ 90000 ∧
  ∀ (H' : Hp) (L' : List (List Int)), ExM W.mut H H' → TwAt K n H' W L' (takeS n fs start p) → (∀ x ∈ L, x ∈ L') → L'.length ≤ L.length + 12 → Has n L' (siftF (fs.drop start) p).1 → ((siftF (fs.drop start) p).1 = unitL n → L' = L) → Q .non H'
theorem norow_of {N : List V} (h : ∀ x ∈ N, ∃ a, x = V.ref a) : ¬ RowO (.lst N) := fun ⟨s, i, j, k, e⟩ => by
  injection e with e
  obtain ⟨a, ha⟩ := h (.int i) (by rw [e]; simp)
  cases ha
theorem Has.more {n : Nat} {L L' : List (List Int)} {p : List Int} (h : Has n L p) (s : ∀ x ∈ L, x ∈ L') : Has n L' p := h.imp id (s p)
end KL
/-! a pair seen to: what becomes of the tower -/
namespace KL
open PySem PySem.Spec PyProof.Rows L2 GA GxR
theorem MB_app (n : Nat) (a b : List Flr) : MB n (a ++ b) = MB n a + MB n b := by unfold MB; rw [List.map_append, List.sum_append]
theorem BB_app (n : Nat) (a b : List Flr) : BB n (a ++ b) = BB n a + BB n b := by unfold BB; rw [List.map_append, List.sum_append]
theorem PB_app (a b : List Flr) : PB (a ++ b) = PB a + PB b := by unfold PB; rw [List.map_append, List.sum_append]
theorem MB_cons (n : Nat) (f : Flr) (b : List Flr) : MB n (f :: b) = (n - orbN n f) + MB n b := rfl
theorem BB_cons (n : Nat) (f : Flr) (b : List Flr) : BB n (f :: b) = (n - f.fo.length) + BB n b := rfl
theorem PB_cons (f : Flr) (b : List Flr) : PB (f :: b) = f.pend.length + PB b := rfl
noncomputable def pot (n : Nat) (fs : List Flr) : Nat := 3000 * (MB n fs + BB n fs) + 20 * PB fs
theorem upG_app {pre : List Flr} {f g : Flr} {a b : List Flr} (e : f.gens = g.gens) : upG (pre ++ f :: a) = upG (pre ++ g :: b) := by
  cases pre with
  | nil => exact e
  | cons h t => rfl
structure Moved (n : Nat) (ins L' : List (List Int)) (fs fs' : List Flr) : Prop where
  ok : TOk n ins L' fs'
  less : pot n fs' < pot n fs
  pts : fs'.map Flr.pt = fs.map Flr.pt
  wd : ∀ p, Wd n (upG fs) p → Wd n (upG fs') p
section
variable {n : Nat} {ins L L' : List (List Int)} {pre post : List Flr} {f : Flr} {pd : List (Nat × List Int)} {x : Nat} {g c : List Int}
theorem TOk.split (h : TOk n ins L (pre ++ f :: post)) : FInv n (pre.map Flr.pt) f (upG post) ∧ TInv n (pre.map Flr.pt ++ [f.pt]) post ∧ TPre n [] pre f.gens := by
  obtain ⟨h1, h2⟩ := TInv_app.mp h.inv
  rw [List.nil_append] at h2
  exact ⟨h2.1, h2.2, h1⟩
theorem TOk.bs (h : TOk n ins L (pre ++ f :: post)) : ∀ b ∈ pre.map Flr.pt, b < n := fun b m => by
  obtain ⟨q, hq, rfl⟩ := List.mem_map.mp m
  exact h.inv.pts q (List.mem_append_left _ hq)
theorem join_inv {f' : Flr} {post' : List Flr} (h1 : FInv n (pre.map Flr.pt) f' (upG post')) (h2 : TInv n (pre.map Flr.pt ++ [f'.pt]) post') (h3 : TPre n [] pre f'.gens) : TInv n [] (pre ++ f' :: post') := by
  refine TInv_app.mpr ⟨h3, ?_⟩
  rw [List.nil_append]
  exact ⟨h1, h2⟩
/-- the loop that a pair makes -/
structure LoopOk (n : Nat) (bs : List Nat) (f : Flr) (x : Nat) (g c : List Int) (d : Nat × List Int) : Prop where
  pm : IsPm n (mulL (mulL c g) (invL d.2))
  fx : fixes (bs ++ [f.pt]) (mulL (mulL c g) (invL d.2))
  wd : Wd n f.gens (mulL (mulL c g) (invL d.2))
theorem loop_ok {bs : List Nat} {up : List (List Int)} {d : Nat × List Int} (h : FInv n bs f up) (hb : ∀ b ∈ bs, b < n) (hg : g ∈ f.gens) (hc : (x, c) ∈ f.fo) (hd : d ∈ f.fo) (ed : imN g x = d.1) : LoopOk n bs f x g c d := by
  have pg := h.pm g hg
  obtain ⟨c1, c2, c3, c4⟩ := h.fo _ hc
  obtain ⟨d1, d2, d3, d4⟩ := h.fo _ hd
  have c1 : x < n := c1
  have c2 : IsPm n c := c2
  have c3 : imN c f.pt = x := c3
  have c4 : Wd n f.gens c := c4
  have pcg := mulL_pm c2 pg
  have pl := mulL_pm pcg (invL_pm d2)
  have w := (c4.step hg).mul h.pm (d4.inv h.pm)
  refine ⟨pl, fun b m => ?_, w⟩
  rcases List.mem_append.mp m with m | m
  · exact w.fix (hb b m) h.pm fun q hq => (h.gens q hq).2 b m
  · rw [List.mem_singleton.mp m, imN_mul pcg (invL_pm d2) h.pt, imN_mul c2 pg h.pt, c3, ed, ← d3]
    exact imN_inv d2 h.pt
theorem pop_moved {d : Nat × List Int} (h : TOk n ins L (pre ++ f :: post)) (e : f.pend = pd ++ [(x, g)]) (hc : (x, c) ∈ f.fo) (hd : d ∈ f.fo) (ed : imN g x = d.1) (w : Wd n (upG post) (mulL (mulL c g) (invL d.2))) : Moved n ins L (pre ++ f :: post) (pre ++ { f with pend := pd } :: post) := by
  obtain ⟨h1, h2, h3⟩ := h.split
  have k := h1.pop e hc hd ed w (fun _ h => h) h1.upw
  have pts : (pre ++ { f with pend := pd } :: post).map Flr.pt = (pre ++ f :: post).map Flr.pt := by rw [List.map_append, List.map_append]; rfl
  have em : MB n (pre ++ { f with pend := pd } :: post) = MB n (pre ++ f :: post) := by rw [MB_app, MB_app]; rfl
  have eb : BB n (pre ++ { f with pend := pd } :: post) = BB n (pre ++ f :: post) := by rw [BB_app, BB_app]; rfl
  have ep : PB (pre ++ { f with pend := pd } :: post) + 1 = PB (pre ++ f :: post) := by
    rw [PB_app, PB_app, PB_cons, PB_cons, e, List.length_append]
    show PB pre + (pd.length + PB post) + 1 = PB pre + (pd.length + 1 + PB post)
    omega
  have eu : upG (pre ++ { f with pend := pd } :: post) = upG (pre ++ f :: post) := upG_app rfl
  have po := h.pot
  refine ⟨⟨join_inv k h2 h3, by rw [pts]; exact h.cov, h.n12, by have := h.len; simp only [List.length_append, List.length_cons] at this ⊢; exact this, fun q hq => ?_, by rw [em, eb]; omega, by rw [eu]; exact h.src, h.ipm, fun q hq => ?_, by rw [em, eb]; exact h.tl⟩, by unfold pot; rw [em, eb]; omega, pts, by rw [eu]; exact fun _ w => w⟩
  · rw [em]
    rcases List.mem_append.mp hq with hq | hq
    · exact h.gb q (List.mem_append_left _ hq)
    · rcases List.mem_cons.mp hq with rfl | hq
      · exact h.gb f (List.mem_append_right _ (List.mem_cons_self ..))
      · exact h.gb q (List.mem_append_right _ (List.mem_cons_of_mem _ hq))
  · rcases List.mem_append.mp hq with hq | hq
    · exact h.has q (List.mem_append_left _ hq)
    · rcases List.mem_cons.mp hq with rfl | hq
      · exact h.has f (List.mem_append_right _ (List.mem_cons_self ..))
      · exact h.has q (List.mem_append_right _ (List.mem_cons_of_mem _ hq))
theorem reach_moved {y : Nat} (h : TOk n ins L (pre ++ f :: post)) (e : f.pend = pd ++ [(x, g)]) (hc : (x, c) ∈ f.fo) (ey : imN g x = y) (hy : y ∉ f.fo.map Prod.fst) (s : ∀ z ∈ L, z ∈ L') (l : L'.length ≤ L.length + 2) (b1 : Has n L' (mulL c g)) (b2 : Has n L' (invL (mulL c g))) :
    Moved n ins L' (pre ++ f :: post) (pre ++ Flr.rch { f with pend := pd } y (mulL c g) :: post) := by
  obtain ⟨h1, h2, h3⟩ := h.split
  have k := h1.reach e hc ey hy
  have lf := fo_len k
  have lf : (f.fo ++ [(y, mulL c g)]).length ≤ n := lf
  rw [List.length_append] at lf
  have lf : f.fo.length + 1 ≤ n := lf
  have gb0 := h.gb f (List.mem_append_right _ (List.mem_cons_self ..))
  have pts : (pre ++ Flr.rch { f with pend := pd } y (mulL c g) :: post).map Flr.pt = (pre ++ f :: post).map Flr.pt := by rw [List.map_append, List.map_append]; rfl
  have em : MB n (pre ++ Flr.rch { f with pend := pd } y (mulL c g) :: post) = MB n (pre ++ f :: post) := by rw [MB_app, MB_app]; rfl
  have eb : BB n (pre ++ Flr.rch { f with pend := pd } y (mulL c g) :: post) + 1 = BB n (pre ++ f :: post) := by
    rw [BB_app, BB_app, BB_cons, BB_cons]
    show BB n pre + ((n - (f.fo ++ [(y, mulL c g)]).length) + BB n post) + 1 = _
    rw [List.length_append]
    show BB n pre + ((n - (f.fo.length + 1)) + BB n post) + 1 = _
    omega
  have ep : PB (pre ++ Flr.rch { f with pend := pd } y (mulL c g) :: post) + 1 = PB (pre ++ f :: post) + f.gens.length := by
    rw [PB_app, PB_app, PB_cons, PB_cons, e, List.length_append]
    show PB pre + ((pd ++ f.gens.map fun g => (y, g)).length + PB post) + 1 = PB pre + (pd.length + 1 + PB post) + f.gens.length
    rw [List.length_append, List.length_map]
    omega
  have eu : upG (pre ++ Flr.rch { f with pend := pd } y (mulL c g) :: post) = upG (pre ++ f :: post) := upG_app rfl
  have po := h.pot
  have tl := h.tl
  have hasF := h.has
  refine ⟨⟨join_inv k h2 h3, by rw [pts]; exact h.cov, h.n12, by have := h.len; simp only [List.length_append, List.length_cons] at this ⊢; exact this, fun q hq => ?_, by rw [em]; omega, by rw [eu]; exact h.src, h.ipm, fun q hq => ?_, by rw [em]; omega⟩, by unfold pot; rw [em]; omega, pts, by rw [eu]; exact fun _ w => w⟩
  · rw [em]
    rcases List.mem_append.mp hq with hq | hq
    · exact h.gb q (List.mem_append_left _ hq)
    · rcases List.mem_cons.mp hq with rfl | hq
      · exact gb0
      · exact h.gb q (List.mem_append_right _ (List.mem_cons_of_mem _ hq))
  · have old : ∀ q ∈ pre ++ f :: post, (∀ g ∈ q.gens, Has n L' g) ∧ ∀ c ∈ q.fo, Has n L' c.2 ∧ Has n L' (invL c.2) := fun q hq => ⟨fun g hg => ((hasF q hq).1 g hg).more s, fun c hc => ⟨((hasF q hq).2 c hc).1.more s, ((hasF q hq).2 c hc).2.more s⟩⟩
    rcases List.mem_append.mp hq with hq | hq
    · exact old q (List.mem_append_left _ hq)
    · rcases List.mem_cons.mp hq with rfl | hq
      · have o := old f (List.mem_append_right _ (List.mem_cons_self ..))
        refine ⟨o.1, fun d hd => ?_⟩
        rcases List.mem_append.mp hd with hd | hd
        · exact o.2 d hd
        · rw [List.mem_singleton.mp hd]
          exact ⟨b1, b2⟩
      · exact old q (List.mem_append_right _ (List.mem_cons_of_mem _ hq))
theorem take_moved {d : Nat × List Int} (h : TOk n ins L (pre ++ f :: post)) (st : Still post) (e : f.pend = pd ++ [(x, g)]) (hc : (x, c) ∈ f.fo) (hd : d ∈ f.fo) (ed : imN g x = d.1)
    (ne : (siftF post (mulL (mulL c g) (invL d.2))).1 ≠ unitL n) (s : ∀ z ∈ L, z ∈ L') (l : L'.length ≤ L.length + 14) (b1 : Has n L' (siftF post (mulL (mulL c g) (invL d.2))).1) :
    Moved n ins L' (pre ++ f :: post) (pre ++ { f with pend := pd } :: takeK (siftF post (mulL (mulL c g) (invL d.2))).2.1 (siftF post (mulL (mulL c g) (invL d.2))).1 post) := by
  obtain ⟨h1, h2, h3⟩ := h.split
  have hg : g ∈ f.gens := (h1.pend (x, g) (by rw [e]; exact List.mem_append_right _ (List.mem_singleton.mpr rfl))).2
  have lo := loop_ok h1 h.bs hg hc hd ed
  have b2 := bs_snoc h.bs h1.pt
  have so := sift_ok h2 b2 lo.pm lo.fx
  have lk := sift_end so (by
    have c := h.cov
    rw [List.map_append] at c
    rw [List.append_assoc]
    exact c) ne
  have pn : post ≠ [] := fun q => by rw [q] at lk; cases lk
  have out := so.out
  have fxr := so.fix
  have rpm := so.pm
  have seq := so.eq
  have sfp := so.fpm
  have sfw := so.fwd
  generalize siftF post (mulL (mulL c g) (invL d.2)) = r at ne lk out fxr rpm seq sfp sfw b1 ⊢
  obtain ⟨rest, k, fac⟩ := r
  simp only at ne lk out fxr rpm seq sfp sfw b1 ⊢
  have i2 := takeK_inv (k := k) h2 rpm fxr
  have eu2 : upG (takeK k rest post) = upG post ++ [rest] := upG_takeK pn
  have pmU2 : ∀ q ∈ upG post ++ [rest], IsPm n q := fun q hq => by
    rcases List.mem_append.mp hq with hq | hq
    · exact (h2.upPm q hq).1
    · rw [List.mem_singleton.mp hq]; exact rpm
  have wl : Wd n (upG (takeK k rest post)) (mulL (mulL c g) (invL d.2)) := by
    rw [eu2]
    refine (fold_wd pmU2 lo.pm sfp fun q hq => (sfw q hq).more fun _ m => List.mem_append_left _ m).mp ?_
    rw [seq]
    exact Wd.of pmU2 (List.mem_append_right _ (List.mem_singleton.mpr rfl))
  have wr : Wd n f.gens rest := by
    rw [← seq]
    exact (fold_wd h1.pm lo.pm sfp fun q hq => (sfw q hq).sub h1.pm h1.upw).mpr lo.wd
  have kk := h1.pop e hc hd ed wl (fun q hq => by rw [eu2]; exact List.mem_append_left _ hq) fun q hq => by
    rw [eu2] at hq
    rcases List.mem_append.mp hq with hq | hq
    · exact h1.upw q hq
    · rw [List.mem_singleton.mp hq]; exact wr
  have pts : (pre ++ { f with pend := pd } :: takeK k rest post).map Flr.pt = (pre ++ f :: post).map Flr.pt := by
    rw [List.map_append, List.map_append, List.map_cons, List.map_cons, takeK_pts]
  have m1 := takeK_MB h2 b2 st rpm out lk
  have em : MB n (pre ++ { f with pend := pd } :: takeK k rest post) + 1 ≤ MB n (pre ++ f :: post) := by
    rw [MB_app, MB_app, MB_cons, MB_cons]
    show MB n pre + ((n - orbN n f) + MB n (takeK k rest post)) + 1 ≤ _
    omega
  have eb : BB n (pre ++ { f with pend := pd } :: takeK k rest post) = BB n (pre ++ f :: post) := by
    rw [BB_app, BB_app, BB_cons, BB_cons, takeK_BB]
  have lp : post.length ≤ 12 := by have := h.len; simp only [List.length_append, List.length_cons] at this; omega
  have p1 := takeK_PB (r := rest) (k := k) h2
  have p2 : n * post.length ≤ 144 := Nat.mul_le_mul h.n12 lp
  have ep : PB (pre ++ { f with pend := pd } :: takeK k rest post) + 1 ≤ PB (pre ++ f :: post) + 144 := by
    rw [PB_app, PB_app, PB_cons, PB_cons, e, List.length_append]
    show PB pre + (pd.length + PB (takeK k rest post)) + 1 ≤ PB pre + (pd.length + 1 + PB post) + 144
    omega
  have eu : upG (pre ++ { f with pend := pd } :: takeK k rest post) = upG (pre ++ f :: post) := upG_app rfl
  have po := h.pot
  have tl := h.tl
  have old : ∀ q ∈ pre ++ f :: post, (∀ g ∈ q.gens, Has n L' g) ∧ ∀ c ∈ q.fo, Has n L' c.2 ∧ Has n L' (invL c.2) := fun q hq => ⟨fun g hg => ((h.has q hq).1 g hg).more s, fun c hc => ⟨((h.has q hq).2 c hc).1.more s, ((h.has q hq).2 c hc).2.more s⟩⟩
  have hasT : ∀ (k : Nat) (ps : List Flr), (∀ q ∈ ps, (∀ g ∈ q.gens, Has n L' g) ∧ ∀ c ∈ q.fo, Has n L' c.2 ∧ Has n L' (invL c.2)) → ∀ q ∈ takeK k rest ps, (∀ g ∈ q.gens, Has n L' g) ∧ ∀ c ∈ q.fo, Has n L' c.2 ∧ Has n L' (invL c.2) := fun k ps => by
    induction ps generalizing k with
    | nil => intro _ q hq; unfold takeK at hq; cases hq
    | cons a ps ih =>
      intro ha q hq
      have plus : ∀ q, q = a.plus rest → (∀ g ∈ q.gens, Has n L' g) ∧ ∀ c ∈ q.fo, Has n L' c.2 ∧ Has n L' (invL c.2) := fun q e => by
        subst e
        have o := ha a (List.mem_cons_self ..)
        refine ⟨fun g hg => ?_, o.2⟩
        rcases List.mem_append.mp hg with hg | hg
        · exact o.1 g hg
        · rw [List.mem_singleton.mp hg]; exact b1
      cases k with
      | zero =>
        rcases List.mem_cons.mp hq with e | hq
        · exact plus q e
        · exact ha q (List.mem_cons_of_mem _ hq)
      | succ k =>
        rcases List.mem_cons.mp hq with e | hq
        · exact plus q e
        · exact ih k (fun q hq => ha q (List.mem_cons_of_mem _ hq)) q hq
  refine ⟨⟨join_inv kk i2 h3, by rw [pts]; exact h.cov, h.n12, by have := h.len; simp only [List.length_append, List.length_cons, takeK_len] at this ⊢; exact this, fun q hq => ?_, by rw [eb]; omega, by rw [eu]; exact h.src, h.ipm, fun q hq => ?_, by rw [eb]; omega⟩, by unfold pot; rw [eb]; omega, pts, by rw [eu]; exact fun _ w => w⟩
  · rcases List.mem_append.mp hq with hq | hq
    · have := h.gb q (List.mem_append_left _ hq)
      omega
    · rcases List.mem_cons.mp hq with rfl | hq
      · have := h.gb f (List.mem_append_right _ (List.mem_cons_self ..))
        show f.gens.length + _ ≤ 144
        omega
      · have gg : ∀ q ∈ post, q.gens.length ≤ 144 - MB n (pre ++ f :: post) := fun q hq => by
          have := h.gb q (List.mem_append_right _ (List.mem_cons_of_mem _ hq))
          omega
        have := takeK_gens (r := rest) (k := k) gg q hq
        have g0 := h.gb f (List.mem_append_right _ (List.mem_cons_self ..))
        omega
  · rcases List.mem_append.mp hq with hq | hq
    · exact old q (List.mem_append_left _ hq)
    · rcases List.mem_cons.mp hq with rfl | hq
      · exact old f (List.mem_append_right _ (List.mem_cons_self ..))
      · exact hasT k post (fun q hq => old q (List.mem_append_right _ (List.mem_cons_of_mem _ hq))) q hq
end
def spTryPair (K : PySem.W.Frag) : Sp := fun vs H Q _ => ∃ (W : TW) (n : Nat) (ins L : List (List Int)) (pre : List Flr) (f : Flr) (post : List Flr), vs = [.ref W.tw, .int (pre.length : Nat)] ∧ TwAt K n H W L (pre ++ f :: post) ∧ TOk n ins L (pre ++ f :: post) ∧ Still post ∧ f.pend ≠ [] ∧
  ∀ (H' : Hp) (L' : List (List Int)) (fs' : List Flr), ExM W.mut H H' → TwAt K n H' W L' fs' → Moved n ins L' (pre ++ f :: post) fs' → (∀ x ∈ L, x ∈ L') → Q .non H'
def spSettle (K : PySem.W.Frag) : Sp := fun vs H Q _ => ∃ (W : TW) (n : Nat) (ins L : List (List Int)) (fs : List Flr), vs = [.ref W.tw] ∧ TwAt K n H W L fs ∧ TOk n ins L fs ∧
  ∀ (H' : Hp) (L' : List (List Int)) (fs' : List Flr), ExM W.mut H H' → TwAt K n H' W L' fs' → TOk n ins L' fs' → Still fs' → fs'.map Flr.pt = fs.map Flr.pt → (∀ p, Wd n (upG fs) p → Wd n (upG fs') p) → (∀ p, Has n L p → Has n L' p) → Q .non H'
end KL
/-! towers begun -/
namespace KL
open PySem PySem.Spec PyProof.Rows L2 GA GxR
def flr0 (n b : Nat) : Flr := ⟨b, [], [(b, unitL n)], []⟩
theorem sum_le_mul {α : Type} (f : α → Nat) (m : Nat) : ∀ l : List α, (∀ x ∈ l, f x ≤ m) → (l.map f).sum ≤ m * l.length
  | [], _ => Nat.zero_le _
  | a :: l, h => by
    rw [List.map_cons, List.sum_cons, List.length_cons, Nat.mul_succ]
    have := sum_le_mul f m l fun x hx => h x (List.mem_cons_of_mem _ hx)
    have := h a (List.mem_cons_self ..)
    omega
theorem flr0_inv {n : Nat} : ∀ (bs : List Nat) (b0 : List Nat), (∀ b ∈ bs, b < n) → TInv n b0 (bs.map (flr0 n))
  | [], _, _ => trivial
  | b :: bs, b0, h => by
    have hb := h b (List.mem_cons_self ..)
    have eu : upG (bs.map (flr0 n)) = [] := by cases bs <;> rfl
    refine ⟨⟨hb, (fun _ h => by cases h), List.mem_cons_self .., ?_, fun c hc => ?_, (fun _ h => by cases h), (fun g hg => by rw [eu] at hg; cases hg), (fun _ _ _ h => by cases h)⟩, flr0_inv bs _ fun x hx => h x (List.mem_cons_of_mem _ hx)⟩
    · show [b].Nodup
      exact List.nodup_cons.mpr ⟨(by intro h; cases h), List.nodup_nil⟩
    · have hc : c = (b, unitL n) := List.mem_singleton.mp hc
      subst hc
      exact ⟨hb, unit_pm n, imN_unit hb, .one⟩
theorem init_ok {n : Nat} {ins L : List (List Int)} {bs : List Nat} (hb : ∀ b ∈ bs, b < n) (c : Covers n bs) (n12 : n ≤ 12) (l : bs.length ≤ 12) (ip : ∀ g ∈ ins, IsPm n g) (lL : L.length ≤ 1000) : TOk n ins L (bs.map (flr0 n)) ∧ Still (bs.map (flr0 n)) ∧ (bs.map (flr0 n)).map Flr.pt = bs := by
  have ep : (bs.map (flr0 n)).map Flr.pt = bs := by
    rw [List.map_map]
    exact List.map_id _
  have l2 : (bs.map (flr0 n)).length ≤ 12 := by rw [List.length_map]; exact l
  have m1 : MB n (bs.map (flr0 n)) ≤ 144 := by
    have := sum_le_mul (fun f => n - orbN n f) 12 (bs.map (flr0 n)) fun x _ => by show n - _ ≤ 12; omega
    unfold MB
    omega
  have m2 : BB n (bs.map (flr0 n)) ≤ 144 := by
    have := sum_le_mul (fun f => n - f.fo.length) 12 (bs.map (flr0 n)) fun x _ => by show n - _ ≤ 12; omega
    unfold BB
    omega
  have m3 : PB (bs.map (flr0 n)) = 0 := by
    unfold PB
    rw [List.map_map]
    generalize bs = l
    induction l with
    | nil => rfl
    | cons a l ih =>
      rw [List.map_cons, List.sum_cons, ih]
      rfl
  have eu : upG (bs.map (flr0 n)) = [] := by cases bs <;> rfl
  have each : ∀ f ∈ bs.map (flr0 n), ∃ b, f = flr0 n b := fun f hf => by
    obtain ⟨b, _, e⟩ := List.mem_map.mp hf
    exact ⟨b, e.symm⟩
  refine ⟨⟨flr0_inv bs [] hb, by rw [ep]; exact c, n12, l2, fun f hf => ?_, by omega, (by rw [eu]; intro _ h; cases h), ip, fun f hf => ?_, by omega⟩, fun f hf => ?_, ep⟩
  · obtain ⟨b, rfl⟩ := each f hf
    show 0 + _ ≤ 144
    omega
  · obtain ⟨b, rfl⟩ := each f hf
    refine ⟨(fun _ h => by cases h), fun c hc => ?_⟩
    have hc : c = (b, unitL n) := List.mem_singleton.mp hc
    subst hc
    exact ⟨.inl rfl, .inl invL_unit⟩
  · obtain ⟨b, rfl⟩ := each f hf
    rfl
theorem hasT {n : Nat} {L' : List (List Int)} {rest : List Int} (b1 : Has n L' rest) : ∀ (k : Nat) (ps : List Flr), (∀ q ∈ ps, (∀ g ∈ q.gens, Has n L' g) ∧ ∀ c ∈ q.fo, Has n L' c.2 ∧ Has n L' (invL c.2)) → ∀ q ∈ takeK k rest ps, (∀ g ∈ q.gens, Has n L' g) ∧ ∀ c ∈ q.fo, Has n L' c.2 ∧ Has n L' (invL c.2) := fun k ps => by
  induction ps generalizing k with
  | nil => intro _ q hq; unfold takeK at hq; cases hq
  | cons a ps ih =>
    intro ha q hq
    have plus : ∀ q, q = a.plus rest → (∀ g ∈ q.gens, Has n L' g) ∧ ∀ c ∈ q.fo, Has n L' c.2 ∧ Has n L' (invL c.2) := fun q e => by
      subst e
      have o := ha a (List.mem_cons_self ..)
      refine ⟨fun g hg => ?_, o.2⟩
      rcases List.mem_append.mp hg with hg | hg
      · exact o.1 g hg
      · rw [List.mem_singleton.mp hg]; exact b1
    cases k with
    | zero =>
      rcases List.mem_cons.mp hq with e | hq
      · exact plus q e
      · exact ha q (List.mem_cons_of_mem _ hq)
    | succ k =>
      rcases List.mem_cons.mp hq with e | hq
      · exact plus q e
      · exact ih k (fun q hq => ha q (List.mem_cons_of_mem _ hq)) q hq
/-- a generator of the group is taken by a tower that is still -/
theorem take0_moved {n : Nat} {ins L L' : List (List Int)} {fs : List Flr} {p : List Int} (h : TOk n ins L fs) (st : Still fs) (hp : p ∈ ins) (s : ∀ z ∈ L, z ∈ L') (l : L'.length ≤ L.length + 12) (b1 : Has n L' (siftF fs p).1) (b2 : (siftF fs p).1 = unitL n → L' = L) :
    TOk n ins L' (takeS n fs 0 p) ∧ (takeS n fs 0 p).map Flr.pt = fs.map Flr.pt ∧ Wd n (upG (takeS n fs 0 p)) p ∧ ∀ q, Wd n (upG fs) q → Wd n (upG (takeS n fs 0 p)) q := by
  have pm := h.ipm p hp
  have so := sift_ok h.inv (bs := []) (by intro _ h; cases h) pm (by intro _ h; cases h)
  have old : ∀ q ∈ fs, (∀ g ∈ q.gens, Has n L' g) ∧ ∀ c ∈ q.fo, Has n L' c.2 ∧ Has n L' (invL c.2) := fun q hq => ⟨fun g hg => ((h.has q hq).1 g hg).more s, fun c hc => ⟨((h.has q hq).2 c hc).1.more s, ((h.has q hq).2 c hc).2.more s⟩⟩
  have se := sift_end so (by rw [List.nil_append]; exact h.cov)
  have tl := so.tl
  have out := so.out
  have fxr := so.fix
  have rpm := so.pm
  have seq := so.eq
  have sfp := so.fpm
  have sfw := so.fwd
  have htl := h.tl
  have hpo := h.pot
  unfold takeS
  rw [List.drop_zero, List.take_zero, List.nil_append]
  generalize siftF fs p = r at se tl out fxr rpm seq sfp sfw b1 b2 ⊢
  obtain ⟨rest, k, fac⟩ := r
  simp only at se tl out fxr rpm seq sfp sfw b1 b2 ⊢
  by_cases ne : rest = unitL n
  · rw [if_pos ne]
    refine ⟨⟨h.inv, h.cov, h.n12, h.len, h.gb, h.pot, h.src, h.ipm, old, by rw [b2 ne]; exact htl⟩, rfl, TL_wd h.inv p (tl.mpr ne), fun _ w => w⟩
  · rw [if_neg ne]
    have lk : k < fs.length := se ne
    have pn : fs ≠ [] := fun q => by rw [q] at lk; cases lk
    have pts := takeK_pts k rest fs
    have i2 := takeK_inv (k := k) h.inv rpm fxr
    have eu2 : upG (takeK k rest fs) = upG fs ++ [rest] := upG_takeK pn
    have pmU2 : ∀ q ∈ upG fs ++ [rest], IsPm n q := fun q hq => by
      rcases List.mem_append.mp hq with hq | hq
      · exact (h.inv.upPm q hq).1
      · rw [List.mem_singleton.mp hq]; exact rpm
    have m1 := takeK_MB h.inv (by intro _ h; cases h) st rpm out lk
    have p1 := takeK_PB (r := rest) (k := k) h.inv
    have p2 : n * fs.length ≤ 144 := Nat.mul_le_mul h.n12 h.len
    have eb := takeK_BB (n := n) (r := rest) k fs
    have wr : Wd n ins rest := by
      rw [← seq]
      exact (fold_wd h.ipm pm sfp fun q hq => (sfw q hq).sub h.ipm h.src).mpr (Wd.of h.ipm hp)
    refine ⟨⟨i2, by rw [pts]; exact h.cov, h.n12, by rw [takeK_len]; exact h.len, fun q hq => ?_, by omega, fun q hq => ?_, h.ipm, hasT b1 k fs old, by omega⟩, pts, ?_, fun q w => w.more fun g hg => by rw [eu2]; exact List.mem_append_left _ hg⟩
    · have gg : ∀ q ∈ fs, q.gens.length ≤ 144 - MB n fs := fun q hq => by
        have := h.gb q hq
        omega
      have := takeK_gens (r := rest) (k := k) gg q hq
      obtain ⟨f0, t0, e0⟩ := List.exists_cons_of_ne_nil pn
      have g0 := h.gb f0 (by rw [e0]; exact List.mem_cons_self ..)
      omega
    · rw [eu2] at hq
      rcases List.mem_append.mp hq with hq | hq
      · exact h.src q hq
      · rw [List.mem_singleton.mp hq]; exact wr
    · rw [eu2]
      refine (fold_wd pmU2 pm sfp fun q hq => (sfw q hq).more fun _ m => List.mem_append_left _ m).mp ?_
      rw [seq]
      exact Wd.of pmU2 (List.mem_append_right _ (List.mem_singleton.mpr rfl))
theorem TOk.bnd {n : Nat} {ins L : List (List Int)} {fs : List Flr} (ok : TOk n ins L fs) : ∀ q ∈ fs, q.gens.length ≤ 1000 ∧ q.pend.length ≤ 90000 := fun q hq => by
  have g1 := ok.gb q hq
  have p1 : q.pend.length ≤ PB fs := by
    unfold PB
    have : ∀ (l : List Nat) (y : Nat), y ∈ l → y ≤ l.sum := fun l => by
      induction l with
      | nil => intro y h; cases h
      | cons a l ih =>
        intro y h
        rw [List.sum_cons]
        rcases List.mem_cons.mp h with e | h
        · omega
        · have := ih y h; omega
    exact this _ _ (List.mem_map.mpr ⟨q, hq, rfl⟩)
  have := ok.pot
  exact ⟨by omega, by omega⟩
def spTowerInit (K : PySem.W.Frag) : Sp := fun vs H Q _ => ∃ (x dx g pl : Addr) (n : Nat) (As : List Addr) (gs : List (List Int)) (bs : List Nat), vs = [.ref x, .int n, .ref g, .ref pl] ∧ H x = some (.ins (He.ga K "Tower") dx []) ∧ H g = some (.tup (As.map V.ref)) ∧ RowsAt H As gs ∧ (∀ p ∈ gs, IsPm n p) ∧ gs.length ≤ 1000 ∧ n ≤ 12 ∧
  H pl = some (.lst (bs.map fun b : Nat => V.int b)) ∧ (∀ b ∈ bs, b < n) ∧ Covers n bs ∧ bs.length ≤ 12 ∧
  ∀ (W : TW) (H' : Hp) (L : List (List Int)) (fs : List Flr), W.tw = x → ExM [x] H H' → TwAt K n H' W L fs → TOk n gs L fs → Still fs → fs.map Flr.pt = bs → (∀ p ∈ gs, Wd n (upG fs) p) → (∀ y ∈ W.mut, H y = none) → Q .non H'
theorem nat_norow {bs : List Nat} : ¬ RowO (.lst (bs.map fun b : Nat => V.int b)) := fun ⟨s, i, j, k, e⟩ => by
  injection e with e
  cases bs with
  | nil => cases e
  | cons a l => cases e
section
variable {K : PySem.W.Frag} {n : Nat} {H H1 : Hp} {t C dx : Addr} {fs : List (Str × V)}
theorem TpAt.x1 {A : TA} {L : List (List Int)} (x : ExM [t] H H1) (e : A.tp ≠ t) (ht : H t = some (.ins C dx fs)) (h : TpAt K n H A L) : TpAt K n H1 A L := by
  obtain ⟨As, e1, l⟩ := h.st
  obtain ⟨kv, e2, r⟩ := h.pl
  have k : ∀ {a : Addr}, a ≠ t → a ∉ [t] := fun n c => n (List.mem_singleton.mp c)
  exact ⟨x.at_ h.ins (k e) trivial, x.at_ h.one (k (ne_of h.one ht (by intro q; cases q))) trivial, ⟨As, x.at_ e1 (k (ne_of e1 ht (by intro q; cases q))) refsM, l⟩, ⟨kv, x.at_ e2 (k (ne_of e2 ht (by intro q; cases q))) trivial, r⟩⟩
theorem FlAt.x1 {a : FA} {f : Flr} (x : ExM [t] H H1) (e : a.fl ≠ t) (ht : H t = some (.ins C dx fs)) (h : FlAt K H a f) : FlAt K H1 a f := by
  obtain ⟨A1, e1, r1⟩ := h.gens
  obtain ⟨A2, e2, r2⟩ := h.fo
  obtain ⟨A3, e3, r3⟩ := h.ba
  obtain ⟨A4, e4, r4⟩ := h.pe
  have k : ∀ {a : Addr}, a ≠ t → a ∉ [t] := fun n c => n (List.mem_singleton.mp c)
  have tt : ∀ a xs, H a = some (.tup xs) → H1 a = some (.tup xs) := fun a xs e => x.at_ e (k (ne_of e ht (by intro q; cases q))) trivial
  exact ⟨x.at_ h.ins (k e) trivial, ⟨A1, x.at_ e1 (k (ne_of e1 ht (by intro q; cases q))) refsM, r1.kept tt⟩, ⟨A2, x.at_ e2 (k (ne_of e2 ht (by intro q; cases q))) trivial, r2.kept tt⟩, ⟨A3, x.at_ e3 (k (ne_of e3 ht (by intro q; cases q))) trivial, r3.kept tt⟩, ⟨A4, x.at_ e4 (k (ne_of e4 ht (by intro q; cases q))) refsM, r4.kept tt⟩⟩
end
theorem lkV1 (o : Addr) : ([("one", .ref o), ("is_blind", .bl false)] : List (Str × V)).lookup ("one" : Str) = some (.ref o) := by kernel_rfl
theorem lkV2 (o t : Addr) : ([("one", .ref o), ("is_blind", .bl false), ("tape", .ref t)] : List (Str × V)).lookup ("one" : Str) = some (.ref o) := by kernel_rfl
theorem putV1 (o : Addr) : putF "is_blind" (.bl false) [("one", .ref o)] = ([("one", .ref o), ("is_blind", .bl false)] : List (Str × V)) := by kernel_rfl
theorem putV2 (o t : Addr) : putF "tape" (.ref t) [("one", .ref o), ("is_blind", .bl false)] = ([("one", .ref o), ("is_blind", .bl false), ("tape", .ref t)] : List (Str × V)) := by kernel_rfl
theorem putV3 (o t l : Addr) : putF "floors" (.ref l) [("one", .ref o), ("is_blind", .bl false), ("tape", .ref t)] = ([("one", .ref o), ("is_blind", .bl false), ("tape", .ref t), ("floors", .ref l)] : List (Str × V)) := by kernel_rfl
end KL
/-! towers as they are told: what they hold -/
namespace KL
open PySem PySem.Spec PyProof.Rows L2 GA GxR
structure TwGood (K : PySem.W.Frag) (n : Nat) (H : Hp) (W : TW) (gs : List (List Int)) (fs : List Flr) : Prop where
  st : ∃ L, TwAt K n H W L fs ∧ TOk n gs L fs
  still : Still fs
  wd : ∀ p ∈ gs, Wd n (upG fs) p
section
variable {K : PySem.W.Frag} {n : Nat} {H H1 : Hp} {W : TW} {gs C : List (List Int)} {fs : List Flr} {p : List Int}
theorem TwGood.ex (x : Ex H H1) (h : TwGood K n H W gs fs) : TwGood K n H1 W gs fs := by
  obtain ⟨L, a, b⟩ := h.st
  exact ⟨⟨L, a.ex x, b⟩, h.still, h.wd⟩
theorem TwGood.pm (h : TwGood K n H W gs fs) : ∀ g ∈ gs, IsPm n g := by obtain ⟨_, _, b⟩ := h.st; exact b.ipm
theorem TwGood.mem (h : TwGood K n H W gs fs) : p ∈ TL n fs ↔ Wd n gs p := by
  obtain ⟨L, _, ok⟩ := h.st
  rw [still_ok ok.inv (by intro _ h; cases h) h.still]
  exact ⟨fun w => w.sub ok.ipm ok.src, fun w => w.sub (fun g hg => (ok.inv.upPm g hg).1) h.wd⟩
theorem TwGood.nd (h : TwGood K n H W gs fs) : (TL n fs).Nodup := by
  obtain ⟨L, _, ok⟩ := h.st
  exact TL_nd ok.inv (by intro _ h; cases h)
/-- the products are all elements, each once -/
theorem TwGood.perm (h : TwGood K n H W gs fs) (c : Clos n gs C) : (TL n fs).Perm C :=
  (List.perm_ext_iff_of_nodup h.nd c.nd).mpr fun p => by rw [h.mem, c.wd h.pm]
theorem TwGood.order (h : TwGood K n H W gs fs) (c : Clos n gs C) : (fs.map fun f => f.fo.length).foldr (· * ·) 1 = C.length := by
  rw [← TL_len (n := n), (h.perm c).length_eq]
end
theorem prod_snoc (a : Nat) : ∀ l : List Nat, (l ++ [a]).foldr (· * ·) 1 = l.foldr (· * ·) 1 * a
  | [] => by show a * 1 = 1 * a; omega
  | b :: l => by
    show b * (l ++ [a]).foldr (· * ·) 1 = b * l.foldr (· * ·) 1 * a
    rw [prod_snoc a l, Nat.mul_assoc]
theorem prod_le (m : Nat) : ∀ l : List Nat, (∀ x ∈ l, x ≤ m) → l.foldr (· * ·) 1 ≤ m ^ l.length
  | [], _ => Nat.le_refl _
  | a :: l, h => by
    show a * l.foldr (· * ·) 1 ≤ m ^ (l.length + 1)
    rw [Nat.pow_succ, Nat.mul_comm]
    exact Nat.mul_le_mul (prod_le m l fun x hx => h x (List.mem_cons_of_mem _ hx)) (h a (List.mem_cons_self ..))
theorem TOk.prod {n : Nat} {gs L : List (List Int)} {fs : List Flr} (ok : TOk n gs L fs) (j : Nat) : ((fs.take j).map fun f => f.fo.length).foldr (· * ·) 1 ≤ 8916100448256 := by
  have h := prod_le 12 ((fs.take j).map fun f => f.fo.length) fun x hx => by
    obtain ⟨f, hf, rfl⟩ := List.mem_map.mp hx
    obtain ⟨i, hi, e⟩ := List.getElem_of_mem (List.mem_of_mem_take hf)
    obtain ⟨_, _, F⟩ := ok.inv.at_ i f (by rw [List.getElem?_eq_getElem hi, e])
    have := fo_len F
    have := ok.n12
    omega
  have l : ((fs.take j).map fun f => f.fo.length).length ≤ 12 := by rw [List.length_map, List.length_take]; have := ok.len; omega
  exact Nat.le_trans h (Nat.le_trans (Nat.pow_le_pow_right (by omega) l) (by decide))
theorem inV_nat (x : Nat) : ∀ pre : List Nat, inV (.int x) (pre.map fun k : Nat => V.int k) = decide (x ∈ pre)
  | [] => rfl
  | k :: pre => by
    have ih := inV_nat x pre
    unfold inV at ih ⊢
    rw [List.map_cons, List.any_cons, ih, Bool.eq_iff_iff, Bool.or_eq_true, decide_eq_true_iff, decide_eq_true_iff, List.mem_cons]
    refine or_congr ?_ Iff.rfl
    show ((k : Int) == (x : Int)) = true ↔ x = k
    rw [beq_iff_eq]
    omega
theorem flat_nat (pre : List Nat) : (pre.map fun k : Nat => V.int k).all flatV = true := List.all_eq_true.mpr fun v hv => by
  obtain ⟨k, _, rfl⟩ := List.mem_map.mp hv
  rfl
def othersP (n : Nat) (pre : List Nat) : List Nat := (List.range n).filter fun x => decide (x ∉ pre)
theorem covers_others (n : Nat) (pre : List Nat) : Covers n (pre ++ othersP n pre) := fun x hx => by
  by_cases c : x ∈ pre
  · exact List.mem_append_left _ c
  · exact List.mem_append_right _ (List.mem_filter.mpr ⟨List.mem_range.mpr hx, decide_eq_true c⟩)
theorem others_len {n : Nat} {pre : List Nat} (nd : pre.Nodup) (bd : ∀ x ∈ pre, x < n) : (pre ++ othersP n pre).length ≤ n := by
  have ndA : (pre ++ othersP n pre).Nodup := List.nodup_append.mpr ⟨nd, (List.nodup_range.filter _), fun a ha b hb e => by
    subst e
    exact (of_decide_eq_true (List.mem_filter.mp hb).2) ha⟩
  have := llen_le_subN ndA (ns := List.range n) fun x hx => by
    rcases List.mem_append.mp hx with hx | hx
    · exact List.mem_range.mpr (bd x hx)
    · exact (List.mem_filter.mp hx).1
  rw [List.length_range] at this
  exact this
def spTowerOf (K : PySem.W.Frag) : Sp := fun vs H Q _ => ∃ (a b : Addr) (n : Nat) (gs : List (List Int)) (pre : List Nat), vs = [.ref a, .ref b] ∧ GrpAt H a n gs ∧ (∀ p ∈ gs, IsPm n p) ∧ gs.length ≤ 1000 ∧ n ≤ 12 ∧ SqT K H b (pre.map fun x : Nat => V.int x) ∧ pre.Nodup ∧ (∀ x ∈ pre, x < n) ∧
  ∀ (W : TW) (H' : Hp) (fs : List Flr), Ex H H' → TwGood K n H' W gs fs → fs.map Flr.pt = pre ++ othersP n pre → (∀ y ∈ W.tw :: W.mut, H y = none) → Q (.ref W.tw) H'
def spHolds (K : PySem.W.Frag) : Sp := fun vs H Q _ => ∃ (W : TW) (n : Nat) (gs : List (List Int)) (fs : List Flr) (a : Addr) (p : List Int) (b : Bool), vs = [.ref W.tw, .ref a] ∧ TwGood K n H W gs fs ∧ Pm H a n p ∧ (b = true ↔ Wd n gs p) ∧ ∀ H', Ex H H' → Q (.bl b) H'
def spSizes (K : PySem.W.Frag) : Sp := fun vs H Q _ => ∃ (W : TW) (n : Nat) (gs : List (List Int)) (fs : List Flr), vs = [.ref W.tw] ∧ TwGood K n H W gs fs ∧ ∀ (c : Addr) H', Ex H H' → H' c = some (.lst (fs.map fun f : Flr => V.int (f.fo.length : Nat))) → Q (.ref c) H'
def spOrderT (K : PySem.W.Frag) : Sp := fun vs H Q _ => ∃ (W : TW) (n : Nat) (gs : List (List Int)) (fs : List Flr), vs = [.ref W.tw] ∧ TwGood K n H W gs fs ∧ ∀ H', Ex H H' → Q (.int ((fs.map fun f => f.fo.length).foldr (· * ·) 1 : Nat)) H'
end KL
/-! the least of a coset; keyword-only parameters -/
namespace KL
open PySem PySem.Spec PyProof.Rows L2 GA GxR
theorem _root_.L2.FunD.okK {P : Program} {w : World} {K : PySem.W.Frag} {mg : Str → Option Value} {base : Heap} {x q : Str} {st : Stmt} {dvs : List V} {kws : List (Str × V)} {N ps : List Str} {k : Nat} {sp : Sp} {a : Addr} {fd : FuncData} (F : FunD K x q (defArgs st) (defBody st) (defScope st) dvs kws a fd) (S : FnScope N ps (defScope st)) (len : ∀ vs H Q E, sp vs H Q E → vs.length = ps.length)
    (hbody : ∀ (cdv : Value) (A : Around) (outer : List Env) (s : Shared) (H : Hp) (vs : List V) (Q : VK) (E : XK), Room k (A.deeper (envOfC q (defScope st) s.heap.objs.size a cdv)) → sp vs H Q E →
      ∃ t, PSs (cxOf CX0 P w K mg base N q (defScope st) a cdv A outer s H E).nox (defBody st) t ∧ t { nx := fun _ H' => Q .non H', rt := Q } (start N vs) H) : FnOk P w K mg base CX0 (k + 1) a fd ps sp :=
  F.ok S len fun cdv A outer s H vs Q E hr hsp => let ⟨t, h, q⟩ := hbody cdv A outer s H vs Q E hr hsp; ⟨t, h.nox, q⟩
/-- all keyword-only parameters are written by their names -/
theorem _root_.L2.FunD.kwF {K : PySem.W.Frag} {x qual : Str} {params : Arguments} {body : List Stmt} {scope : Scope} {kws : List (Str × V)} {f : Addr} {fd : FuncData} {ps : List Str} (F : FunD K x qual params body scope [] kws f fd) (n : Nat) (ks : List Str)
    (h : ∀ (kV doc pm : Value) (an : Option Addr) (cdv ct : Value) (us ws : List Value), us.length = n → ws.length = ks.length → bindArgs (PySem.W.fnOf x qual params body scope .none kV doc pm an cdv ct) ⟨us, ks.zip ws⟩ = pure (ps.zip (us ++ ws))) : KBn K fd ps n ks (fun us ws => us ++ ws) (fun vs zs => vs ++ zs) := by
  obtain ⟨oc, od, dV, kV, doc, pm, an, cdv, ct, osl, rfl, lk, hcd, hD, hK⟩ := F.ex
  rcases hD with ⟨_, rfl⟩ | ⟨e, _⟩
  · exact ⟨fun s us ws X l1 l2 => .of_eq (h kV doc pm an cdv ct us ws l1 l2), fun r1 r2 => r1.append r2⟩
  · exact absurd rfl e
theorem fun_ofDK {K : PySem.W.Frag} {x q : Str} {st : Stmt} {dvs : List V} {kws : List (Str × V)} (h : ∃ fd, FunD K x q (defArgs st) (defBody st) (defScope st) dvs kws (He.ga K x) fd) : FunD K x q (defArgs st) (defBody st) (defScope st) dvs kws (He.ga K x) (fdK K x) := by
  obtain ⟨fd, F⟩ := h
  obtain ⟨oc, od, dV, kV, doc, pm, an, cdv, ct, osl, e, lk, hcd, hD, hK⟩ := F.ex
  have ef : fdK K x = fd := by
    unfold fdK
    rw [lk]
  rw [ef]
  exact F
theorem inLD {X : Cx} {K : PySem.W.Frag} (e : X.K = K) {k : Nat} (hr : Room k X.A) : OpR X (compareOp .In) (rInD K) := by
  subst e
  exact op_inD (by have := hr.un; omega)
/-- v in a list of rows -/
theorem in_rowsL {K : PySem.W.Frag} {H : Hp} {b l : Addr} {As : List Addr} {R : List (List Int)} {v : List Int} {Q : VK} (hb : H b = some (.tup (v.map V.int))) (hl : SqL K H l (As.map V.ref)) (hR : RowsAt H As R) (q : Q (.bl (decide (v ∈ R))) H) : rInD K (.ref b) (.ref l) H Q :=
  ⟨rowD v, R.map rowD, dpT_ints hb, .lst hl (dpAll_rows hR), shapedT_ints v, shaped_rows R, by rw [rows_any]; exact q⟩
/-- a dict that was locked and is let again -/
theorem Ex.relock {H H1 : Hp} {t : Addr} {kv : List (L2.Key × V)} (x : ExM [t] H H1) (h : H t = some (.dK kv)) (h1 : H1 t = some (.dK kv)) : Ex H H1 := by
  refine ⟨fun a o e s => ?_, fun P e => ?_, fun r s e => ?_, fun a e => ?_⟩
  · by_cases c : a = t
    · subst c; rw [h] at e; rw [← e]; exact h1
    · exact x.at_ e (fun q => c (List.mem_singleton.mp q)) s
  · obtain ⟨ps, e1, t1⟩ := e
    have c : P ∉ [t] := fun q => by rw [List.mem_singleton.mp q, h] at e1; cases e1
    exact x.tab P ⟨ps, by rw [wo_of c]; exact e1, t1⟩
  · obtain ⟨i, j, k, e1, t1⟩ := e
    have c : r ∉ [t] := fun q => by rw [List.mem_singleton.mp q, h] at e1; cases e1
    exact x.row r s ⟨i, j, k, by rw [wo_of c]; exact e1, t1⟩
  · have := x.no a e
    by_cases c : a ∈ [t]
    · rw [List.mem_singleton.mp c, h1] at e; cases e
    · rw [wo_of c] at this; exact this
/-! ### the least -/
/-- floor by floor a carrier whose point p moves least -/
inductive LeastRun : List Flr → List Int → List Int → Prop
  | nil {p : List Int} : LeastRun [] p p
  | cons {f : Flr} {fs : List Flr} {p r : List Int} {c : Nat × List Int} : c ∈ f.fo → (∀ d ∈ f.fo, imN p c.1 ≤ imN p d.1) → LeastRun fs (mulL c.2 p) r → LeastRun (f :: fs) p r
section
variable {n : Nat} {bs : List Nat} {fs : List Flr} {q r : List Int}
def imgs (p : List Int) (bs : List Nat) : List Int := bs.map fun b => (imN p b : Int)
theorem least_ok : ∀ {fs : List Flr} {bs : List Nat} {q r : List Int}, LeastRun fs q r → TInv n bs fs → (∀ b ∈ bs, b < n) → IsPm n q →
    IsPm n r ∧ (∃ s ∈ TL n fs, r = mulL s q) ∧ ∀ t ∈ TL n fs, HT.lexLt (imgs (mulL t q) (fs.map Flr.pt)) (imgs r (fs.map Flr.pt)) = false
  | [], bs, q, _, .nil, h, hb, hq => ⟨hq, ⟨unitL n, List.mem_singleton.mpr rfl, (unit_mulL hq).symm⟩, fun t _ => rfl⟩
  | f :: fs, bs, q, r, .cons (c := c) hc hl run, h, hb, hq => by
    have b2 := bs_snoc hb h.1.pt
    obtain ⟨c1, c2, c3, c4⟩ := h.1.fo c hc
    obtain ⟨pr, ⟨s, hs, er⟩, least⟩ := least_ok run h.2 b2 (mulL_pm c2 hq)
    have ps := TL_pm h.2 hs
    have rpt : imN r f.pt = imN q c.1 := by
      rw [er, imN_mul ps (mulL_pm c2 hq) h.1.pt, TL_fix h.2 hs b2 f.pt (List.mem_append_right _ (List.mem_singleton.mpr rfl)), imN_mul c2 hq h.1.pt, c3]
    refine ⟨pr, ⟨mulL s c.2, mem_TL.mpr ⟨s, hs, c, hc, rfl⟩, by rw [er, mulL_assoc ps c2 hq]⟩, fun t ht => ?_⟩
    obtain ⟨t', ht', d, hd, rfl⟩ := mem_TL.mp ht
    obtain ⟨d1, d2, d3, d4⟩ := h.1.fo d hd
    have pt' := TL_pm h.2 ht'
    have tpt : imN (mulL (mulL t' d.2) q) f.pt = imN q d.1 := by
      rw [imN_mul (mulL_pm pt' d2) hq h.1.pt, TL_im h hb ht' hd]
    show HT.lexLt ((imN (mulL (mulL t' d.2) q) f.pt : Int) :: imgs (mulL (mulL t' d.2) q) (fs.map Flr.pt)) ((imN r f.pt : Int) :: imgs r (fs.map Flr.pt)) = false
    rw [HT.lexLt_cons, tpt, rpt]
    by_cases e : imN q d.1 = imN q c.1
    · have e1 := imN_inj hq d1 c1 e
      have ed := fo_one h.1 hd hc e1
      subst ed
      rw [if_pos rfl, mulL_assoc pt' d2 hq]
      exact least t' ht'
    · have := hl d hd
      rw [if_neg (by omega)]
      exact decide_eq_false (by omega)
end
/-- all points, in order: the images are the permutation -/
theorem imgs_all {n : Nat} {p : List Int} (hp : IsPm n p) : imgs p (List.range n) = p := by
  refine List.ext_getElem? fun i => ?_
  unfold imgs
  rw [List.getElem?_map]
  by_cases h : i < n
  · rw [List.getElem?_range h]
    exact (imN_at hp h).1.symm
  · rw [List.getElem?_eq_none (by rw [List.length_range]; omega), List.getElem?_eq_none (by rw [hp.len]; omega)]
    rfl
def natsOf (p : List Int) : List Nat := p.map Int.toNat
theorem imgs_of {n : Nat} {p r : List Int} (hp : IsPm n p) (hr : IsPm n r) : imgs r (natsOf p) = mulL p r := by
  unfold imgs natsOf mulL
  rw [List.map_map]
  refine List.map_congr_left fun x hx => ?_
  obtain ⟨x0, x1⟩ := hp.bd x hx
  show (imN r x.toNat : Int) = r.getD x.toNat 0
  rw [getD_of (imN_at hr (by omega : x.toNat < n)).1]
theorem nats_int {n : Nat} {p : List Int} (hp : IsPm n p) : (natsOf p).map (fun x : Nat => V.int x) = p.map V.int := by
  unfold natsOf
  rw [List.map_map]
  refine List.map_congr_left fun x hx => ?_
  have := (hp.bd x hx).1
  show V.int (x.toNat : Nat) = V.int x
  rw [Int.toNat_of_nonneg this]
theorem nats_all {n : Nat} {p : List Int} (hp : IsPm n p) : othersP n (natsOf p) = [] := List.filter_eq_nil_iff.mpr fun x hx => by
  obtain ⟨j, hj, e⟩ := hp.onto (List.mem_range.mp hx)
  have m : x ∈ natsOf p := List.mem_map.mpr ⟨(x : Int), List.mem_of_getElem? e, by omega⟩
  simp [m]
theorem nats_nd {n : Nat} {p : List Int} (hp : IsPm n p) : (natsOf p).Nodup := by
  unfold natsOf
  refine List.pairwise_map.mpr (List.Pairwise.imp_of_mem (fun {a b} ha hb ne e => ne ?_) hp.nd)
  have := (hp.bd a ha).1
  have := (hp.bd b hb).1
  omega
theorem nats_bd {n : Nat} {p : List Int} (hp : IsPm n p) : ∀ x ∈ natsOf p, x < n := fun x hx => by
  obtain ⟨y, hy, rfl⟩ := List.mem_map.mp hx
  have := hp.bd y hy
  omega
theorem others_nil (n : Nat) : [] ++ othersP n [] = List.range n := by
  rw [List.nil_append]
  exact List.filter_eq_self.mpr fun x _ => by simp
/-- the least of a row of permutations -/
def IsLeast (R : List (List Int)) (m : List Int) : Prop := m ∈ R ∧ ∀ y ∈ R, HT.lexLt y m = false
theorem IsLeast.one {R : List (List Int)} {m k : List Int} (h : IsLeast R m) (j : IsLeast R k) (l : ∀ x ∈ R, ∀ y ∈ R, x.length = y.length) : m = k := lex_anti (l m h.1 k j.1) (j.2 m h.1) (h.2 k j.1)
def spTowerG (K : PySem.W.Frag) : Sp := fun vs H Q _ => ∃ (a b : Addr) (n : Nat) (gs : List (List Int)) (p : List Int), vs = [.ref a, .ref b] ∧ GrpAt H a n gs ∧ (∀ g ∈ gs, IsPm n g) ∧ Pm H b n p ∧ 1 ≤ n ∧ n ≤ 12 ∧ gs.length ≤ 12 ∧ TabG H (PP K) ∧
  ∀ (W : TW) (H' : Hp) (fs : List Flr), Ex H H' → TwGood K n H' W gs fs → fs.map Flr.pt = List.range n → Q (.ref W.tw) H'
def spLeastT (K : PySem.W.Frag) : Sp := fun vs H Q _ => ∃ (W : TW) (a : Addr) (n : Nat) (gs : List (List Int)) (fs : List Flr) (p : List Int), vs = [.ref W.tw, .ref a] ∧ TwGood K n H W gs fs ∧ Pm H a n p ∧
  ∀ (c : Addr) (H' : Hp) (r : List Int), Ex H H' → LeastRun fs p r → Pm H' c n r → Q (.ref c) H'
def spLeastCoset (K : PySem.W.Frag) : Sp := fun vs H Q _ => ∃ (a b : Addr) (n : Nat) (gs C : List (List Int)) (p : List Int) (left : Bool), vs = [.ref a, .ref b, .bl left] ∧ GrpAt H a n gs ∧ (∀ g ∈ gs, IsPm n g) ∧ Clos n gs C ∧ Pm H b n p ∧ 1 ≤ n ∧ n ≤ 12 ∧ gs.length ≤ 12 ∧ TabG H (PP K) ∧
  ∀ (c : Addr) (H' : Hp) (r : List Int), Ex H H' → Pm H' c n r → IsLeast (C.map fun t => if left = true then mulL p t else mulL t p) r → Q (.ref c) H'
def spSameCoset (K : PySem.W.Frag) : Sp := fun vs H Q _ => ∃ (a b d : Addr) (n : Nat) (gs C : List (List Int)) (p q : List Int) (left : Bool), vs = [.ref a, .ref b, .ref d, .bl left] ∧ GrpAt H a n gs ∧ (∀ g ∈ gs, IsPm n g) ∧ Clos n gs C ∧ Pm H b n p ∧ Pm H d n q ∧ 1 ≤ n ∧ n ≤ 12 ∧ gs.length ≤ 12 ∧ TabG H (PP K) ∧
  ∀ H', Ex H H' → Q (.bl (decide (q ∈ C.map fun t => if left = true then mulL p t else mulL t p))) H'
end KL
/-! cosets -/
namespace KL
open PySem PySem.Spec PyProof.Rows L2 GA GxR
def cos (left : Bool) (C : List (List Int)) (p : List Int) : List (List Int) := C.map fun t => if left = true then mulL p t else mulL t p
section
variable {n : Nat} {gs C : List (List Int)} {p q r m : List Int} {left : Bool}
theorem cos_pm (cl : Clos n gs C) (hp : IsPm n p) : ∀ y ∈ cos left C p, IsPm n y := fun y hy => by
  obtain ⟨t, ht, rfl⟩ := List.mem_map.mp hy
  cases left with
  | true => exact mulL_pm hp (cl.pm t ht)
  | false => exact mulL_pm (cl.pm t ht) hp
theorem cos_self (cl : Clos n gs C) (hp : IsPm n p) : p ∈ cos left C p := by
  cases left with
  | true => exact List.mem_map.mpr ⟨_, cl.one, mulL_unit hp⟩
  | false => exact List.mem_map.mpr ⟨_, cl.one, unit_mulL hp⟩
theorem cos_sub (cl : Clos n gs C) (ipm : ∀ g ∈ gs, IsPm n g) (hp : IsPm n p) (h : q ∈ cos left C p) : ∀ y ∈ cos left C q, y ∈ cos left C p := fun y hy => by
  obtain ⟨t, ht, rfl⟩ := List.mem_map.mp h
  obtain ⟨s, hs, rfl⟩ := List.mem_map.mp hy
  cases left with
  | true =>
    show mulL (mulL p t) s ∈ _
    rw [mulL_assoc hp (cl.pm t ht) (cl.pm s hs)]
    exact List.mem_map.mpr ⟨_, cl.mul ipm ht hs, rfl⟩
  | false =>
    show mulL s (mulL t p) ∈ _
    rw [← mulL_assoc (cl.pm s hs) (cl.pm t ht) hp]
    exact List.mem_map.mpr ⟨_, cl.mul ipm hs ht, rfl⟩
theorem cos_swap (cl : Clos n gs C) (ipm : ∀ g ∈ gs, IsPm n g) (hp : IsPm n p) (h : q ∈ cos left C p) : p ∈ cos left C q := by
  obtain ⟨t, ht, rfl⟩ := List.mem_map.mp h
  have pt := cl.pm t ht
  refine List.mem_map.mpr ⟨invL t, cl.inv ipm ht, ?_⟩
  cases left with
  | true =>
    show mulL (mulL p t) (invL t) = p
    rw [mulL_assoc hp pt (invL_pm pt), mul_inv pt, mulL_unit hp]
  | false =>
    show mulL (invL t) (mulL t p) = p
    rw [← mulL_assoc (invL_pm pt) pt hp, inv_mulL pt, unit_mulL hp]
theorem cos_iff (cl : Clos n gs C) (ipm : ∀ g ∈ gs, IsPm n g) (hp : IsPm n p) (hq : IsPm n q) : q ∈ cos left C p ↔ p ∈ cos left C q := ⟨cos_swap cl ipm hp, cos_swap cl ipm hq⟩
theorem cos_least (cl : Clos n gs C) (ipm : ∀ g ∈ gs, IsPm n g) (hp : IsPm n p) (hq : IsPm n q) (hr : IsLeast (cos left C q) r) (hm : IsLeast (cos left C p) m) : r = m ↔ q ∈ cos left C p := by
  constructor
  · intro e
    subst e
    have h1 := cos_swap cl ipm hq hr.1
    have h2 := cos_sub cl ipm hp hm.1
    exact h2 q h1
  · intro h
    have h2 := cos_sub cl ipm hp h
    have h3 := cos_sub cl ipm hq (cos_swap cl ipm hp h)
    refine IsLeast.one (R := cos left C p) ⟨h2 r hr.1, fun y hy => hr.2 y (h3 y hy)⟩ hm fun x hx y hy => ?_
    rw [(cos_pm cl hp x hx).len, (cos_pm cl hp y hy).len]
end
theorem GrpAt.fst {H : Hp} {a : Addr} {n : Nat} {gs : List (List Int)} (h : GrpAt H a n gs) : ∃ (g : Addr) (As : List Addr), H a = some (.tup [.int n, .ref g]) ∧ H g = some (.tup (As.map V.ref)) ∧ RowsAt H As gs := by
  obtain ⟨g, As, h1, h2, h3⟩ := h
  exact ⟨g, As, h1, h2, h3⟩
def spAlikeB : Sp := fun vs H Q _ => ∃ (x y : Bool), vs = [.bl x, .bl y] ∧ ∀ H', Ex H H' → Q (.bl (decide (x = y))) H'
theorem tyx_bl {K : PySem.W.Frag} {H : Hp} (b : Bool) : TyX K H (.bl b) (.type "bool") := .base (.bl b)
end KL
/-! comprehensions of two clauses; all elements listed -/
namespace KL
open PySem PySem.Spec PyProof.Rows L2 GA GxR
/-- the object that a keyword-only parameter has as its default -/
def kwA (x k : Str) (K : PySem.W.Frag) : Addr := match K.lookup (He.ga K x) with
  | some ⟨_, _, .func fd, _⟩ => (match fd.kwdefaults with
    | .ref D => (match PySem.W.nsIn K D k with
      | some (some (.ref b)) => b
      | _ => 0)
    | _ => 0)
  | _ => 0
def emB (K : PySem.W.Frag) (a : Addr) : Bool := match K.lookup a with
  | some ⟨.type c, _, .seq its _, _⟩ => decide (c = "tuple") && decide (its.size = 0)
  | _ => false
theorem em_ok {K : PySem.W.Frag} {a : Addr} (h : emB K a = true) (H : Hp) : SqT K H a [] := by
  unfold emB at h
  cases q : K.lookup a with
  | none =>
    rw [q] at h
    cases h
  | some o =>
    obtain ⟨oc, od, dt, osl⟩ := o
    rw [q] at h
    cases oc with
    | type c =>
      cases dt with
      | seq its n =>
        obtain ⟨h1, h2⟩ := He.ba (show (decide (c = "tuple") && decide (its.size = 0)) = true from h)
        have h2 := of_decide_eq_true h2
        have hl : its.toList = [] := List.length_eq_zero_iff.mp (by rw [Array.length_toList]; exact h2)
        exact .inr ⟨_, its, n, q, congrArg Value.type (of_decide_eq_true h1), rfl, by rw [h2]; exact Nat.zero_le _, by rw [hl]; exact .nil⟩
      | _ => cases h
    | _ => cases dt <;> cases h
section
variable {J : It} {n : Nat} {G : Hp → Prop} {Y : Nat → Hp → V → Hp → Prop}
/-- the inner walk of a comprehension: as lc_it, within a turn -/
theorem in_it (wk : Walk J n G Y) {g : TG} {tt : TT} {te : TE} {vs : List Nat} {σ : L2.St} {H1 : Hp} {D : Addr} {Nx : Hp → Prop} (Pv : Nat → Hp → Prop) (start : Pv 0 H1) (keep : ∀ i H, i ≤ n → Pv i H → G H)
    (turn : ∀ i x H H', i < n → Pv i H → Y i H x H' → g x (wipe σ vs) H' fun σ3 H5 => wipe σ3 vs = wipe σ vs ∧ tt σ3 H5 fun b H6 =>
      if b = true then te σ3 H6 fun y H7 => ∃ acc, H7 D = some (.lst acc) ∧ acc.length < sizeLine ∧ Pv (i + 1) (upd H7 D (.lst (acc ++ [y]))) else Pv (i + 1) H6) (last : ∀ H, Pv n H → Nx H) :
    ∃ W1 : Nat → Nat → Hp → Prop, (∃ m, W1 0 m H1) ∧ ∀ j k H, W1 j k H →
      (J.stop j H ∧ Nx H) ∨ (J.go j H ∧ ∃ Nx1 : Hp → Prop, (∀ H', Nx1 H' → ∃ k', k' < k ∧ W1 (j + 1) k' H') ∧ ∀ x H', J.yld j H x H' → g x (wipe σ vs) H' fun σ3 H5 => wipe σ3 vs = wipe σ vs ∧ tt σ3 H5 fun b H6 =>
        if b = true then te σ3 H6 fun y H7 => ∃ acc, H7 D = some (.lst acc) ∧ acc.length < sizeLine ∧ Nx1 (upd H7 D (.lst (acc ++ [y]))) else Nx1 H6) := by
  refine ⟨fun j k H => j ≤ n ∧ k = n - j ∧ Pv j H, ⟨n, Nat.zero_le _, by omega, start⟩, fun j k H ⟨le, ek, p⟩ => ?_⟩
  have gg := keep j H le p
  rcases Nat.lt_or_ge j n with lt | ge
  · exact .inr ⟨wk.goes j H lt gg, Pv (j + 1), fun H' p' => ⟨n - (j + 1), by omega, by omega, rfl, p'⟩, fun x H' y => turn j x H H' lt p (wk.yields j H x H' lt gg y)⟩
  · obtain rfl : j = n := by omega
    exact .inl ⟨wk.stops H gg, last H p⟩
/-- the outer walk -/
theorem out_it (wk : Walk J n G Y) {g : TG} {tt : TT} {vs : List Nat} {σ : L2.St} {H1 : Hp} {D : Addr} {Qd : Hp → Prop} {B : (Hp → Prop) → L2.St → Hp → Prop} (Pv : Nat → Hp → Prop) (start : Pv 0 (upd H1 D (.lst []))) (keep : ∀ i H, i ≤ n → Pv i H → G H)
    (turn : ∀ i x H H', i < n → Pv i H → Y i H x H' → g x (wipe σ vs) H' fun σ2 H2 => wipe σ2 vs = wipe σ vs ∧ tt σ2 H2 fun b H3 => if b = true then B (Pv (i + 1)) σ2 H3 else Pv (i + 1) H3) (last : ∀ H, Pv n H → Qd H) :
    ∃ W : Nat → Nat → Hp → Prop, (∃ m, W 0 m (upd H1 D (.lst []))) ∧ ∀ i m H, W i m H →
      (J.stop i H ∧ Qd H) ∨ (J.go i H ∧ ∃ Nx : Hp → Prop, (∀ H', Nx H' → ∃ m', m' < m ∧ W (i + 1) m' H') ∧ ∀ x H', J.yld i H x H' → g x (wipe σ vs) H' fun σ2 H2 => wipe σ2 vs = wipe σ vs ∧ tt σ2 H2 fun b H3 => if b = true then B Nx σ2 H3 else Nx H3) := by
  refine ⟨fun j k H => j ≤ n ∧ k = n - j ∧ Pv j H, ⟨n, Nat.zero_le _, by omega, start⟩, fun j k H ⟨le, ek, p⟩ => ?_⟩
  have gg := keep j H le p
  rcases Nat.lt_or_ge j n with lt | ge
  · exact .inr ⟨wk.goes j H lt gg, Pv (j + 1), fun H' p' => ⟨n - (j + 1), by omega, by omega, rfl, p'⟩, fun x H' y => turn j x H H' lt p (wk.yields j H x H' lt gg y)⟩
  · obtain rfl : j = n := by omega
    exact .inl ⟨wk.stops H gg, last H p⟩
end
/-- TL as the listing builds it: the floors taken from the last to the first -/
theorem TL_build {n : Nat} {f : Flr} {fs : List Flr} : TL n (f :: fs) = (TL n fs).flatMap fun t => f.fo.map fun c => mulL t c.2 := rfl
theorem TL_drop {n : Nat} : ∀ (fs : List Flr) (k : Nat), (∀ f ∈ fs, f.fo ≠ []) → (TL n (fs.drop k)).length ≤ (TL n fs).length
  | [], k, _ => by rw [List.drop_nil]; exact Nat.le_refl _
  | f :: fs, 0, _ => Nat.le_refl _
  | f :: fs, k + 1, h => by
    refine Nat.le_trans (TL_drop fs k fun g hg => h g (List.mem_cons_of_mem _ hg)) ?_
    rw [TL_len, TL_len]
    have := List.length_pos_iff.mpr (h f List.mem_cons_self)
    exact Nat.le_mul_of_pos_left _ this
/-! ### type(x), x also a tuple of the text -/
def kTypT (K : PySem.W.Frag) (x : V) (H : Hp) (Q : VK) : Prop := (∃ n, zTyV x H = some n ∧ Q (.ty n) H) ∨ ∃ (a : Addr) (xs : List V), x = .ref a ∧ SqT K H a xs ∧ Q (.ty "tuple") H
theorem pe_typeOfT {X : Cx} {a : Expr} {ta : TE} {p pos : Pos} (hg : Gl X "type") (hm : X.mg "type" = none) (ha : PE X a ta) (na : starEach [a] X.env = (false, eval a X.env) :: starEach [] X.env := by rfl) :
    PE X (.Call (.Name "type" p) [a] [] pos) (tThenZ ta (kTypT X.K)) := by
  have rl : CallR X (.type "type") (r1 (kTypT X.K)) := by
    refine call_r1 fun pins s σ H x v Q I r h => ?_
    rcases h with h | ⟨b, xs, rfl, e, q⟩
    · exact rl_type pins s σ H x v Q I r h
    · cases r
      obtain ⟨its, _, ht, _⟩ := I.tuple e
      obtain ⟨o, ho, hc⟩ := ht
      exact call_type_of (Tx := "tuple") ⟨o, ho, hc.1⟩ (by decide +kernel) ⟨.ty "tuple", H, I, rfl, q⟩
  exact pe_callTy rl hg hm (by decide +kernel) (pa_cons ha pa_nil na) (he := na)
def spIsPt : Sp := fun vs H Q _ => ∃ (v : V) (d : Int), vs = [.int d, v] ∧ TyK H v ∧ Q (.bl (btV 0 (d - 1) v)) H
def spCheckPrefix (K : PySem.W.Frag) : Sp := fun vs H Q _ => ∃ (n : Nat) (b : Addr) (pre : List Nat), vs = [.int n, .ref b] ∧ SqT K H b (pre.map fun x : Nat => V.int x) ∧ pre.Nodup ∧ (∀ x ∈ pre, x < n) ∧ pre.length ≤ 1000 ∧ ∀ H', Ex H H' → Q .non H'
def trimF (m : Nat) (fs : List Flr) : List Flr := fs.take m ++ (fs.drop m).filter fun f => decide (1 < f.fo.length)
structure FlsAt (K : PySem.W.Frag) (H : Hp) (As : List FA) (fs : List Flr) : Prop where
  len : As.length = fs.length
  at_ : ∀ (i : Nat) (f : Flr), fs[i]? = some f → ∃ a, As[i]? = some a ∧ FlAt K H a f
theorem FlsAt.ex {K : PySem.W.Frag} {H H1 : Hp} {As : List FA} {fs : List Flr} (x : Ex H H1) (h : FlsAt K H As fs) : FlsAt K H1 As fs :=
  ⟨h.len, fun i f e => let ⟨a, e1, e2⟩ := h.at_ i f e; ⟨a, e1, e2.ex x⟩⟩
theorem FlsAt.nil {K : PySem.W.Frag} {H : Hp} : FlsAt K H [] [] := ⟨rfl, fun i r h => by cases i <;> cases h⟩
theorem FlsAt.more {K : PySem.W.Frag} {H : Hp} {As : List FA} {fs : List Flr} {a : FA} {f : Flr} (h : FlsAt K H As fs) (e : FlAt K H a f) : FlsAt K H (As ++ [a]) (fs ++ [f]) := by
  refine ⟨by rw [List.length_append, List.length_append, h.len]; rfl, fun i r k => ?_⟩
  by_cases hi : i < fs.length
  · rw [List.getElem?_append_left hi] at k
    obtain ⟨b, e1, e2⟩ := h.at_ i r k
    exact ⟨b, by rw [List.getElem?_append_left (by rw [h.len]; exact hi)]; exact e1, e2⟩
  · have l := (List.getElem?_eq_some_iff.mp k).1
    rw [List.length_append] at l
    have e2 : i = fs.length := by simp at l; omega
    subst e2
    rw [List.getElem?_append_right (Nat.le_refl _), Nat.sub_self] at k
    cases k
    exact ⟨a, by rw [List.getElem?_append_right (by rw [h.len]; exact Nat.le_refl _), h.len, Nat.sub_self]; rfl, e⟩
theorem FlsAt.app {K : PySem.W.Frag} {H : Hp} {As Bs : List FA} {fs gs : List Flr} (h : FlsAt K H As fs) (k : FlsAt K H Bs gs) : FlsAt K H (As ++ Bs) (fs ++ gs) := by
  induction gs generalizing As Bs fs with
  | nil =>
    have := k.len
    obtain rfl : Bs = [] := List.length_eq_zero_iff.mp this
    rw [List.append_nil, List.append_nil]
    exact h
  | cons g gs ih =>
    obtain ⟨a, e1, e2⟩ := k.at_ 0 g rfl
    match Bs, e1, k with
    | b :: Bs, e1, k =>
      cases e1
      rw [show As ++ a :: Bs = (As ++ [a]) ++ Bs by simp, show fs ++ g :: gs = (fs ++ [g]) ++ gs by simp]
      exact ih (h.more e2) ⟨by have := k.len; simpa using this, fun i f e => k.at_ (i + 1) f e⟩
theorem FlsAt.take {K : PySem.W.Frag} {H : Hp} {As : List FA} {fs : List Flr} (h : FlsAt K H As fs) (m : Nat) : FlsAt K H (As.take m) (fs.take m) :=
  ⟨by rw [List.length_take, List.length_take, h.len], fun i f e => by
    rw [List.getElem?_take] at e ⊢
    by_cases c : i < m
    · rw [if_pos c] at e ⊢
      exact h.at_ i f e
    · rw [if_neg c] at e
      cases e⟩
theorem FlsAt.drop {K : PySem.W.Frag} {H : Hp} {As : List FA} {fs : List Flr} (h : FlsAt K H As fs) (m : Nat) : FlsAt K H (As.drop m) (fs.drop m) :=
  ⟨by rw [List.length_drop, List.length_drop, h.len], fun i f e => by
    rw [List.getElem?_drop] at e ⊢
    exact h.at_ _ f e⟩
theorem fl_tw {a : FA} {x : Nat} {W : TW} (h : flF a x = twF W) : False := by
  have := congrArg List.length h
  exact absurd this (show ¬ (5 = 4) by decide)
theorem twF_trim (W : TW) : (twF W).lookup ("trim" : Str) = none := by kernel_rfl
theorem putW_fl (W : TW) (l : Addr) : putF "floors" (.ref l) (twF W) = twF { W with lf := l } := by kernel_rfl
theorem FlsAt.norow {As : List FA} : ¬ RowO (.lst (As.map fun a => V.ref a.fl)) := by
  have := refsM (As := As.map FA.fl)
  rw [List.map_map] at this
  exact this
def spTrim (K : PySem.W.Frag) : Sp := fun vs H Q _ => ∃ (W : TW) (n : Nat) (gs : List (List Int)) (fs : List Flr) (m : Nat), vs = [.ref W.tw, .int m] ∧ TwGood K n H W gs fs ∧ m ≤ fs.length ∧
  ∀ (lf : Addr) (As : List FA) H', ExM [W.tw] H H' → H' W.tw = some (.ins (He.ga K "Tower") W.dx (twF { W with lf := lf })) → H' lf = some (.lst (As.map fun a => V.ref a.fl)) → FlsAt K H' As (trimF m fs) → Q .non H'
/-- what a group's tower with the prefix pre answers with -/
def spFloors (K : PySem.W.Frag) : Sp := fun vs H Q _ => ∃ (a b : Addr) (n : Nat) (gs : List (List Int)) (pre : List Nat), vs = [.ref a, .ref b] ∧ GrpAt H a n gs ∧ (∀ p ∈ gs, IsPm n p) ∧ 1 ≤ n ∧ n ≤ 12 ∧ gs.length ≤ 12 ∧ SqT K H b (pre.map fun x : Nat => V.int x) ∧ pre.Nodup ∧ (∀ x ∈ pre, x < n) ∧ TabG H (PP K) ∧
  ∀ (W : TW) (H1 : Hp) (fs : List Flr), Ex H H1 → TwGood K n H1 W gs fs → fs.map Flr.pt = pre ++ othersP n pre → ∀ (lf : Addr) (As : List FA) (H' : Hp), Ex H H' → H' lf = some (.lst (As.map fun a => V.ref a.fl)) → FlsAt K H' As (trimF pre.length fs) → Q (.ref lf) H'
def spPoints2 (K : PySem.W.Frag) (g : Flr → Nat) : Sp := fun vs H Q _ => ∃ (a b : Addr) (n : Nat) (gs : List (List Int)) (pre : List Nat), vs = [.ref a, .ref b] ∧ GrpAt H a n gs ∧ (∀ p ∈ gs, IsPm n p) ∧ 1 ≤ n ∧ n ≤ 12 ∧ gs.length ≤ 12 ∧ SqT K H b (pre.map fun x : Nat => V.int x) ∧ pre.Nodup ∧ (∀ x ∈ pre, x < n) ∧ TabG H (PP K) ∧
  ∀ (W : TW) (H1 : Hp) (fs : List Flr), Ex H H1 → TwGood K n H1 W gs fs → fs.map Flr.pt = pre ++ othersP n pre → ∀ (c : Addr) (H' : Hp), Ex H H' → H' c = some (.tup (((trimF pre.length fs).map fun f => (g f : Int)).map V.int)) → Q (.ref c) H'
def spOrderG (K : PySem.W.Frag) : Sp := fun vs H Q _ => ∃ (a : Addr) (n : Nat) (gs C : List (List Int)), vs = [.ref a] ∧ GrpAt H a n gs ∧ (∀ p ∈ gs, IsPm n p) ∧ Clos n gs C ∧ 1 ≤ n ∧ n ≤ 12 ∧ gs.length ≤ 12 ∧ TabG H (PP K) ∧
  ∀ H' : Hp, Ex H H' → Q (.int (C.length : Nat)) H'
def spAllEls (K : PySem.W.Frag) : Sp := fun vs H Q _ => ∃ (a : Addr) (n : Nat) (gs C : List (List Int)), vs = [.ref a] ∧ GrpAt H a n gs ∧ (∀ p ∈ gs, IsPm n p) ∧ Clos n gs C ∧ C.length ≤ 2000 ∧ 1 ≤ n ∧ n ≤ 12 ∧ gs.length ≤ 12 ∧ TabG H (PP K) ∧
  ∀ (c : Addr) (H' : Hp) (As : List Addr) (R : List (List Int)), Ex H H' → H' c = some (.tup (As.map V.ref)) → RowsAt H' As R → R.Perm C → R.Pairwise (fun a b => HT.lexLt b a = false) → Q (.ref c) H'
def spListed (K : PySem.W.Frag) : Sp := fun vs H Q _ => ∃ (a : Addr) (n most : Nat) (gs C : List (List Int)), vs = [.ref a, .int most] ∧ GrpAt H a n gs ∧ (∀ g ∈ gs, IsPm n g) ∧ Clos n gs C ∧ C.length ≤ most ∧ most ≤ 100000 ∧ 1 ≤ n ∧ n ≤ 12 ∧ gs.length ≤ 12 ∧ TabG H (PP K) ∧
  ∀ (c : Addr) (H' : Hp) (As : List Addr) (R : List (List Int)), Ex H H' → H' c = some (.tup (As.map V.ref)) → RowsAt H' As R → R.Perm C → R.Pairwise (fun a b => HT.lexLt b a = false) → Q (.ref c) H'
end KL
/-! base points and orbit sizes, taken from all elements -/
namespace KL
open PySem PySem.Spec PyProof.Rows L2 GA GxR
/-! ### len(set(l)), l a list of ints -/
def tLenSetL (K : PySem.W.Frag) (ta : TE) : TE := fun σ H Q => ta σ H fun x H1 => ∃ (l : Addr) (ns : List Int), x = .ref l ∧ SqL K H1 l (ns.map V.int) ∧ ns.length ≤ 4000 ∧ ∀ ks : List Int, ks.Nodup → (∀ k, k ∈ ks ↔ k ∈ ns) → Q (.int (ks.length : Nat)) H1
theorem pe_lenSetL {X : Cx} {a : Expr} {ta : TE} {p p2 q pos : Pos} (hg : Gl X "len") (hm : X.mg "len" = none) (hg2 : Gl X "set") (hm2 : X.mg "set" = none) (ha : PE X a ta) (hc : X.calm = true := by rfl)
    (na : starEach [a] X.env = (false, eval a X.env) :: starEach [] X.env := by rfl) : PE X (.Call (.Name "len" p) [.Call (.Name "set" p2) [a] [] q] [] pos) (tLenSetL X.K ta) := by
  refine ⟨fun pins s σ H Q I h => ?_⟩
  refine Call_ (ld_blt I hg hm boot_len ?_)
  refine PyProof.Rows.callWith_builtin1 (PyProof.Rows.args_cons ?_ rfl) rfl rfl
  refine Call_ (ld_blt I hg2 hm2 boot_set ?_)
  refine PyProof.Rows.callWith_type1 (PyProof.Rows.args_cons (thn (ha.run pins s σ H _ I h) fun v s1 ⟨x, H1, I1, r1, q1⟩ => PyProof.Rows.args_nil ?_) na) na rfl
  obtain ⟨l, ns, rfl, hq, hl, q1⟩ := q1
  cases r1
  obtain ⟨its, r, pl, hz⟩ := I1.list hq
  refine call_set_ints (I1.ok.hd hc) pl.isList (by simpa using r.ints) (by unfold scanBound; omega) fun z mz => ?_
  obtain ⟨h', tk, c, rfl, hS, hle, hk⟩ := mz
  refine PyProof.Rows.args_nil ?_
  obtain ⟨o, es, ep, t, ho, hex, hd, _, hnd, hmem, _, hf, hn, _⟩ := hS
  have I2 : Inv X pins σ H1 { s1 with heap := h', toks := tk } := I1.kept fun b o e => hk b o e
  have q2 := q1 (es.toList.map keyOf) hnd (fun k => by rw [← hmem k, decide_eq_true_iff])
  rw [List.length_map, Array.length_toList] at q2
  exact call_len_set ho hex hd hf (by rw [hn] <;> omega) ⟨.int es.size, H1, I2.tok _, ⟨_, rfl⟩, q2⟩
theorem ne_nil {K : PySem.W.Frag} {H : Hp} {a b : Addr} {ns : List Int} {Q : VK} (ha : H a = some (.lst (ns.map V.int))) (hb : H b = some (.lst [])) (z : Q (.bl (!decide (ns = []))) H) : rNeD K (.ref a) (.ref b) H Q :=
  ⟨_, _, dp_ints ha, dp_ints (ns := []) hb, shapedT_ints ns, shapedT_ints [], by rw [eqvL_ints]; exact z⟩
theorem ne_nilR {K : PySem.W.Frag} {H : Hp} {a b : Addr} {Bs : List Addr} {R : List (List Int)} {Q : VK} (ha : H a = some (.lst (Bs.map V.ref))) (r : RowsAt H Bs R) (hb : H b = some (.lst [])) (z : Q (.bl (!decide (R = []))) H) : rNeD K (.ref a) (.ref b) H Q :=
  ⟨.list (R.map rowD), _, .lst (sl_at ha) (dpAll_rows r), dp_nil hb, shaped_rows R, by decide, by rw [eqv_rows0]; exact z⟩
theorem last_at {xs : List V} {v : V} : atI (xs ++ [v]) (-1) = some v := by
  have e : ixN (xs ++ [v]).length (-1) = some xs.length := by
    unfold ixN
    rw [List.length_append, List.length_singleton]
    simp
    omega
  unfold atI
  rw [e]
  show (xs ++ [v])[xs.length]? = some v
  rw [List.getElem?_append_right (Nat.le_refl _), Nat.sub_self]
  rfl
def dd : List Nat → List Nat
  | [] => []
  | x :: l => if x ∈ dd l then dd l else x :: dd l
theorem mem_dd {y : Nat} : ∀ {l : List Nat}, y ∈ dd l ↔ y ∈ l
  | [] => Iff.rfl
  | x :: l => by
    unfold dd
    by_cases c : x ∈ dd l
    · rw [if_pos c, mem_dd, List.mem_cons]
      constructor
      · exact .inr
      · rintro (e | h)
        · rw [e]; exact mem_dd.mp c
        · exact h
    · rw [if_neg c, List.mem_cons, mem_dd, List.mem_cons]
theorem dd_nd : ∀ {l : List Nat}, (dd l).Nodup
  | [] => .nil
  | x :: l => by
    unfold dd
    by_cases c : x ∈ dd l
    · rw [if_pos c]; exact dd_nd
    · rw [if_neg c]; exact List.nodup_cons.mpr ⟨c, dd_nd⟩
theorem dd_len {l ks : List Nat} (nd : ks.Nodup) (h : ∀ y, y ∈ ks ↔ y ∈ l) : (dd l).length = ks.length :=
  ((List.perm_ext_iff_of_nodup dd_nd nd).mpr fun y => by rw [mem_dd, h]).length_eq
def stb (C : List (List Int)) (bs : List Nat) : List (List Int) := C.filter fun p => bs.all fun b => decide (imN p b = b)
theorem mem_stb {C : List (List Int)} {bs : List Nat} {p : List Int} : p ∈ stb C bs ↔ p ∈ C ∧ fixes bs p := by
  unfold stb fixes
  rw [List.mem_filter, List.all_eq_true]
  simp
theorem stb_nil (C : List (List Int)) : stb C [] = C := List.filter_eq_self.mpr fun _ _ => rfl
theorem stb_snoc (C : List (List Int)) (bs : List Nat) (x : Nat) : stb C (bs ++ [x]) = (stb C bs).filter fun p => decide (imN p x = x) := by
  unfold stb
  rw [List.filter_filter]
  congr 1
  funext p
  rw [List.all_append, Bool.and_comm]
  show ((decide (imN p x = x) && true) && _) = _
  rw [Bool.and_true]
theorem stb_same {C : List (List Int)} {A B : List Nat} (h : ∀ y ∈ B, ∀ p ∈ stb C A, imN p y = y) : stb C (A ++ B) = stb C A := by
  unfold stb
  refine List.filter_congr fun p hp => ?_
  rw [List.all_append]
  by_cases c : (A.all fun b => decide (imN p b = b)) = true
  · rw [c, Bool.true_and]
    exact List.all_eq_true.mpr fun y hy => decide_eq_true (h y hy p (List.mem_filter.mpr ⟨hp, c⟩))
  · rw [Bool.not_eq_true] at c
    rw [c, Bool.false_and]
def oszL (L : List (List Int)) (x : Nat) : Nat := (dd (L.map fun p => imN p x)).length
theorem osz_ints {L : List (List Int)} {x : Nat} {ks : List Int} (nd : ks.Nodup) (h : ∀ k, k ∈ ks ↔ k ∈ L.map fun p => (imN p x : Int)) : ks.length = oszL L x := by
  have nd2 : ((dd (L.map fun p => imN p x)).map fun y : Nat => (y : Int)).Nodup := List.Pairwise.map _ (fun a b ne e => ne (by omega)) dd_nd
  have := ((List.perm_ext_iff_of_nodup nd nd2).mpr fun k => by
    rw [h, List.mem_map, List.mem_map]
    constructor
    · rintro ⟨p, hp, rfl⟩
      exact ⟨_, mem_dd.mpr (List.mem_map.mpr ⟨p, hp, rfl⟩), rfl⟩
    · rintro ⟨y, hy, rfl⟩
      obtain ⟨p, hp, rfl⟩ := List.mem_map.mp (mem_dd.mp hy)
      exact ⟨p, hp, rfl⟩).length_eq
  rw [List.length_map] at this
  exact this
def szs (C : List (List Int)) : List Nat → List Nat → List Nat
  | _, [] => []
  | bs, x :: xs => oszL (stb C bs) x :: szs C (bs ++ [x]) xs
theorem szs_len (C : List (List Int)) : ∀ (xs bs : List Nat), (szs C bs xs).length = xs.length
  | [], _ => rfl
  | x :: xs, bs => by show (szs C (bs ++ [x]) xs).length + 1 = xs.length + 1; rw [szs_len C xs]
theorem szs_app (C : List (List Int)) : ∀ (xs ys bs : List Nat), szs C bs (xs ++ ys) = szs C bs xs ++ szs C (bs ++ xs) ys
  | [], ys, bs => by rw [List.append_nil]; rfl
  | x :: xs, ys, bs => by
    show _ :: szs C (bs ++ [x]) (xs ++ ys) = _ :: (szs C (bs ++ [x]) xs ++ _)
    rw [szs_app C xs ys, List.append_assoc]
    rfl
theorem osz_one {L : List (List Int)} {x : Nat} (h : ∀ p ∈ L, imN p x = x) : oszL L x ≤ 1 := by
  have nd := dd_nd (l := L.map fun p => imN p x)
  have al : ∀ y ∈ dd (L.map fun p => imN p x), y = x := fun y hy => by
    obtain ⟨p, hp, e⟩ := List.mem_map.mp (mem_dd.mp hy)
    rw [← e]; exact h p hp
  unfold oszL
  generalize dd (L.map fun p => imN p x) = l at nd al ⊢
  match l, nd, al with
  | [], _, _ => exact Nat.zero_le _
  | [_], _, _ => exact Nat.le_refl _
  | a :: b :: l, nd, al =>
    have e : a = b := (al a (List.mem_cons_self ..)).trans (al b (by simp)).symm
    rw [e] at nd
    exact absurd (List.mem_cons_self ..) (List.nodup_cons.mp nd).1
theorem osz_two {n : Nat} {L : List (List Int)} {x : Nat} {p : List Int} (one : unitL n ∈ L) (hx : x < n) (hp : p ∈ L) (ne : imN p x ≠ x) : 1 < oszL L x := by
  have m1 : x ∈ dd (L.map fun p => imN p x) := mem_dd.mpr (List.mem_map.mpr ⟨_, one, imN_unit hx⟩)
  have m2 : imN p x ∈ dd (L.map fun p => imN p x) := mem_dd.mpr (List.mem_map.mpr ⟨_, hp, rfl⟩)
  unfold oszL
  generalize dd (L.map fun p => imN p x) = l at m1 m2 ⊢
  match l, m1, m2 with
  | [a], m1, m2 => exact absurd ((List.mem_singleton.mp m2).trans (List.mem_singleton.mp m1).symm) ne
  | a :: b :: l, _, _ => show 1 < l.length + 1 + 1; omega
/-- the tower's floors tell the same -/
theorem tower_szs {n : Nat} {C : List (List Int)} : ∀ {fs : List Flr} {bs : List Nat}, TInv n bs fs → (∀ b ∈ bs, b < n) → (∀ p, p ∈ TL n fs ↔ p ∈ C ∧ fixes bs p) → szs C bs (fs.map Flr.pt) = fs.map fun f => f.fo.length
  | [], _, _, _, _ => rfl
  | f :: fs, bs, h, hb, hm => by
    have F := h.1
    have hb2 := bs_snoc hb F.pt
    show oszL (stb C bs) f.pt :: szs C (bs ++ [f.pt]) (fs.map Flr.pt) = f.fo.length :: fs.map fun f => f.fo.length
    congr 1
    · rw [← List.length_map (f := Prod.fst) (as := f.fo)]
      refine dd_len F.keys fun y => ?_
      rw [List.mem_map, List.mem_map]
      constructor
      · rintro ⟨c, hc, rfl⟩
        have pc := (F.fo c hc).2.1
        exact ⟨c.2, mem_stb.mpr ((hm _).mp (mem_TL.mpr ⟨unitL n, unit_TL h.2, c, hc, (unit_mulL pc).symm⟩)), (F.fo c hc).2.2.1⟩
      · rintro ⟨p, hp, rfl⟩
        obtain ⟨t, ht, c, hc, e⟩ := mem_TL.mp ((hm p).mpr (mem_stb.mp hp))
        have pc := (F.fo c hc).2.1
        refine ⟨c, hc, ?_⟩
        rw [e, imN_mul (TL_pm h.2 ht) pc F.pt, TL_fix h.2 ht hb2 f.pt (by simp), (F.fo c hc).2.2.1]
    · refine tower_szs h.2 hb2 fun p => ⟨fun ht => ?_, fun ⟨hc, fx⟩ => ?_⟩
      · have pt := TL_pm h.2 ht
        have := (hm p).mp (mem_TL.mpr ⟨p, ht, _, F.one, (mulL_unit pt).symm⟩)
        exact ⟨this.1, TL_fix h.2 ht hb2⟩
      · obtain ⟨t, ht, c, hc2, e⟩ := mem_TL.mp ((hm p).mpr ⟨hc, fun b hb => fx b (List.mem_append_left _ hb)⟩)
        have pc := (F.fo c hc2).2.1
        have pt := TL_pm h.2 ht
        have k : imN p f.pt = f.pt := fx f.pt (by simp)
        rw [e, imN_mul pt pc F.pt, TL_fix h.2 ht hb2 f.pt (by simp), (F.fo c hc2).2.2.1] at k
        have := fo_one F hc2 F.one k
        rw [this] at e
        rw [e, mulL_unit pt]
        exact ht
def trimP (m : Nat) (z : List (Nat × Nat)) : List (Nat × Nat) := z.take m ++ (z.drop m).filter fun q => decide (1 < q.2)
theorem trimP_app {m : Nat} {a b : List (Nat × Nat)} (h : m ≤ a.length) : trimP m (a ++ b) = trimP m a ++ b.filter fun q => decide (1 < q.2) := by
  unfold trimP
  rw [List.take_append_of_le_length h, List.drop_append_of_le_length h, List.filter_append, List.append_assoc]
theorem trimP_take {m j : Nat} {z : List (Nat × Nat)} (h : j ≤ m) : trimP m (z.take j) = z.take j := by
  unfold trimP
  rw [List.take_take, Nat.min_eq_right h, List.drop_eq_nil_of_le (by rw [List.length_take]; omega), List.filter_nil, List.append_nil]
theorem trimF_P (m : Nat) (fs : List Flr) : (trimF m fs).map (fun f => (f.pt, f.fo.length)) = trimP m ((fs.map Flr.pt).zip (fs.map fun f => f.fo.length)) := by
  have e : (fs.map Flr.pt).zip (fs.map fun f => f.fo.length) = fs.map fun f => (f.pt, f.fo.length) := by
    induction fs with
    | nil => rfl
    | cons f fs ih => exact congrArg (_ :: ·) ih
  rw [e]
  unfold trimF trimP
  rw [List.map_append, List.map_take, ← List.map_drop, List.filter_map]
  rfl
def movL (n : Nat) (L : List (List Int)) : List Nat := (List.range n).filter fun x => L.any fun p => decide (imN p x ≠ x)
theorem mem_mov {n x : Nat} {L : List (List Int)} : x ∈ movL n L ↔ x < n ∧ ∃ p ∈ L, imN p x ≠ x := by
  unfold movL
  rw [List.mem_filter, List.mem_range, List.any_eq_true]
  simp
theorem mov_lt {n : Nat} {L : List (List Int)} : (movL n L).Pairwise (· < ·) := List.Pairwise.filter _ List.pairwise_lt_range
/-- how far the base has come after j turns -/
structure LBs (n : Nat) (C : List (List Int)) (pts : List Nat) (m j : Nat) (P : List (Nat × Nat)) (L : List (List Int)) : Prop where
  ex : ∃ k, k ≤ pts.length ∧ (j ≤ k ∨ k = pts.length) ∧ (k = j ∧ j ≤ m ∨ m ≤ j ∧ m ≤ k) ∧ P = trimP m ((pts.zip (szs C [] pts)).take k) ∧ L = stb C (pts.take k)
section
variable {n m j x : Nat} {C L : List (List Int)} {pts r : List Nat} {P : List (Nat × Nat)}
theorem zip_szs (C : List (List Int)) (A B : List Nat) (bs : List Nat) : (A ++ B).zip (szs C bs (A ++ B)) = A.zip (szs C bs A) ++ B.zip (szs C (bs ++ A) B) := by
  rw [szs_app, List.zip_append (szs_len C A bs).symm]
theorem zl (C : List (List Int)) (A bs : List Nat) : (A.zip (szs C bs A)).length = A.length := by rw [List.length_zip, szs_len, Nat.min_self]
theorem LBs.start (h : m ≤ pts.length) : LBs n C pts m 0 [] C := ⟨0, Nat.zero_le _, .inl (Nat.le_refl _), .inl ⟨rfl, Nat.zero_le _⟩, by rw [List.take_zero]; unfold trimP; rw [List.take_nil, List.drop_nil]; rfl, by rw [List.take_zero, stb_nil]⟩
/-- one point more, where all points between stay -/
theorem LBs.step {A B1 B2 : List Nat} (e : pts = A ++ (B1 ++ x :: B2)) (fix : ∀ y ∈ B1, ∀ p ∈ stb C A, imN p y = y) : stb C ((A ++ B1) ++ [x]) = (stb C A).filter (fun p => decide (imN p x = x)) ∧
    (pts.zip (szs C [] pts)).take (A.length + B1.length + 1) = A.zip (szs C [] A) ++ (B1.zip (szs C A B1) ++ [(x, oszL (stb C A) x)]) ∧ pts.take (A.length + B1.length + 1) = (A ++ B1) ++ [x] := by
  have s := stb_same fix
  refine ⟨by rw [stb_snoc, s], ?_, ?_⟩
  · rw [e, zip_szs, zip_szs, List.nil_append]
    show (_ ++ (_ ++ (x, oszL (stb C (A ++ B1)) x) :: (B2.zip (szs C (A ++ B1 ++ [x]) B2)))).take _ = _
    rw [s, ← List.append_assoc, ← List.append_assoc, List.take_append, List.take_of_length_le (by rw [List.length_append, zl, zl]; omega), List.length_append, zl, zl, show A.length + B1.length + 1 - (A.length + B1.length) = 1 by omega]
    rfl
  · rw [e, ← List.append_assoc, List.take_append, List.take_of_length_le (by rw [List.length_append]; omega), List.length_append, show A.length + B1.length + 1 - (A.length + B1.length) = 1 by omega]
    rfl
theorem unm_nil : ∀ {B A : List Nat}, (∀ y ∈ B, ∀ p ∈ stb C A, imN p y = y) → (B.zip (szs C A B)).filter (fun q => decide (1 < q.2)) = []
  | [], _, _ => rfl
  | y :: B, A, h => by
    show (((y, oszL (stb C A) y) :: B.zip (szs C (A ++ [y]) B)).filter _) = []
    rw [List.filter_cons_of_neg (by have := osz_one (h y (List.mem_cons_self ..)); show ¬ decide (1 < oszL (stb C A) y) = true; rw [decide_eq_true_iff]; omega)]
    exact unm_nil fun z hz p hp => h z (List.mem_cons_of_mem _ hz) p (by rw [stb_snoc] at hp; exact (List.mem_filter.mp hp).1)
/-- a turn within the prefix -/
theorem LBs.pre (h : LBs n C pts m j P L) (hj : j < m) (hm : m ≤ pts.length) (hx : pts[j]? = some x) : LBs n C pts m (j + 1) (P ++ [(x, oszL L x)]) (L.filter fun p => decide (imN p x = x)) := by
  obtain ⟨k, kl, kj, km, eP, eL⟩ := h.ex
  obtain rfl : k = j := by omega
  have e : pts = pts.take k ++ ([] ++ x :: pts.drop (k + 1)) := by
    have l := (List.getElem?_eq_some_iff.mp hx)
    obtain ⟨l1, l2⟩ := l
    rw [List.nil_append, ← l2, ← List.drop_eq_getElem_cons l1, List.take_append_drop]
  have lk : (pts.take k).length = k := by rw [List.length_take]; omega
  obtain ⟨h1, h2, h3⟩ := LBs.step (C := C) e (fun y hy => by cases hy)
  rw [List.length_nil, lk, Nat.add_zero] at h2 h3
  have z0 : (pts.zip (szs C [] pts)).take k = (pts.take k).zip (szs C [] (pts.take k)) := by
    have q : (pts.zip (szs C [] pts)) = ((pts.take k ++ pts.drop k).zip (szs C [] (pts.take k ++ pts.drop k))) := by rw [List.take_append_drop]
    rw [q, zip_szs, List.take_append, List.take_of_length_le (by rw [zl]; omega), zl, lk, Nat.sub_self, List.take_zero, List.append_nil]
  refine ⟨k + 1, by omega, .inl (Nat.le_refl _), .inl ⟨rfl, by omega⟩, ?_, ?_⟩
  · rw [eP, trimP_take (by omega), trimP_take (by omega), h2, z0, eL]
    rfl
  · rw [h3, eL, ← h1]
/-- a turn behind it: the least point that is moved -/
theorem LBs.next (h : LBs n C pts m j P L) (hj : m ≤ j) (one : unitL n ∈ C) (cov : ∀ x, x < n → x ∈ pts) (bd : ∀ x ∈ pts, x < n) (asc : (pts.drop m).Pairwise (· < ·)) (mv : movL n L = x :: r) :
    LBs n C pts m (j + 1) (P ++ [(x, oszL L x)]) (L.filter fun p => decide (imN p x = x)) := by
  obtain ⟨k, kl, kj, km, eP, eL⟩ := h.ex
  have km : m ≤ k := by omega
  have mx : x ∈ movL n L := by rw [mv]; exact List.mem_cons_self ..
  obtain ⟨xn, p0, hp0, np0⟩ := mem_mov.mp mx
  have least : ∀ y, y < x → ∀ p ∈ L, imN p y = y := fun y hy p hp => by
    by_cases c : imN p y = y
    · exact c
    · have m2 : y ∈ movL n L := mem_mov.mpr ⟨by omega, p, hp, c⟩
      have w := mov_lt (n := n) (L := L)
      rw [mv] at m2 w
      rcases List.mem_cons.mp m2 with e | m2
      · omega
      · have := (List.pairwise_cons.mp w).1 y m2
        omega
  have fixA : ∀ a ∈ pts.take k, ∀ p ∈ L, imN p a = a := fun a ha p hp => by
    rw [eL] at hp
    exact (mem_stb.mp hp).2 a ha
  have xB : x ∈ pts.drop k := by
    have := cov x xn
    rw [← List.take_append_drop k pts] at this
    rcases List.mem_append.mp this with q | q
    · exact absurd (fixA x q p0 hp0) np0
    · exact q
  obtain ⟨B1, B2, eB⟩ := List.append_of_mem xB
  have e : pts = pts.take k ++ (B1 ++ x :: B2) := by rw [← eB, List.take_append_drop]
  have ascB : (pts.drop k).Pairwise (· < ·) := by
    have : pts.drop k = (pts.drop m).drop (k - m) := by rw [List.drop_drop]; congr 1; omega
    rw [this]
    exact asc.drop
  rw [eB] at ascB
  have fixB : ∀ y ∈ B1, ∀ p ∈ stb C (pts.take k), imN p y = y := fun y hy p hp => by
    rw [← eL] at hp
    exact least y ((List.pairwise_append.mp ascB).2.2 y hy x (List.mem_cons_self ..)) p hp
  have lk : (pts.take k).length = k := by rw [List.length_take]; omega
  obtain ⟨h1, h2, h3⟩ := LBs.step (C := C) e fixB
  rw [lk] at h2 h3
  have z0 : (pts.zip (szs C [] pts)).take k = (pts.take k).zip (szs C [] (pts.take k)) := by
    have q : (pts.zip (szs C [] pts)) = ((pts.take k ++ pts.drop k).zip (szs C [] (pts.take k ++ pts.drop k))) := by rw [List.take_append_drop]
    rw [q, zip_szs, List.take_append, List.take_of_length_le (by rw [zl]; omega), zl, lk, Nat.sub_self, List.take_zero, List.append_nil]
  have lt : k + B1.length + 1 ≤ pts.length := by
    have := congrArg List.length e
    rw [List.length_append, List.length_append, List.length_cons, lk] at this
    omega
  refine ⟨k + B1.length + 1, lt, by omega, .inr ⟨by omega, by omega⟩, ?_, ?_⟩
  · have o2 : unitL n ∈ L := by rw [eL]; exact mem_stb.mpr ⟨one, fun b hb => imN_unit (bd b (List.mem_of_mem_take hb))⟩
    have g := osz_two o2 xn hp0 np0
    have ef : [(x, oszL L x)].filter (fun q : Nat × Nat => decide (1 < q.2)) = [(x, oszL L x)] := List.filter_eq_self.mpr fun q hq => by rw [List.mem_singleton.mp hq]; exact decide_eq_true g
    rw [h2, trimP_app (by rw [zl, lk]; exact km), List.filter_append, unm_nil fixB, List.nil_append, eP, z0, ← eL, ef]
  · rw [h3, eL, ← h1]
theorem LBs.stay (h : LBs n C pts m j P L) (hj : m ≤ j) (bd : ∀ x ∈ pts, x < n) (mv : movL n L = []) : LBs n C pts m (j + 1) P L := by
  obtain ⟨k, kl, kj, km, eP, eL⟩ := h.ex
  have km : m ≤ k := by omega
  have un : ∀ y ∈ pts.drop k, ∀ p ∈ stb C (pts.take k), imN p y = y := fun y hy p hp => by
    by_cases c : imN p y = y
    · exact c
    · have : y ∈ movL n L := mem_mov.mpr ⟨bd y (List.mem_of_mem_drop hy), p, by rw [eL]; exact hp, c⟩
      rw [mv] at this
      cases this
  have lk : (pts.take k).length = k := by rw [List.length_take]; omega
  refine ⟨pts.length, Nat.le_refl _, .inr rfl, .inr ⟨by omega, by omega⟩, ?_, ?_⟩
  · have q : (pts.zip (szs C [] pts)) = ((pts.take k ++ pts.drop k).zip (szs C [] (pts.take k ++ pts.drop k))) := by rw [List.take_append_drop]
    have z0 : (pts.zip (szs C [] pts)).take k = (pts.take k).zip (szs C [] (pts.take k)) := by
      rw [q, zip_szs, List.take_append, List.take_of_length_le (by rw [zl]; omega), zl, lk, Nat.sub_self, List.take_zero, List.append_nil]
    rw [eP, List.take_of_length_le (i := pts.length) (l := pts.zip (szs C [] pts)) (by rw [zl]; exact Nat.le_refl _), z0]
    conv => rhs; rw [q, zip_szs, List.nil_append]
    rw [trimP_app (by rw [zl, lk]; exact km), unm_nil un, List.append_nil]
  · rw [List.take_length, eL]
    have := stb_same un
    rw [List.take_append_drop] at this
    exact this.symm
theorem LBs.all (h : LBs n C pts m j P L) (hj : pts.length ≤ j) : P = trimP m (pts.zip (szs C [] pts)) := by
  obtain ⟨k, kl, kj, km, eP, eL⟩ := h.ex
  obtain rfl : k = pts.length := by omega
  rw [eP, List.take_of_length_le (by rw [zl]; exact Nat.le_refl _)]
end
theorem TwGood.base {K : PySem.W.Frag} {n m : Nat} {H : Hp} {W : TW} {gs C S : List (List Int)} {fs : List Flr} {pts : List Nat} (h : TwGood K n H W gs fs) (cl : Clos n gs C) (ps : S.Perm C) (pt : fs.map Flr.pt = pts) :
    trimP m (pts.zip (szs S [] pts)) = (trimF m fs).map fun f => (f.pt, f.fo.length) := by
  have ok := h.st
  obtain ⟨L, _, ok⟩ := ok
  have e := tower_szs (C := S) ok.inv (by intro _ h; cases h) fun p => by
    rw [(h.perm cl).mem_iff, ps.mem_iff]
    exact ⟨fun h => ⟨h, fun b hb => by cases hb⟩, fun h => h.1⟩
  rw [trimF_P, ← e, pt]
theorem trim_prod : ∀ {fs : List Flr}, (∀ f ∈ fs, f.fo ≠ []) → ((trimF 0 fs).map fun f => f.fo.length).foldr (· * ·) 1 = (fs.map fun f => f.fo.length).foldr (· * ·) 1
  | [], _ => rfl
  | f :: fs, h => by
    have ih := trim_prod fun g hg => h g (List.mem_cons_of_mem _ hg)
    have l := List.length_pos_iff.mpr (h f (List.mem_cons_self ..))
    unfold trimF at ih ⊢
    rw [List.take_zero, List.nil_append, List.drop_zero] at ih ⊢
    by_cases c : 1 < f.fo.length
    · have e : (f :: fs).filter (fun f : Flr => decide (1 < f.fo.length)) = f :: fs.filter (fun f : Flr => decide (1 < f.fo.length)) := List.filter_cons_of_pos (p := fun f : Flr => decide (1 < f.fo.length)) (decide_eq_true c)
      rw [e]
      show f.fo.length * _ = f.fo.length * _
      rw [ih]
    · have e : (f :: fs).filter (fun f : Flr => decide (1 < f.fo.length)) = fs.filter (fun f : Flr => decide (1 < f.fo.length)) := List.filter_cons_of_neg (p := fun f : Flr => decide (1 < f.fo.length)) (by rw [decide_eq_true_iff]; exact c)
      rw [e, ih]
      show _ = f.fo.length * _
      rw [show f.fo.length = 1 by omega, Nat.one_mul]
theorem prod_take : ∀ (l : List Nat) (j : Nat), (∀ z ∈ l, 1 ≤ z) → (l.take j).foldr (· * ·) 1 ≤ l.foldr (· * ·) 1
  | [], j, _ => by rw [List.take_nil]; exact Nat.le_refl _
  | x :: l, 0, h => by
    have ih := prod_take l 0 fun z hz => h z (List.mem_cons_of_mem _ hz)
    have hx := h x (List.mem_cons_self ..)
    rw [List.take_zero] at ih ⊢
    show 1 ≤ x * _
    exact Nat.le_trans ih (Nat.le_mul_of_pos_left _ hx)
  | x :: l, j + 1, h => Nat.mul_le_mul_left x (prod_take l j fun z hz => h z (List.mem_cons_of_mem _ hz))
def spLawBase (K : PySem.W.Frag) : Sp := fun vs H Q _ => ∃ (c b : Addr) (n : Nat) (As : List Addr) (C : List (List Int)) (pre : List Nat), vs = [.ref c, .int n, .ref b] ∧ H c = some (.lst (As.map V.ref)) ∧ RowsAt H As C ∧ (∀ p ∈ C, IsPm n p) ∧ unitL n ∈ C ∧ C.length ≤ 1000 ∧ H b = some (.tup (pre.map fun x : Nat => V.int x)) ∧ pre.Nodup ∧ (∀ x ∈ pre, x < n) ∧ n ≤ 12 ∧
  ∀ (t p s : Addr) (H' : Hp), Ex H H' → H' t = some (.tup [.ref p, .ref s]) → H' p = some (.tup (((trimP pre.length ((pre ++ othersP n pre).zip (szs C [] (pre ++ othersP n pre)))).map fun q => (q.1 : Int)).map V.int)) →
    H' s = some (.tup (((trimP pre.length ((pre ++ othersP n pre).zip (szs C [] (pre ++ othersP n pre)))).map fun q => (q.2 : Int)).map V.int)) → Q (.ref t) H'
end KL
namespace KL
open PySem PySem.Spec PyProof.Rows L2 GA GxR
/-! ### the text -/
def topS (i : Nat) : Stmt := PySem.Challenge.pw_stronggens_k21_whole_orders.main.body.getD i (.Pass ⟨0, 0, 0, 0⟩)
abbrev sis_between : Stmt := topS 9
abbrev sis_row : Stmt := topS 10
abbrev sis_tuple_of : Stmt := topS 11
abbrev sis_degree : Stmt := topS 12
abbrev sis_point : Stmt := topS 13
abbrev sare_points : Stmt := topS 14
abbrev sare_distinct_points : Stmt := topS 15
abbrev sis_permutation : Stmt := topS 16
abbrev scheck_group : Stmt := topS 17
abbrev scheck_prefix : Stmt := topS 18
abbrev sunit : Stmt := topS 20
abbrev scompose : Stmt := topS 21
abbrev sinvert : Stmt := topS 22
abbrev sTape___init__ : Stmt := clsBody (topS 24) 0
abbrev sTape_joined : Stmt := clsBody (topS 24) 1
abbrev sTape_flipped : Stmt := clsBody (topS 24) 2
abbrev sTape_note : Stmt := clsBody (topS 24) 3
abbrev sTape_times : Stmt := clsBody (topS 24) 4
abbrev sTape_turned : Stmt := clsBody (topS 24) 5
abbrev sFloor___init__ : Stmt := clsBody (topS 26) 0
abbrev sFloor_take : Stmt := clsBody (topS 26) 1
abbrev sFloor_reach : Stmt := clsBody (topS 26) 2
abbrev sTower___init__ : Stmt := clsBody (topS 27) 0
abbrev sTower_sift : Stmt := clsBody (topS 27) 1
abbrev sTower_take : Stmt := clsBody (topS 27) 2
abbrev sTower_settle : Stmt := clsBody (topS 27) 3
abbrev sTower_try_pair : Stmt := clsBody (topS 27) 4
abbrev sTower_trim : Stmt := clsBody (topS 27) 5
abbrev sTower_holds : Stmt := clsBody (topS 27) 6
abbrev sTower_sizes : Stmt := clsBody (topS 27) 7
abbrev sTower_order : Stmt := clsBody (topS 27) 8
abbrev stower_of : Stmt := topS 28
abbrev slisted : Stmt := topS 29
abbrev sbase_points : Stmt := topS 31
abbrev sorbit_sizes : Stmt := topS 32
abbrev sorder : Stmt := topS 33
abbrev s_floors : Stmt := topS 34
abbrev sall_elements : Stmt := topS 37
abbrev s_law_taken : Stmt := topS 39
abbrev s_law_small : Stmt := topS 40
abbrev s_law_large : Stmt := topS 41
abbrev s_law_pick : Stmt := topS 42
abbrev s_law_perm : Stmt := topS 43
abbrev s_law_mul : Stmt := topS 44
abbrev s_law_inv : Stmt := topS 45
abbrev s_law_conj : Stmt := topS 46
abbrev s_law_unit : Stmt := topS 47
abbrev s_law_known : Stmt := topS 48
abbrev s_law_group : Stmt := topS 49
abbrev s_law_closure : Stmt := topS 50
abbrev s_law_base : Stmt := topS 51
abbrev s_law_alike : Stmt := topS 52
abbrev slaw : Stmt := topS 53
theorem scis_between : FnScope ["value", "low", "high"] ["value", "low", "high"] (defScope sis_between) := ⟨rfl, rfl, rfl, by decide +kernel, rfl, by decide +kernel, by decide +kernel⟩
theorem scis_row : FnScope ["value", "most"] ["value", "most"] (defScope sis_row) := ⟨rfl, rfl, rfl, by decide +kernel, rfl, by decide +kernel, by decide +kernel⟩
theorem scis_tuple_of : FnScope ["value", "size"] ["value", "size"] (defScope sis_tuple_of) := ⟨rfl, rfl, rfl, by decide +kernel, rfl, by decide +kernel, by decide +kernel⟩
theorem scis_degree : FnScope ["value"] ["value"] (defScope sis_degree) := ⟨rfl, rfl, rfl, by decide +kernel, rfl, by decide +kernel, by decide +kernel⟩
theorem scis_point : FnScope ["degree", "value"] ["degree", "value"] (defScope sis_point) := ⟨rfl, rfl, rfl, by decide +kernel, rfl, by decide +kernel, by decide +kernel⟩
theorem scare_points : FnScope ["degree", "value", "x"] ["degree", "value"] (defScope sare_points) := ⟨rfl, rfl, rfl, by decide +kernel, rfl, by decide +kernel, by decide +kernel⟩
theorem scare_distinct_points : FnScope ["degree", "value"] ["degree", "value"] (defScope sare_distinct_points) := ⟨rfl, rfl, rfl, by decide +kernel, rfl, by decide +kernel, by decide +kernel⟩
theorem scis_permutation : FnScope ["degree", "value"] ["degree", "value"] (defScope sis_permutation) := ⟨rfl, rfl, rfl, by decide +kernel, rfl, by decide +kernel, by decide +kernel⟩
theorem sccheck_group : FnScope ["value", "index", "p"] ["value"] (defScope scheck_group) := ⟨rfl, rfl, rfl, by decide +kernel, rfl, by decide +kernel, by decide +kernel⟩
theorem sccheck_prefix : FnScope ["degree", "value", "index", "point"] ["degree", "value"] (defScope scheck_prefix) := ⟨rfl, rfl, rfl, by decide +kernel, rfl, by decide +kernel, by decide +kernel⟩
theorem scunit : FnScope ["degree"] ["degree"] (defScope sunit) := ⟨rfl, rfl, rfl, by decide +kernel, rfl, by decide +kernel, by decide +kernel⟩
theorem sccompose : FnScope ["p", "q", "x"] ["p", "q"] (defScope scompose) := ⟨rfl, rfl, rfl, by decide +kernel, rfl, by decide +kernel, by decide +kernel⟩
theorem scinvert : FnScope ["p", "images", "point", "target"] ["p"] (defScope sinvert) := ⟨rfl, rfl, rfl, by decide +kernel, rfl, by decide +kernel, by decide +kernel⟩
theorem scTape___init__ : FnScope ["self", "one", "generators", "index", "p"] ["self", "one", "generators"] (defScope sTape___init__) := ⟨rfl, rfl, rfl, by decide +kernel, rfl, by decide +kernel, by decide +kernel⟩
theorem scTape_joined : FnScope ["self", "p", "q"] ["self", "p", "q"] (defScope sTape_joined) := ⟨rfl, rfl, rfl, by decide +kernel, rfl, by decide +kernel, by decide +kernel⟩
theorem scTape_flipped : FnScope ["self", "p"] ["self", "p"] (defScope sTape_flipped) := ⟨rfl, rfl, rfl, by decide +kernel, rfl, by decide +kernel, by decide +kernel⟩
theorem scTape_note : FnScope ["self", "p", "step"] ["self", "p", "step"] (defScope sTape_note) := ⟨rfl, rfl, rfl, by decide +kernel, rfl, by decide +kernel, by decide +kernel⟩
theorem scTape_times : FnScope ["self", "p", "q"] ["self", "p", "q"] (defScope sTape_times) := ⟨rfl, rfl, rfl, by decide +kernel, rfl, by decide +kernel, by decide +kernel⟩
theorem scTape_turned : FnScope ["self", "p"] ["self", "p"] (defScope sTape_turned) := ⟨rfl, rfl, rfl, by decide +kernel, rfl, by decide +kernel, by decide +kernel⟩
theorem scFloor___init__ : FnScope ["self", "point", "one"] ["self", "point", "one"] (defScope sFloor___init__) := ⟨rfl, rfl, rfl, by decide +kernel, rfl, by decide +kernel, by decide +kernel⟩
theorem scFloor_take : FnScope ["self", "p", "image"] ["self", "p"] (defScope sFloor_take) := ⟨rfl, rfl, rfl, by decide +kernel, rfl, by decide +kernel, by decide +kernel⟩
theorem scFloor_reach : FnScope ["self", "image", "carry", "turned", "p"] ["self", "image", "carry", "turned"] (defScope sFloor_reach) := ⟨rfl, rfl, rfl, by decide +kernel, rfl, by decide +kernel, by decide +kernel⟩
theorem scTower___init__ : FnScope ["self", "degree", "generators", "points", "p", "point"] ["self", "degree", "generators", "points"] (defScope sTower___init__) := ⟨rfl, rfl, rfl, by decide +kernel, rfl, by decide +kernel, by decide +kernel⟩
theorem scTower_sift : FnScope ["self", "p", "start", "factors", "at", "floor", "image"] ["self", "p", "start"] (defScope sTower_sift) := ⟨rfl, rfl, rfl, by decide +kernel, rfl, by decide +kernel, by decide +kernel⟩
theorem scTower_take : FnScope ["self", "p", "start", "factor", "floor", "rest", "at", "factors"] ["self", "p", "start"] (defScope sTower_take) := ⟨rfl, rfl, rfl, by decide +kernel, rfl, by decide +kernel, by decide +kernel⟩
theorem scTower_settle : FnScope ["self", "at"] ["self"] (defScope sTower_settle) := ⟨rfl, rfl, rfl, by decide +kernel, rfl, by decide +kernel, by decide +kernel⟩
theorem scTower_try_pair : FnScope ["self", "at", "floor", "target", "loop", "image", "p", "carry"] ["self", "at"] (defScope sTower_try_pair) := ⟨rfl, rfl, rfl, by decide +kernel, rfl, by decide +kernel, by decide +kernel⟩
theorem scTower_trim : FnScope ["self", "many", "floor"] ["self", "many"] (defScope sTower_trim) := ⟨rfl, rfl, rfl, by decide +kernel, rfl, by decide +kernel, by decide +kernel⟩
theorem scTower_holds : FnScope ["self", "p"] ["self", "p"] (defScope sTower_holds) := ⟨rfl, rfl, rfl, by decide +kernel, rfl, by decide +kernel, by decide +kernel⟩
theorem scTower_sizes : FnScope ["self", "floor"] ["self"] (defScope sTower_sizes) := ⟨rfl, rfl, rfl, by decide +kernel, rfl, by decide +kernel, by decide +kernel⟩
theorem scTower_order : FnScope ["self", "number", "size"] ["self"] (defScope sTower_order) := ⟨rfl, rfl, rfl, by decide +kernel, rfl, by decide +kernel, by decide +kernel⟩
theorem sctower_of : FnScope ["group", "first", "others", "degree", "generators", "point"] ["group", "first"] (defScope stower_of) := ⟨rfl, rfl, rfl, by decide +kernel, rfl, by decide +kernel, by decide +kernel⟩
theorem sclisted : FnScope ["group", "most", "tower", "rows", "floor", "p", "carry"] ["group", "most"] (defScope slisted) := ⟨rfl, rfl, rfl, by decide +kernel, rfl, by decide +kernel, by decide +kernel⟩
theorem scbase_points : FnScope ["group", "prefix", "floor"] ["group", "prefix"] (defScope sbase_points) := ⟨rfl, rfl, rfl, by decide +kernel, rfl, by decide +kernel, by decide +kernel⟩
theorem scorbit_sizes : FnScope ["group", "prefix", "floor"] ["group", "prefix"] (defScope sorbit_sizes) := ⟨rfl, rfl, rfl, by decide +kernel, rfl, by decide +kernel, by decide +kernel⟩
theorem scorder : FnScope ["group"] ["group"] (defScope sorder) := ⟨rfl, rfl, rfl, by decide +kernel, rfl, by decide +kernel, by decide +kernel⟩
theorem sc_floors : FnScope ["group", "prefix", "tower"] ["group", "prefix"] (defScope s_floors) := ⟨rfl, rfl, rfl, by decide +kernel, rfl, by decide +kernel, by decide +kernel⟩
theorem scall_elements : FnScope ["group"] ["group"] (defScope sall_elements) := ⟨rfl, rfl, rfl, by decide +kernel, rfl, by decide +kernel, by decide +kernel⟩
theorem sc_law_taken : FnScope ["row", "many", "cell", "found"] ["row", "many"] (defScope s_law_taken) := ⟨rfl, rfl, rfl, by decide +kernel, rfl, by decide +kernel, by decide +kernel⟩
theorem sc_law_small : FnScope ["found"] [] (defScope s_law_small) := ⟨rfl, rfl, rfl, by decide +kernel, rfl, by decide +kernel, by decide +kernel⟩
theorem sc_law_large : FnScope ["found", "three"] [] (defScope s_law_large) := ⟨rfl, rfl, rfl, by decide +kernel, rfl, by decide +kernel, by decide +kernel⟩
theorem sc_law_pick : FnScope ["row", "things"] ["row", "things"] (defScope s_law_pick) := ⟨rfl, rfl, rfl, by decide +kernel, rfl, by decide +kernel, by decide +kernel⟩
theorem sc_law_perm : FnScope ["row", "degree", "found", "at", "other"] ["row", "degree"] (defScope s_law_perm) := ⟨rfl, rfl, rfl, by decide +kernel, rfl, by decide +kernel, by decide +kernel⟩
theorem sc_law_mul : FnScope ["p", "q", "image"] ["p", "q"] (defScope s_law_mul) := ⟨rfl, rfl, rfl, by decide +kernel, rfl, by decide +kernel, by decide +kernel⟩
theorem sc_law_inv : FnScope ["p", "found", "point"] ["p"] (defScope s_law_inv) := ⟨rfl, rfl, rfl, by decide +kernel, rfl, by decide +kernel, by decide +kernel⟩
theorem sc_law_conj : FnScope ["p", "g"] ["p", "g"] (defScope s_law_conj) := ⟨rfl, rfl, rfl, by decide +kernel, rfl, by decide +kernel, by decide +kernel⟩
theorem sc_law_unit : FnScope ["degree"] ["degree"] (defScope s_law_unit) := ⟨rfl, rfl, rfl, by decide +kernel, rfl, by decide +kernel, by decide +kernel⟩
theorem sc_law_known : FnScope ["row", "degree", "most", "some", "told", "moved", "gens", "p"] ["row", "degree", "most"] (defScope s_law_known) := ⟨rfl, rfl, rfl, by decide +kernel, rfl, by decide +kernel, by decide +kernel⟩
theorem sc_law_group : FnScope ["row", "degree", "most", "few", "size", "at"] ["row", "degree", "most"] (defScope s_law_group) := ⟨rfl, rfl, rfl, by decide +kernel, rfl, by decide +kernel, by decide +kernel⟩
theorem sc_law_closure : FnScope ["degree", "gens", "turn", "found", "seen", "at", "g", "p"] ["degree", "gens"] (defScope s_law_closure) := ⟨rfl, rfl, rfl, by decide +kernel, rfl, by decide +kernel, by decide +kernel⟩
theorem sc_law_base : FnScope ["every", "degree", "prefix", "turn", "points", "sizes", "left", "moved", "x", "p"] ["every", "degree", "prefix"] (defScope s_law_base) := ⟨rfl, rfl, rfl, by decide +kernel, rfl, by decide +kernel, by decide +kernel⟩
theorem sc_law_alike : FnScope ["found", "due", "k"] ["found", "due"] (defScope s_law_alike) := ⟨rfl, rfl, rfl, by decide +kernel, rfl, by decide +kernel, by decide +kernel⟩
theorem sclaw : FnScope ["script", "row", "turn", "group", "every", "many", "size", "points", "sizes"] ["script"] (defScope slaw) := ⟨rfl, rfl, rfl, by decide +kernel, rfl, by decide +kernel, by decide +kernel⟩
/-! ### the facts -/
structure TX (K : PySem.W.Frag) (mg : Str → Option Value) (base : Heap) : Prop where
  F_is_between : Fun K "is_between" "is_between" sis_between (He.ga K "is_between") (fdK K "is_between")
  b_is_between : Binds K (fdK K "is_between") ["value", "low", "high"] []
  g_is_between : mg "is_between" = some (.ref (He.ga K "is_between"))
  F_is_row : Fun K "is_row" "is_row" sis_row (He.ga K "is_row") (fdK K "is_row")
  b_is_row : Binds K (fdK K "is_row") ["value", "most"] []
  g_is_row : mg "is_row" = some (.ref (He.ga K "is_row"))
  F_is_tuple_of : Fun K "is_tuple_of" "is_tuple_of" sis_tuple_of (He.ga K "is_tuple_of") (fdK K "is_tuple_of")
  b_is_tuple_of : Binds K (fdK K "is_tuple_of") ["value", "size"] []
  g_is_tuple_of : mg "is_tuple_of" = some (.ref (He.ga K "is_tuple_of"))
  F_is_degree : Fun K "is_degree" "is_degree" sis_degree (He.ga K "is_degree") (fdK K "is_degree")
  b_is_degree : Binds K (fdK K "is_degree") ["value"] []
  g_is_degree : mg "is_degree" = some (.ref (He.ga K "is_degree"))
  F_is_point : Fun K "is_point" "is_point" sis_point (He.ga K "is_point") (fdK K "is_point")
  b_is_point : Binds K (fdK K "is_point") ["degree", "value"] []
  g_is_point : mg "is_point" = some (.ref (He.ga K "is_point"))
  F_are_points : Fun K "are_points" "are_points" sare_points (He.ga K "are_points") (fdK K "are_points")
  b_are_points : Binds K (fdK K "are_points") ["degree", "value"] []
  g_are_points : mg "are_points" = some (.ref (He.ga K "are_points"))
  F_are_distinct_points : Fun K "are_distinct_points" "are_distinct_points" sare_distinct_points (He.ga K "are_distinct_points") (fdK K "are_distinct_points")
  b_are_distinct_points : Binds K (fdK K "are_distinct_points") ["degree", "value"] []
  g_are_distinct_points : mg "are_distinct_points" = some (.ref (He.ga K "are_distinct_points"))
  F_is_permutation : Fun K "is_permutation" "is_permutation" sis_permutation (He.ga K "is_permutation") (fdK K "is_permutation")
  b_is_permutation : Binds K (fdK K "is_permutation") ["degree", "value"] []
  g_is_permutation : mg "is_permutation" = some (.ref (He.ga K "is_permutation"))
  F_check_group : Fun K "check_group" "check_group" scheck_group (He.ga K "check_group") (fdK K "check_group")
  b_check_group : Binds K (fdK K "check_group") ["value"] []
  g_check_group : mg "check_group" = some (.ref (He.ga K "check_group"))
  F_check_prefix : Fun K "check_prefix" "check_prefix" scheck_prefix (He.ga K "check_prefix") (fdK K "check_prefix")
  b_check_prefix : Binds K (fdK K "check_prefix") ["degree", "value"] []
  g_check_prefix : mg "check_prefix" = some (.ref (He.ga K "check_prefix"))
  F_unit : Fun K "unit" "unit" sunit (He.ga K "unit") (fdK K "unit")
  b_unit : Binds K (fdK K "unit") ["degree"] []
  g_unit : mg "unit" = some (.ref (He.ga K "unit"))
  F_compose : Fun K "compose" "compose" scompose (He.ga K "compose") (fdK K "compose")
  b_compose : Binds K (fdK K "compose") ["p", "q"] []
  g_compose : mg "compose" = some (.ref (He.ga K "compose"))
  F_invert : Fun K "invert" "invert" sinvert (He.ga K "invert") (fdK K "invert")
  b_invert : Binds K (fdK K "invert") ["p"] []
  g_invert : mg "invert" = some (.ref (He.ga K "invert"))
  F_Tape___init__ : Fun K "__init__" "Tape.__init__" sTape___init__ (He.ma K (He.ga K "Tape") "__init__") (fdA K (He.ma K (He.ga K "Tape") "__init__"))
  b_Tape___init__ : Binds K (fdA K (He.ma K (He.ga K "Tape") "__init__")) ["self", "one", "generators"] []
  F_Tape_joined : Fun K "joined" "Tape.joined" sTape_joined (He.ma K (He.ga K "Tape") "joined") (fdA K (He.ma K (He.ga K "Tape") "joined"))
  b_Tape_joined : Binds K (fdA K (He.ma K (He.ga K "Tape") "joined")) ["self", "p", "q"] []
  F_Tape_flipped : Fun K "flipped" "Tape.flipped" sTape_flipped (He.ma K (He.ga K "Tape") "flipped") (fdA K (He.ma K (He.ga K "Tape") "flipped"))
  b_Tape_flipped : Binds K (fdA K (He.ma K (He.ga K "Tape") "flipped")) ["self", "p"] []
  F_Tape_note : Fun K "note" "Tape.note" sTape_note (He.ma K (He.ga K "Tape") "note") (fdA K (He.ma K (He.ga K "Tape") "note"))
  b_Tape_note : Binds K (fdA K (He.ma K (He.ga K "Tape") "note")) ["self", "p", "step"] []
  F_Tape_times : Fun K "times" "Tape.times" sTape_times (He.ma K (He.ga K "Tape") "times") (fdA K (He.ma K (He.ga K "Tape") "times"))
  b_Tape_times : Binds K (fdA K (He.ma K (He.ga K "Tape") "times")) ["self", "p", "q"] []
  F_Tape_turned : Fun K "turned" "Tape.turned" sTape_turned (He.ma K (He.ga K "Tape") "turned") (fdA K (He.ma K (He.ga K "Tape") "turned"))
  b_Tape_turned : Binds K (fdA K (He.ma K (He.ga K "Tape") "turned")) ["self", "p"] []
  F_Floor___init__ : Fun K "__init__" "Floor.__init__" sFloor___init__ (He.ma K (He.ga K "Floor") "__init__") (fdA K (He.ma K (He.ga K "Floor") "__init__"))
  b_Floor___init__ : Binds K (fdA K (He.ma K (He.ga K "Floor") "__init__")) ["self", "point", "one"] []
  F_Floor_take : Fun K "take" "Floor.take" sFloor_take (He.ma K (He.ga K "Floor") "take") (fdA K (He.ma K (He.ga K "Floor") "take"))
  b_Floor_take : Binds K (fdA K (He.ma K (He.ga K "Floor") "take")) ["self", "p"] []
  F_Floor_reach : Fun K "reach" "Floor.reach" sFloor_reach (He.ma K (He.ga K "Floor") "reach") (fdA K (He.ma K (He.ga K "Floor") "reach"))
  b_Floor_reach : Binds K (fdA K (He.ma K (He.ga K "Floor") "reach")) ["self", "image", "carry", "turned"] []
  F_Tower___init__ : Fun K "__init__" "Tower.__init__" sTower___init__ (He.ma K (He.ga K "Tower") "__init__") (fdA K (He.ma K (He.ga K "Tower") "__init__"))
  b_Tower___init__ : Binds K (fdA K (He.ma K (He.ga K "Tower") "__init__")) ["self", "degree", "generators", "points"] []
  F_Tower_sift : FunD K "sift" "Tower.sift" (defArgs sTower_sift) (defBody sTower_sift) (defScope sTower_sift) [.int 0] [] (He.ma K (He.ga K "Tower") "sift") (fdA K (He.ma K (He.ga K "Tower") "sift"))
  b_Tower_sift : BindsD K (fdA K (He.ma K (He.ga K "Tower") "sift")) ["self", "p", "start"] [.int 0]
  f_Tower_sift : BindsD K (fdA K (He.ma K (He.ga K "Tower") "sift")) ["self", "p", "start"] []
  F_Tower_take : Fun K "take" "Tower.take" sTower_take (He.ma K (He.ga K "Tower") "take") (fdA K (He.ma K (He.ga K "Tower") "take"))
  b_Tower_take : Binds K (fdA K (He.ma K (He.ga K "Tower") "take")) ["self", "p", "start"] []
  F_Tower_settle : Fun K "settle" "Tower.settle" sTower_settle (He.ma K (He.ga K "Tower") "settle") (fdA K (He.ma K (He.ga K "Tower") "settle"))
  b_Tower_settle : Binds K (fdA K (He.ma K (He.ga K "Tower") "settle")) ["self"] []
  F_Tower_try_pair : Fun K "try_pair" "Tower.try_pair" sTower_try_pair (He.ma K (He.ga K "Tower") "try_pair") (fdA K (He.ma K (He.ga K "Tower") "try_pair"))
  b_Tower_try_pair : Binds K (fdA K (He.ma K (He.ga K "Tower") "try_pair")) ["self", "at"] []
  F_Tower_trim : Fun K "trim" "Tower.trim" sTower_trim (He.ma K (He.ga K "Tower") "trim") (fdA K (He.ma K (He.ga K "Tower") "trim"))
  b_Tower_trim : Binds K (fdA K (He.ma K (He.ga K "Tower") "trim")) ["self", "many"] []
  F_Tower_holds : Fun K "holds" "Tower.holds" sTower_holds (He.ma K (He.ga K "Tower") "holds") (fdA K (He.ma K (He.ga K "Tower") "holds"))
  b_Tower_holds : Binds K (fdA K (He.ma K (He.ga K "Tower") "holds")) ["self", "p"] []
  F_Tower_sizes : Fun K "sizes" "Tower.sizes" sTower_sizes (He.ma K (He.ga K "Tower") "sizes") (fdA K (He.ma K (He.ga K "Tower") "sizes"))
  b_Tower_sizes : Binds K (fdA K (He.ma K (He.ga K "Tower") "sizes")) ["self"] []
  F_Tower_order : Fun K "order" "Tower.order" sTower_order (He.ma K (He.ga K "Tower") "order") (fdA K (He.ma K (He.ga K "Tower") "order"))
  b_Tower_order : Binds K (fdA K (He.ma K (He.ga K "Tower") "order")) ["self"] []
  F_tower_of : FunDK K "tower_of" "tower_of" stower_of [.ref (He.dflAt ("tower_of", none) 0 K)]
  b_tower_of : BindsD K (fdK K "tower_of") ["group", "first"] [.ref (He.dflAt ("tower_of", none) 0 K)]
  f_tower_of : BindsD K (fdK K "tower_of") ["group", "first"] []
  g_tower_of : mg "tower_of" = some (.ref (He.ga K "tower_of"))
  F_listed : Fun K "listed" "listed" slisted (He.ga K "listed") (fdK K "listed")
  b_listed : Binds K (fdK K "listed") ["group", "most"] []
  g_listed : mg "listed" = some (.ref (He.ga K "listed"))
  F_base_points : FunD K "base_points" "base_points" (defArgs sbase_points) (defBody sbase_points) (defScope sbase_points) [] [("prefix", .ref (kwA "base_points" "prefix" K))] (He.ga K "base_points") (fdK K "base_points")
  b_base_points : ∃ ds, Vals [.ref (kwA "base_points" "prefix" K)] ds ∧ Binds K (fdK K "base_points") ["group", "prefix"] ds
  g_base_points : mg "base_points" = some (.ref (He.ga K "base_points"))
  F_orbit_sizes : FunD K "orbit_sizes" "orbit_sizes" (defArgs sorbit_sizes) (defBody sorbit_sizes) (defScope sorbit_sizes) [] [("prefix", .ref (kwA "orbit_sizes" "prefix" K))] (He.ga K "orbit_sizes") (fdK K "orbit_sizes")
  b_orbit_sizes : ∃ ds, Vals [.ref (kwA "orbit_sizes" "prefix" K)] ds ∧ Binds K (fdK K "orbit_sizes") ["group", "prefix"] ds
  g_orbit_sizes : mg "orbit_sizes" = some (.ref (He.ga K "orbit_sizes"))
  F_order : Fun K "order" "order" sorder (He.ga K "order") (fdK K "order")
  b_order : Binds K (fdK K "order") ["group"] []
  g_order : mg "order" = some (.ref (He.ga K "order"))
  F__floors : Fun K "_floors" "_floors" s_floors (He.ga K "_floors") (fdK K "_floors")
  b__floors : Binds K (fdK K "_floors") ["group", "prefix"] []
  g__floors : mg "_floors" = some (.ref (He.ga K "_floors"))
  F_all_elements : Fun K "all_elements" "all_elements" sall_elements (He.ga K "all_elements") (fdK K "all_elements")
  b_all_elements : Binds K (fdK K "all_elements") ["group"] []
  g_all_elements : mg "all_elements" = some (.ref (He.ga K "all_elements"))
  F__law_taken : Fun K "_law_taken" "_law_taken" s_law_taken (He.ga K "_law_taken") (fdK K "_law_taken")
  b__law_taken : Binds K (fdK K "_law_taken") ["row", "many"] []
  g__law_taken : mg "_law_taken" = some (.ref (He.ga K "_law_taken"))
  F__law_small : Fun K "_law_small" "_law_small" s_law_small (He.ga K "_law_small") (fdK K "_law_small")
  b__law_small : Binds K (fdK K "_law_small") [] []
  g__law_small : mg "_law_small" = some (.ref (He.ga K "_law_small"))
  F__law_large : Fun K "_law_large" "_law_large" s_law_large (He.ga K "_law_large") (fdK K "_law_large")
  b__law_large : Binds K (fdK K "_law_large") [] []
  g__law_large : mg "_law_large" = some (.ref (He.ga K "_law_large"))
  F__law_pick : Fun K "_law_pick" "_law_pick" s_law_pick (He.ga K "_law_pick") (fdK K "_law_pick")
  b__law_pick : Binds K (fdK K "_law_pick") ["row", "things"] []
  g__law_pick : mg "_law_pick" = some (.ref (He.ga K "_law_pick"))
  F__law_perm : Fun K "_law_perm" "_law_perm" s_law_perm (He.ga K "_law_perm") (fdK K "_law_perm")
  b__law_perm : Binds K (fdK K "_law_perm") ["row", "degree"] []
  g__law_perm : mg "_law_perm" = some (.ref (He.ga K "_law_perm"))
  F__law_mul : Fun K "_law_mul" "_law_mul" s_law_mul (He.ga K "_law_mul") (fdK K "_law_mul")
  b__law_mul : Binds K (fdK K "_law_mul") ["p", "q"] []
  g__law_mul : mg "_law_mul" = some (.ref (He.ga K "_law_mul"))
  F__law_inv : Fun K "_law_inv" "_law_inv" s_law_inv (He.ga K "_law_inv") (fdK K "_law_inv")
  b__law_inv : Binds K (fdK K "_law_inv") ["p"] []
  g__law_inv : mg "_law_inv" = some (.ref (He.ga K "_law_inv"))
  F__law_conj : Fun K "_law_conj" "_law_conj" s_law_conj (He.ga K "_law_conj") (fdK K "_law_conj")
  b__law_conj : Binds K (fdK K "_law_conj") ["p", "g"] []
  g__law_conj : mg "_law_conj" = some (.ref (He.ga K "_law_conj"))
  F__law_unit : Fun K "_law_unit" "_law_unit" s_law_unit (He.ga K "_law_unit") (fdK K "_law_unit")
  b__law_unit : Binds K (fdK K "_law_unit") ["degree"] []
  g__law_unit : mg "_law_unit" = some (.ref (He.ga K "_law_unit"))
  F__law_known : Fun K "_law_known" "_law_known" s_law_known (He.ga K "_law_known") (fdK K "_law_known")
  b__law_known : Binds K (fdK K "_law_known") ["row", "degree", "most"] []
  g__law_known : mg "_law_known" = some (.ref (He.ga K "_law_known"))
  F__law_group : Fun K "_law_group" "_law_group" s_law_group (He.ga K "_law_group") (fdK K "_law_group")
  b__law_group : Binds K (fdK K "_law_group") ["row", "degree", "most"] []
  g__law_group : mg "_law_group" = some (.ref (He.ga K "_law_group"))
  F__law_closure : Fun K "_law_closure" "_law_closure" s_law_closure (He.ga K "_law_closure") (fdK K "_law_closure")
  b__law_closure : Binds K (fdK K "_law_closure") ["degree", "gens"] []
  g__law_closure : mg "_law_closure" = some (.ref (He.ga K "_law_closure"))
  F__law_base : Fun K "_law_base" "_law_base" s_law_base (He.ga K "_law_base") (fdK K "_law_base")
  b__law_base : Binds K (fdK K "_law_base") ["every", "degree", "prefix"] []
  g__law_base : mg "_law_base" = some (.ref (He.ga K "_law_base"))
  F__law_alike : Fun K "_law_alike" "_law_alike" s_law_alike (He.ga K "_law_alike") (fdK K "_law_alike")
  b__law_alike : Binds K (fdK K "_law_alike") ["found", "due"] []
  g__law_alike : mg "_law_alike" = some (.ref (He.ga K "_law_alike"))
  F_law : Fun K "law" "law" slaw (He.ga K "law") (fdK K "law")
  b_law : Binds K (fdK K "law") ["script"] []
  g_law : mg "law" = some (.ref (He.ga K "law"))
  k_Tape : L2.Cls K (He.ga K "Tape")
  M_Tape : L2.Mk K (He.ga K "Tape") (He.ma K (He.ga K "Tape") "__init__")
  G_Tape : mg "Tape" = some (.ref (He.ga K "Tape"))
  k_Floor : L2.Cls K (He.ga K "Floor")
  M_Floor : L2.Mk K (He.ga K "Floor") (He.ma K (He.ga K "Floor") "__init__")
  G_Floor : mg "Floor" = some (.ref (He.ga K "Floor"))
  k_Tower : L2.Cls K (He.ga K "Tower")
  M_Tower : L2.Mk K (He.ga K "Tower") (He.ma K (He.ga K "Tower") "__init__")
  G_Tower : mg "Tower" = some (.ref (He.ga K "Tower"))
  a_Tape_one : L2.NoAttr K (He.ga K "Tape") "one"
  a_Tape_places : L2.NoAttr K (He.ga K "Tape") "places"
  a_Tape_steps : L2.NoAttr K (He.ga K "Tape") "steps"
  a_Floor_back : L2.NoAttr K (He.ga K "Floor") "back"
  a_Floor_forth : L2.NoAttr K (He.ga K "Floor") "forth"
  a_Floor_generators : L2.NoAttr K (He.ga K "Floor") "generators"
  a_Floor_pending : L2.NoAttr K (He.ga K "Floor") "pending"
  a_Floor_point : L2.NoAttr K (He.ga K "Floor") "point"
  a_Tower_floors : L2.NoAttr K (He.ga K "Tower") "floors"
  a_Tower_is_blind : L2.NoAttr K (He.ga K "Tower") "is_blind"
  a_Tower_one : L2.NoAttr K (He.ga K "Tower") "one"
  a_Tower_tape : L2.NoAttr K (He.ga K "Tower") "tape"
  m_Tape_joined : L2.Meth K (He.ga K "Tape") "joined" (He.ma K (He.ga K "Tape") "joined")
  m_Tape_flipped : L2.Meth K (He.ga K "Tape") "flipped" (He.ma K (He.ga K "Tape") "flipped")
  m_Tape_note : L2.Meth K (He.ga K "Tape") "note" (He.ma K (He.ga K "Tape") "note")
  m_Tape_times : L2.Meth K (He.ga K "Tape") "times" (He.ma K (He.ga K "Tape") "times")
  m_Tape_turned : L2.Meth K (He.ga K "Tape") "turned" (He.ma K (He.ga K "Tape") "turned")
  m_Floor_take : L2.Meth K (He.ga K "Floor") "take" (He.ma K (He.ga K "Floor") "take")
  m_Floor_reach : L2.Meth K (He.ga K "Floor") "reach" (He.ma K (He.ga K "Floor") "reach")
  m_Tower_sift : L2.Meth K (He.ga K "Tower") "sift" (He.ma K (He.ga K "Tower") "sift")
  m_Tower_take : L2.Meth K (He.ga K "Tower") "take" (He.ma K (He.ga K "Tower") "take")
  m_Tower_settle : L2.Meth K (He.ga K "Tower") "settle" (He.ma K (He.ga K "Tower") "settle")
  m_Tower_try_pair : L2.Meth K (He.ga K "Tower") "try_pair" (He.ma K (He.ga K "Tower") "try_pair")
  m_Tower_trim : L2.Meth K (He.ga K "Tower") "trim" (He.ma K (He.ga K "Tower") "trim")
  m_Tower_holds : L2.Meth K (He.ga K "Tower") "holds" (He.ma K (He.ga K "Tower") "holds")
  m_Tower_sizes : L2.Meth K (He.ga K "Tower") "sizes" (He.ma K (He.ga K "Tower") "sizes")
  m_Tower_order : L2.Meth K (He.ga K "Tower") "order" (He.ma K (He.ga K "Tower") "order")
  e_tower_of : ∀ H, SqT K H (He.dflAt ("tower_of", none) 0 K) []
  e_base_points_prefix : ∀ H, SqT K H (kwA "base_points" "prefix" K) []
  e_orbit_sizes_prefix : ∀ H, SqT K H (kwA "orbit_sizes" "prefix" K) []
  n_all : mg "all" = none
  n_bool : mg "bool" = none
  n_enumerate : mg "enumerate" = none
  n_int : mg "int" = none
  n_isinstance : mg "isinstance" = none
  n_len : mg "len" = none
  n_list : mg "list" = none
  n_min : mg "min" = none
  n_range : mg "range" = none
  n_reversed : mg "reversed" = none
  n_set : mg "set" = none
  n_sorted : mg "sorted" = none
  n_str : mg "str" = none
  n_tuple : mg "tuple" = none
  n_type : mg "type" = none
  c_MOST_DEGREE : ∃ u, mg "MOST_DEGREE" = some u ∧ RelV (.int 12) u
  c_MOST_GENERATORS : ∃ u, mg "MOST_GENERATORS" = some u ∧ RelV (.int 12) u
  c_MOST_LISTED : ∃ u, mg "MOST_LISTED" = some u ∧ RelV (.int 2000) u
  tab_are_points : GxR.TabB base mg (He.cT K ("are_points", none)).1 (He.cT K ("are_points", none)).2
def tabL : List Str := ["are_points"]
end KL
namespace KL
open PySem PySem.Spec PyProof.Rows L2 GA GxR
local macro_rules | `(tactic| walk_at "sx") => `(tactic| simp only [L2.start, List.map_cons, List.map_nil, List.length_cons, List.length_nil, Nat.reduceAdd, Nat.reduceSub, List.replicate, List.cons_append, List.nil_append, tRet, tSeq, tNext, tIfS, tAsg, tDrop, gName, gSub, rSetL, gTup, gCons, gNil, tB, tNot, tTest, tAndV, tOrV, tNotV, tAnd, tOr, tIf, tOp, tUn, tThenZ, tThen, r1, kTyp, kTup, tVar, tC, tChain, tCB, tCons, tNil, rI0, rI, rEq, rNe, rRep, rIxT, rIxL, tCall, tTup, tLst, tTupRg, tLstRg, tRg1, tRg2, tPar, List.getElem?_cons_zero, List.getElem?_cons_succ, List.set_cons_zero, List.set_cons_succ, Option.some.injEq, exists_eq_left', exists_eq_left, V.ty.injEq, V.int.injEq, V.bl.injEq, V.ref.injEq, List.cons.injEq, and_true, true_and, wipe, exists_and_left, List.append_nil, reduceCtorEq, false_and, exists_false, false_or, or_false])
local macro_rules | `(tactic| walk_at "so") => `(tactic| simp only [L2.start, tDisp, tPairs, tFld, tMeth, sFld, tMake, tDGet, sDPut, tDIn, tDNotIn, List.append_nil, List.map_cons, List.map_nil, List.length_cons, List.length_nil, Nat.reduceAdd, Nat.reduceSub, List.replicate, List.cons_append, List.nil_append, tRet, tSeq, tNext, tIfS, tAsg, tDrop, gName, gSub, rSetL, gTup, gCons, gNil, tB, tNot, tTest, tAndV, tOrV, tNotV, tAnd, tOr, tIf, tOp, tUn, tThenZ, tThen, r1, kTyp, kTup, tVar, tC, tChain, tCB, tCons, tNil, rI0, rI, rEq, rNe, rRep, rIxT, rIxL, tCall, tTup, tLst, tTupRg, tLstRg, tRg1, tRg2, tPar, List.getElem?_cons_zero, List.getElem?_cons_succ, List.set_cons_zero, List.set_cons_succ, Option.some.injEq, exists_eq_left', exists_eq_left, V.ty.injEq, V.int.injEq, V.bl.injEq, V.ref.injEq, List.cons.injEq, and_true, true_and, wipe, exists_and_left, List.append_nil, reduceCtorEq, false_and, exists_false, false_or, or_false])
section
variable {P : Program} {w : World} {K : PySem.W.Frag} {mg : Str → Option Value} {base : Heap}
theorem ok_is_between (T : TX K mg base) : FnOk P w K mg base CX0 1 (He.ga K "is_between") (fdK K "is_between") ["value", "low", "high"] spBetween := by
  refine T.F_is_between.ok scis_between (fun vs H Q E h => ?_) (fun cdv A outer s H vs Q E hr h => ?_)
  · obtain ⟨v, lo, hi, rfl, _⟩ := h
    rfl
  · obtain ⟨v, lo, hi, rfl, ⟨n, hn⟩, q⟩ := h
    refine ⟨_, (pss_one (ps_ret (pe_and (pe_cmpR op_isTy (pe_typeOf (by rfl) T.n_type (pv 0)) (pe_bltn (v := .ty "int") (by rfl) T.n_int (by decide +kernel) rfl) (nomark _)) (pe_one (pe_chain op_le op_le (pv 1) (pv 0) (pv 2)))))), ?_⟩
    walk_at "sx"
    simp only [hn, Option.some.injEq, exists_eq_left']
    by_cases e : n = "int"
    · subst e
      obtain ⟨i, rfl⟩ := zty_int v H hn
      refine ite2 (fun _ => ⟨i, rfl, ite2 (fun c => ⟨i, rfl, ?_⟩) (fun c => ?_)⟩) (fun z => absurd rfl z)
      · simpa only [btV, c, Bool.true_and] using q
      · simpa only [btV, Bool.eq_false_iff.mpr c, Bool.false_and] using q
    · rw [if_neg (by simpa using e)]
      have eb : btV lo hi v = false := by
        cases v with
        | int i => exact absurd (Option.some.inj hn).symm e
        | _ => rfl
      rw [eb] at q
      exact q
theorem ok_is_row (T : TX K mg base) : FnOk P w K mg base CX0 1 (He.ga K "is_row") (fdK K "is_row") ["value", "most"] spRow := by
  refine T.F_is_row.ok scis_row (fun vs H Q E h => ?_) (fun cdv A outer s H vs Q E hr h => ?_)
  · obtain ⟨v, n, rfl, _⟩ := h
    rfl
  · obtain ⟨v, n, rfl, ⟨m, hm⟩, q⟩ := h
    refine ⟨_, (pss_one (ps_ret (pe_and (pe_cmpR op_isTy (pe_typeOf (by rfl) T.n_type (pv 0)) (pe_bltn (v := .ty "tuple") (by rfl) T.n_tuple (by decide +kernel) rfl) (nomark _)) (pe_one (pe_cmpR op_le (pe_callB (lenS (K := K) rfl) (by rfl) T.n_len PySem.boot_len (pa_cons (pv 0) pa_nil)) (pv 1) (nomark _)))))), ?_⟩
    walk_at "sx"
    simp only [hm, Option.some.injEq, exists_eq_left']
    cases ht : tupOf H v with
    | none =>
      rw [if_neg (by simpa using zty_not v H m hm ht)]
      simpa only [rowB, ht] using q
    | some xs =>
      obtain ⟨a, rfl, ha⟩ := tupOf_some ht
      have em : m = "tuple" := Option.some.inj (hm.symm.trans (zty_tup _ H xs ht))
      rw [if_pos (by simpa using em)]
      refine ⟨a, rfl, xs, .inr (.inl (.inl ha)), ?_⟩
      simpa only [rowB, ht] using q
theorem ok_is_tuple_of (T : TX K mg base) : FnOk P w K mg base CX0 1 (He.ga K "is_tuple_of") (fdK K "is_tuple_of") ["value", "size"] spTupleOf := by
  refine T.F_is_tuple_of.ok scis_tuple_of (fun vs H Q E h => ?_) (fun cdv A outer s H vs Q E hr h => ?_)
  · obtain ⟨v, n, rfl, _⟩ := h
    rfl
  · obtain ⟨v, n, rfl, ⟨m, hm⟩, q⟩ := h
    refine ⟨_, (pss_one (ps_ret (pe_and (pe_cmpR op_isTy (pe_typeOf (by rfl) T.n_type (pv 0)) (pe_bltn (v := .ty "tuple") (by rfl) T.n_tuple (by decide +kernel) rfl) (nomark _)) (pe_one (pe_cmpR op_eq (pe_callB (lenS (K := K) rfl) (by rfl) T.n_len PySem.boot_len (pa_cons (pv 0) pa_nil)) (pv 1) (nomark _)))))), ?_⟩
    walk_at "sx"
    simp only [hm, Option.some.injEq, exists_eq_left']
    cases ht : tupOf H v with
    | none =>
      rw [if_neg (by simpa using zty_not v H m hm ht)]
      simpa only [lenB, ht] using q
    | some xs =>
      obtain ⟨a, rfl, ha⟩ := tupOf_some ht
      have em : m = "tuple" := Option.some.inj (hm.symm.trans (zty_tup _ H xs ht))
      rw [if_pos (by simpa using em)]
      refine ⟨a, rfl, xs, .inr (.inl (.inl ha)), rfl, ?_⟩
      simpa only [lenB, ht, V.int.injEq] using q
theorem ok_is_degree (T : TX K mg base) : FnOk P w K mg base CX0 2 (He.ga K "is_degree") (fdK K "is_degree") ["value"] spDegree := by
  refine T.F_is_degree.ok scis_degree (fun vs H Q E h => ?_) (fun cdv A outer s H vs Q E hr h => ?_)
  · obtain ⟨v, rfl, _⟩ := h
    rfl
  · obtain ⟨v, rfl, t, q⟩ := h
    refine ⟨_, (pss_one (ps_ret (pe_call (ok_is_between T) hr (by rfl) T.g_is_between T.F_is_between.kp T.b_is_between .nil pass0 (pa_cons (pv 0) (pa_cons pe_int (pa_cons (C8.pe_gc rfl T.c_MOST_DEGREE) pa_nil)))))), ?_⟩
    walk_at "sx"
    exact ⟨v, 1, 12, rfl, t, q⟩
theorem ok_is_point (T : TX K mg base) : FnOk P w K mg base CX0 2 (He.ga K "is_point") (fdK K "is_point") ["degree", "value"] spIsPt := by
  refine T.F_is_point.ok scis_point (fun vs H Q E h => ?_) (fun cdv A outer s H vs Q E hr h => ?_)
  · obtain ⟨v, d, rfl, _⟩ := h
    rfl
  · obtain ⟨v, d, rfl, ty, z⟩ := h
    refine ⟨_, (pss_one (ps_ret (pe_call (ok_is_between T) hr (by rfl) T.g_is_between T.F_is_between.kp T.b_is_between .nil pass0 (pa_cons (pv 1) (pa_cons pe_int (pa_cons (pe_op op_sub (pv 0) pe_int) pa_nil)))))), ?_⟩
    walk_at "so"
    exact ⟨v, 0, d - 1, rfl, ty, z⟩
theorem bd : BtDef sis_between := ⟨⟨_, _, _, _, _, _, _, _, _, _, _, rfl⟩, rfl, rfl, rfl, by decide +kernel, rfl, rfl, rfl, rfl, rfl⟩
theorem pd : PtDef sis_point := ⟨⟨_, _, _, _, _, _, _, _, _, _, rfl⟩, rfl, rfl, rfl, by decide +kernel, rfl, rfl, rfl⟩
theorem ok_are_points (T : TX K mg base) : FnOk P w K mg base CX0 3 (He.ga K "are_points") (fdK K "are_points") ["degree", "value"] (spPoints K) := by
  refine okC T.F_are_points scare_points (fun vs H Q E h => ?_) (fun cdv A outer s H vs Q E hcd hr h => ?_)
  · obtain ⟨v, d, rfl, _⟩ := h
    rfl
  · obtain ⟨v, d, rfl, ⟨⟨m, hm⟩, hit⟩, hT, q⟩ := h
    refine ⟨_, (pss_one (ps_ret (pe_and (pe_cmpR op_isTy (pe_typeOf (by rfl) T.n_type (pv 1)) (pe_bltn (v := .ty "tuple") (by rfl) T.n_tuple (by decide +kernel) rfl) (nomark _)) (pe_one (pe_allT hr (by rfl) T.n_all T.tab_are_points hcd (by exact genS_by rfl rfl (by decide) rfl rfl rfl) (pv 1) (by intro _; rfl) (by decide +kernel)))))), ?_⟩
    walk_at "sx"
    simp only [hm, Option.some.injEq, exists_eq_left', tAllT]
    cases ht : tupOf H v with
    | none =>
      rw [if_neg (by simpa using zty_not v H m hm ht)]
      have q := q H (Ex.refl H)
      simpa only [ptsB, ht] using q
    | some xs =>
      obtain ⟨a, rfl, ha⟩ := tupOf_some ht
      have em : m = "tuple" := Option.some.inj (hm.symm.trans (zty_tup _ H xs ht))
      rw [if_pos (by simpa using em)]
      walk_at "sx"
      refine ⟨xs, .inl (.inl ha), hT, btV 0 (d - 1), fun pins s1 I => ?_, fun H2 hTb => ?_⟩
      · exact elt_point (i := 0) (k := 0) I hT (by exact genS_by rfl rfl (by decide) rfl rfl rfl) ⟨rfl, rfl, rfl, rfl⟩ rfl rfl rfl T.F_is_point pd T.b_is_point T.g_is_point T.F_is_between bd T.b_is_between T.g_is_between T.n_type T.n_int hr (hit xs ht).2 (base_ne I hT)
      · have q := q H2 (Ex.tabbed hT hTb)
        simpa only [ptsB, ht] using q
theorem ok_are_distinct_points (T : TX K mg base) : FnOk P w K mg base CX0 4 (He.ga K "are_distinct_points") (fdK K "are_distinct_points") ["degree", "value"] (spDistinct K) := by
  refine T.F_are_distinct_points.ok scare_distinct_points (fun vs H Q E h => ?_) (fun cdv A outer s H vs Q E hr h => ?_)
  · obtain ⟨v, d, rfl, _⟩ := h
    rfl
  · obtain ⟨v, d, rfl, g, hT, q⟩ := h
    refine ⟨_, (pss_one (ps_ret (pe_and (pe_call (ok_are_points T) hr (by rfl) T.g_are_points T.F_are_points.kp T.b_are_points .nil pass0 (pa_cons (pv 0) (pa_cons (pv 1) pa_nil))) (pe_one (pe_cmpR op_eq (pe_lenSetT (by rfl) T.n_len (by rfl) T.n_set (pv 1)) (pe_callB (lenS (K := K) rfl) (by rfl) T.n_len PySem.boot_len (pa_cons (pv 1) pa_nil)) (nomark _)))))), ?_⟩
    walk_at "sx"
    refine ⟨v, d, rfl, g, hT, fun H' x => ⟨_, rfl, ?_⟩⟩
    cases ht : tupOf H v with
    | none =>
      have e : ptsB H d v = false := by unfold ptsB; rw [ht]
      rw [e]
      refine iteF ?_
      have q := q H' x
      simpa only [dstB, ht] using q
    | some xs =>
      obtain ⟨a, rfl, ha⟩ := tupOf_some ht
      have e : ptsB H d (.ref a) = xs.all (btV 0 (d - 1)) := by unfold ptsB; rw [ht]
      have e2 : dstB H d (.ref a) = (xs.all (btV 0 (d - 1)) && decide xs.Nodup) := by unfold dstB; rw [ht]
      rw [e]
      rw [e2] at q
      cases hall : xs.all (btV 0 (d - 1)) with
      | false =>
        rw [hall] at q
        exact iteF (q H' x)
      | true =>
        rw [hall, Bool.true_and] at q
        obtain ⟨ns, rfl, hns⟩ := all_ints hall
        refine iteT ?_
        have ha' : H' a = some (.tup (ns.map V.int)) := x.st _ _ ha trivial
        have hlen := (g.it _ ht).1
        rw [List.length_map] at hlen
        unfold tLenSetT
        walk_at "sx"
        refine ⟨ns, .inl (.inl ha'), hlen, fun ks hk hm => ⟨ns.map V.int, .inr (.inl (.inl ha')), rfl, ?_⟩⟩
        have eb : decide (((ks.length : Nat) : Int) = (((ns.map V.int).length : Nat) : Int)) = decide (ns.map V.int).Nodup := by
          rw [List.length_map, decide_eq_decide, nodup_map_int]
          constructor
          · intro z
            exact nodup_of_len hk hm (by omega)
          · intro z
            rw [len_nodup hk hm z]
        rw [eb]
        exact q H' x
theorem ok_is_permutation (T : TX K mg base) : FnOk P w K mg base CX0 5 (He.ga K "is_permutation") (fdK K "is_permutation") ["degree", "value"] (spPerm K) := by
  refine T.F_is_permutation.ok scis_permutation (fun vs H Q E h => ?_) (fun cdv A outer s H vs Q E hr h => ?_)
  · obtain ⟨v, d, rfl, _⟩ := h
    rfl
  · obtain ⟨v, d, rfl, g, hT, q⟩ := h
    refine ⟨_, (pss_one (ps_ret (pe_and (pe_call (ok_is_tuple_of T) (hr.mono (by decide)) (by rfl) T.g_is_tuple_of T.F_is_tuple_of.kp T.b_is_tuple_of .nil pass0 (pa_cons (pv 1) (pa_cons (pv 0) pa_nil))) (pe_one (pe_call (ok_are_distinct_points T) hr (by rfl) T.g_are_distinct_points T.F_are_distinct_points.kp T.b_are_distinct_points .nil pass0 (pa_cons (pv 0) (pa_cons (pv 1) pa_nil))))))), ?_⟩
    walk_at "sx"
    refine ⟨v, d, rfl, g.ty, _, rfl, ?_⟩
    unfold permB at q
    cases e : lenB H d v with
    | false =>
      rw [e] at q
      exact iteF (q H (Ex.refl H))
    | true =>
      rw [e, Bool.true_and] at q
      exact iteT ⟨v, d, rfl, g, hT, q⟩
theorem ok_check_group (T : TX K mg base) : FnOk P w K mg base CX0 6 (He.ga K "check_group") (fdK K "check_group") ["value"] (spCkGroup K) := by
  refine T.F_check_group.ok sccheck_group (fun vs H Q E h => ?_) (fun cdv A outer s H vs Q E hr h => ?_)
  · obtain ⟨a, n, gs, rfl, _⟩ := h
    rfl
  · obtain ⟨a, n, gs, rfl, ⟨g, As, ha, hg, R⟩, pm, n1, n12, lg, hT, z⟩ := h
    refine ⟨_, (pss_cons (ps_if (PW.pt (pw_or (pt_not (pt_val (pe_call (ok_is_tuple_of T) (hr.mono (by decide)) (by rfl) T.g_is_tuple_of T.F_is_tuple_of.kp T.b_is_tuple_of .nil pass0 (pa_cons (pv 0) (pa_cons pe_int pa_nil))))) (pw_or (pt_not (pt_val (pe_call (ok_is_degree T) (hr.mono (by decide)) (by rfl) T.g_is_degree T.F_is_degree.kp T.b_is_degree .nil pass0 (pa_cons (pe_ix (ixT (K := K) rfl) (pv 0) pe_int (fun _ _ => rfl)) pa_nil)))) (pw_or1 (pt_not (pt_val (pe_call (ok_is_row T) (hr.mono (by decide)) (by rfl) T.g_is_row T.F_is_row.kp T.b_is_row .nil pass0 (pa_cons (pe_ix (ixT (K := K) rfl) (pv 0) pe_int (fun _ _ => rfl)) (pa_cons (C8.pe_gc rfl T.c_MOST_GENERATORS) pa_nil))))))))) pss_never pss_nil)
      (pss_one (ps_for PassesOwn.never rfl (pi_enumT (by rfl) T.n_enumerate (pa_cons (pe_ix (ixT (K := K) rfl) (pv 0) pe_int (fun _ _ => rfl)) pa_nil)) (pg_tup rfl (pgs_cons (pg_name (i := 1) sccheck_group.nd rfl (.inl rfl)) (pgs_cons (pg_name (i := 2) sccheck_group.nd rfl (.inl rfl)) pgs_nil))) (pss_one (ps_if (pt_not (pt_val (pe_call (ok_is_permutation T) hr (by rfl) T.g_is_permutation T.F_is_permutation.kp T.b_is_permutation .nil pass0 (pa_cons (pe_ix (ixT (K := K) rfl) (pv 0) pe_int (fun _ _ => rfl)) (pa_cons (pv 2) pa_nil))))) pss_never pss_nil))))), ?_⟩
    walk_at "sx"
    have tyT : ∀ {H : Hp} {a : Addr} {xs : List V}, H a = some (.tup xs) → TyK H (.ref a) := fun h => ⟨"tuple", by simp only [zTyV, h]⟩
    have b1 : lenB H 2 (.ref a) = true := by
      have t : tupOf H (.ref a) = some [.int n, .ref g] := by
        show tupO (H a) = _
        rw [ha]
        rfl
      unfold lenB
      rw [t]
      rfl
    have b2 : btV 1 12 (.int n) = true := by
      show (decide ((1 : Int) ≤ n) && decide ((n : Int) ≤ 12)) = true
      rw [decide_eq_true (by omega), decide_eq_true (by omega)]
      rfl
    have lA : As.length = gs.length := R.len
    have b3 : rowB H 12 (.ref g) = true := by
      have t : tupOf H (.ref g) = some (As.map V.ref) := by
        show tupO (H g) = _
        rw [hg]
        rfl
      unfold rowB
      rw [t]
      show decide (((As.map V.ref).length : Int) ≤ 12) = true
      rw [List.length_map]
      exact decide_eq_true (by omega)
    refine ⟨.ref a, 2, rfl, tyT ha, _, rfl, ?_⟩
    rw [b1]
    refine iteF ⟨_, .inl (.inl ha), .int n, rfl, .int n, rfl, ⟨_, rfl⟩, _, rfl, ?_⟩
    rw [b2]
    refine iteF ⟨_, .inl (.inl ha), .ref g, rfl, .ref g, 12, rfl, tyT hg, _, rfl, ?_⟩
    rw [b3]
    refine iteF ?_
    refine ⟨.ref a, rfl, a, _, 1, .ref g, rfl, rfl, .inl (.inl ha), rfl, g, As.map V.ref, rfl, .inl (.inl hg), for_it walk_enumT (fun i σ H1 => ∃ y1 y2, σ = [some (.ref a), y1, y2] ∧ Ex H H1)
      ⟨none, none, rfl, .refl _⟩ (fun i σ H1 _ ⟨_, _, _, x⟩ => .inl (.inl (x.st _ _ hg trivial))) (fun i x σ H1 H2 hi ⟨y1, y2, es, x1⟩ ⟨t, u, v, e1, nT, e2, hu, hv⟩ => ?_) (fun σ H1 ⟨y1, y2, es, x1⟩ => ?_)⟩
    · subst es e1 e2
      rw [List.length_map, lA] at hi
      have hp : gs[i]? = some gs[i] := List.getElem?_eq_getElem hi
      have hm : gs[i] ∈ gs := List.getElem_mem hi
      obtain ⟨b, hb, hb2⟩ := R.at_ i _ hp
      generalize gs[i] = p at hp hm hb2
      have hv : (As.map V.ref)[i]? = some v := hv
      have ev : v = .ref b := by
        rw [List.getElem?_map, hb] at hv
        exact (Option.some.inj hv).symm
      have eu : u = .int i := (Option.some.inj hu).symm
      subst ev eu
      have x2 := x1.trans (Ex.new (o := .tup [.int i, .ref b]) nT)
      walk_at "sx"
      have pb : Pm (upd H1 t (.tup [.int i, .ref b])) b n p := ⟨x2.st _ _ hb2 trivial, pm p hm⟩
      refine ⟨_, sq_new, rfl, _, _, rfl, _, _, rfl, rfl, _, .inl (.inl (x2.st _ _ ha trivial)), .int n, rfl, .ref b, n, rfl, pb.good n12, x2.tab _ hT, fun H3 x3 => ⟨_, rfl, ?_⟩⟩
      rw [pb.permB]
      exact iteF ⟨_, _, ⟨rfl, rfl⟩, x2.trans x3⟩
    · subst es
      exact z H1 x1
theorem ok_check_prefix (T : TX K mg base) : FnOk P w K mg base CX0 3 (He.ga K "check_prefix") (fdK K "check_prefix") ["degree", "value"] (spCheckPrefix K) := by
  refine T.F_check_prefix.ok sccheck_prefix (fun vs H Q E h => ?_) (fun cdv A outer s H vs Q E hr h => ?_)
  · obtain ⟨n, b, pre, rfl, _⟩ := h
    rfl
  · obtain ⟨n, b, pre, rfl, hb, nd, bd, lp, z⟩ := h
    refine ⟨_, (pss_cons (ps_if (pt_cmpR op_isNotTy (pe_typeOfT (by rfl) T.n_type (pv 1)) (pe_bltn (v := .ty "tuple") (by rfl) T.n_tuple (by decide +kernel) rfl) (nomark _)) pss_never pss_nil)
      (pss_one (ps_for PassesOwn.never rfl (pi_enumT (by rfl) T.n_enumerate (pa_cons (pv 1) pa_nil)) (pg_tup rfl (pgs_cons (pg_name (i := 2) sccheck_prefix.nd rfl (.inl rfl)) (pgs_cons (pg_name (i := 3) sccheck_prefix.nd rfl (.inl rfl)) pgs_nil))) (pss_one (ps_if (PW.pt (pw_or (pt_not (pt_val (pe_call (ok_is_point T) hr (by rfl) T.g_is_point T.F_is_point.kp T.b_is_point .nil pass0 (pa_cons (pv 0) (pa_cons (pv 3) pa_nil))))) (pw_or1 (pt_cmpR (inS (K := K) rfl) (pv 3) (pe_slice (slA (K := K) rfl) (pv 1) po_none (po_some (pv 2))) (by rfl))))) pss_never pss_nil))))), ?_⟩
    walk_at "so"
    refine .inr ⟨b, _, rfl, hb, _, rfl, ?_⟩
    refine iteF ?_
    refine ⟨.ref b, rfl, b, _, rfl, hb, for_it walk_enumT (fun i σ H1 => ∃ y1 y2, σ = [some (.int n), some (.ref b), y1, y2] ∧ Ex H H1)
      ⟨none, none, rfl, .refl _⟩ (fun i σ H1 _ ⟨_, _, _, x⟩ => x.t hb) (fun i x σ H1 H2 hi ⟨y1, y2, es, x1⟩ ⟨t, u, v, e1, nT, e2, hu, hv⟩ => ?_) (fun σ H1 ⟨y1, y2, es, x1⟩ => ?_)⟩
    · subst es e1 e2
      rw [List.length_map] at hi
      have hp : pre[i]? = some pre[i] := List.getElem?_eq_getElem hi
      have hm : pre[i] ∈ pre := List.getElem_mem hi
      have nm : pre[i] ∉ pre.take i := fun m => by
        obtain ⟨k, hk, e⟩ := List.getElem_of_mem m
        rw [List.length_take] at hk
        rw [List.getElem_take] at e
        exact List.pairwise_iff_getElem.mp nd k i (by omega) hi (by omega) e
      have ev : v = .int (pre[i] : Nat) := by
        have hv : (pre.map fun x : Nat => V.int x)[i]? = some v := hv
        rw [List.getElem?_map, hp] at hv
        exact (Option.some.inj hv).symm
      have eu : u = .int i := (Option.some.inj hu).symm
      generalize pre[i] = x at hp hm nm ev
      subst ev eu
      have x2 := x1.trans (Ex.new (o := .tup [.int i, .int (x : Nat)]) nT)
      have bx := bd x hm
      walk_at "so"
      refine ⟨_, sq_new, rfl, _, _, rfl, _, _, rfl, rfl, .int (x : Nat), n, rfl, ⟨"int", rfl⟩, _, rfl, ?_⟩
      have bt : btV 0 ((n : Int) - 1) (.int (x : Nat)) = true := by
        show (decide ((0 : Int) ≤ x) && decide ((x : Int) ≤ n - 1)) = true
        rw [decide_eq_true (by omega), decide_eq_true (by omega)]
        rfl
      rw [bt]
      refine iteF ?_
      refine ⟨_, rfl, _, rfl, _, rfl, b, _, rfl, x2.t hb, fun q => ?_, fun _ q nq => ?_⟩
      · have := q.2
        rw [HT.sIx_nat, List.length_map] at this
        omega
      · have xq := Ex.new (o := .tup (cutV (pre.map fun x : Nat => V.int x) none (some (i : Int)))) nq
        rw [cut_take, ← List.map_take] at xq ⊢
        refine ⟨q, _, rfl, .inr (.inl (.inl upd_same)), rfl, flat_nat _, ?_⟩
        rw [if_neg Bool.false_ne_true, inV_nat, decide_eq_false nm]
        exact ⟨_, rfl, iteF ⟨_, _, ⟨rfl, rfl⟩, x2.trans xq⟩⟩
    · subst es
      exact z H1 x1
theorem ok_unit (T : TX K mg base) : FnOk P w K mg base CX0 1 (He.ga K "unit") (fdK K "unit") ["degree"] spUnit := by
  refine T.F_unit.ok scunit (fun vs H Q E h => ?_) (fun cdv A outer s H vs Q E hr h => ?_)
  · obtain ⟨n, rfl, _⟩ := h
    rfl
  · obtain ⟨n, rfl, hn, q⟩ := h
    refine ⟨_, (pss_one (ps_ret (pe_tupRg rfl (by rfl) T.n_tuple (prg_1 (by rfl) T.n_range (pv 0))))), ?_⟩
    walk_at "sx"
    refine ⟨.of_le (by omega) (by omega) (by omega) (by omega), fun a na => ?_⟩
    exact q a _ (Ex.new na) (by rw [upd_same, rg_ints])
theorem ok_compose (T : TX K mg base) : FnOk P w K mg base CX0 1 (He.ga K "compose") (fdK K "compose") ["p", "q"] spMul := by
  refine T.F_compose.ok sccompose (fun vs H Q E h => ?_) (fun cdv A outer s H vs Q E hr h => ?_)
  · obtain ⟨a, b, n, p, q, rfl, _⟩ := h
    rfl
  · obtain ⟨a, b, n, p, q, rfl, hp, hq, hn, z⟩ := h
    refine ⟨_, (pss_one (ps_ret (pe_tupK (K := K) rfl (by rfl) T.n_tuple (pe_lc (own := [("x", 2)]) (g := gName 2) (tt := tYes) rfl sccompose.nd (piT (K := K) rfl (pv 0)) (blkOk_by (N := ["p", "q", "x"]) (sc := defScope scompose) (by decide +kernel)) (fun _ _ _ _ _ => (pg_name (i := 2) sccompose.nd rfl (.inl rfl))) (fun _ _ _ _ _ => pts_nil) (fun _ _ _ _ _ => (pe_ix (ixT (K := K) rfl) (pv 1) (pv 2) (fun _ _ => rfl))))))), ?_⟩
    walk_at "sx"
    refine ⟨.ref a, rfl, a, rfl, ⟨_, .inl (.inl hp.at_)⟩, fun D nD => ?_⟩
    have hl : (p.map V.int).length = n := by rw [List.length_map, hp.is.len]
    refine lc_it (walk_tup (xs := p.map V.int)) (fun i H1 => Ex H H1 ∧ H1 D = some (.lst (((mulL p q).take i).map V.int))) ⟨Ex.new nD, upd_same⟩ (fun i H1 _ h => h.1.t (.inl (.inl hp.at_))) (fun i x H1 H2 hi ⟨x1, hD⟩ ⟨e, hx⟩ => ?_) (fun H1 ⟨x1, hD⟩ => ?_)
    · subst e
      rw [hl] at hi
      obtain ⟨y, hy, h0, hb⟩ := hp.is.get hi
      have ex : x = .int y := by
        rw [List.getElem?_map, hy] at hx
        exact (Option.some.inj hx).symm
      subst ex
      obtain ⟨u, hu, _⟩ := hq.is.get (i := y.toNat) (by omega)
      refine ⟨rfl, yesI ⟨.ref b, rfl, .int y, rfl, b, _, y, .int u, rfl, rfl, x1.t (.inl (.inl hq.at_)), at_int h0 hu, _, hD, ?_, x1.own nD, ?_⟩⟩
      · rw [List.length_map, List.length_take]
        have : (mulL p q).length = n := by unfold mulL; rw [List.length_map, hp.is.len]
        exact small1000 (by omega)
      · rw [upd_same, mul_take hy, getD_of hu, List.map_append]
        rfl
    · have hml : (mulL p q).length = n := by unfold mulL; rw [List.length_map, hp.is.len]
      rw [hl, List.take_of_length_le (by omega)] at hD
      refine .inl ⟨D, rfl, _, sl_at hD, fun c nc => z c _ (x1.trans (Ex.new nc)) upd_same⟩
theorem ok_invert (T : TX K mg base) : FnOk P w K mg base CX0 1 (He.ga K "invert") (fdK K "invert") ["p"] spInv := by
  refine T.F_invert.ok scinvert (fun vs H Q E h => ?_) (fun cdv A outer s H vs Q E hr h => ?_)
  · obtain ⟨a, n, p, rfl, _⟩ := h
    rfl
  · obtain ⟨a, n, p, rfl, hp, hn, z⟩ := h
    refine ⟨_, (pss_cons (ps_set (i := 1) scinvert.nd rfl (.inl rfl) (pe_op op_rep (pe_lst (pa_cons pe_int pa_nil)) (pe_callB (lenS (K := K) rfl) (by rfl) T.n_len PySem.boot_len (pa_cons (pv 0) pa_nil))))
      (pss_cons (ps_for PassesOwn.never rfl (pi_enumT (by rfl) T.n_enumerate (pa_cons (pv 0) pa_nil)) (pg_tup rfl (pgs_cons (pg_name (i := 2) scinvert.nd rfl (.inl rfl)) (pgs_cons (pg_name (i := 3) scinvert.nd rfl (.inl rfl)) pgs_nil))) (pss_one (ps_asg (pv 2) (pg_sub (pv 1) (pv 3) set_list (by intro _; rfl)))))
      (pss_one (ps_ret (pe_tupK (K := K) rfl (by rfl) T.n_tuple (pv 1)))))), ?_⟩
    walk_at "sx"
    have hlp : (p.map V.int).length = n := by rw [List.length_map, hp.is.len]
    refine ⟨by show 1 ≤ sizeLine; decide, fun l nl => ?_⟩
    have xl : Ex H (upd H l (.lst [V.int 0])) := Ex.new nl
    have hA : SqT K (upd H l (.lst [V.int 0])) a (p.map V.int) := xl.t (.inl (.inl hp.at_))
    refine ⟨p.map V.int, .inr hA, [V.int 0], upd_same, by omega, by omega, by rw [hlp]; exact Nat.le_of_lt (small1000 (by show 1 * ((n : Nat) : Int).toNat ≤ 1000; omega)), fun o no => ?_⟩
    have no0 := xl.no _ no
    have xo : Ex H (upd (upd H l (.lst [V.int 0])) o (.lst (List.replicate ((p.map V.int).length : Int).toNat [V.int 0]).flatten)) := xl.trans (Ex.new no)
    refine ⟨.ref a, rfl, a, p.map V.int, rfl, xo.t (.inl (.inl hp.at_)), for_it walk_enumT (fun i σ H1 => ∃ y2 y3 L, σ = [some (.ref a), some (.ref o), y2, y3] ∧ Ex H H1 ∧ H1 o = some (.lst (L.map V.int)) ∧ Filled n p (fun j => (j : Int)) i L)
      ⟨none, none, List.replicate n 0, rfl, xo, ?_, Filled.start⟩ (fun i σ H1 _ ⟨_, _, _, _, x, _⟩ => x.t (.inl (.inl hp.at_))) (fun i x σ H1 H2 hi ⟨y2, y3, L, es, x1, hO, hF⟩ ⟨T, u, v, e1, nT, e2, hu, hv⟩ => ?_) (fun σ H1 ⟨y2, y3, L, es, x1, hO, hF⟩ => ?_)⟩
    · rw [upd_same, hlp]
      have e : ((n : Nat) : Int).toNat = n := by omega
      rw [e, rep_flat]
    · subst es e1 e2
      rw [hlp] at hi
      obtain ⟨y, hy, h0, hb⟩ := hp.is.get hi
      have hv : (p.map V.int)[i]? = some v := hv
      have ev : v = .int y := by
        rw [List.getElem?_map, hy] at hv
        exact (Option.some.inj hv).symm
      have eu : u = .int i := (Option.some.inj hu).symm
      subst ev eu
      have hO2 : (upd H1 T (.tup [.int i, .int y])) o = some (.lst (L.map V.int)) := by
        rw [upd_ne (ne_of_none hO nT)]
        exact hO
      refine ⟨T, [.int i, .int y], rfl, sq_new, rfl, .int i, [.int y], rfl, .int y, [], rfl, rfl, .int i, rfl, .ref o, rfl, .int y, rfl, o, _, y, y.toNat, rfl, rfl, hO2, ixN_of h0 (by rw [List.length_map, hF.len]; exact hb), ?_⟩
      exact ⟨some (.int i), some (.int y), L.set y.toNat i, rfl, (x1.trans (Ex.new nT)).own no0, by rw [upd_same, set_map], hF.step hp.is hy⟩
    · subst es
      rw [hlp] at hF
      have eL : L = invL p := hF.uniq hp.is (invL_filled hp.is)
      subst eL
      exact ⟨.ref o, rfl, .inl ⟨o, _, rfl, sl_at hO, fun c nc => z c _ (x1.trans (Ex.new nc)) upd_same⟩⟩
theorem ok_Tape_note (T : TX K mg base) : FnOk P w K mg base CX0 1 (He.ma K (He.ga K "Tape") "note") (fdA K (He.ma K (He.ga K "Tape") "note")) ["self", "p", "step"] (spNote K) := by
  refine T.F_Tape_note.ok scTape_note (fun vs H Q E h => ?_) (fun cdv A outer s H vs Q E hr h => ?_)
  · obtain ⟨A, n, L, a, s, p, xs, rfl, _⟩ := h
    rfl
  · obtain ⟨B, n, L, a, s, p, xs, rfl, hB, ne, ha, hs, lL, z⟩ := h
    refine ⟨_, (pss_cons (ps_if (pt_cmp (pc_dnotin (hu_of hr) (pv 1) (pe_fld (pv 0) rfl))) (pss_cons (ps_dput (hu_of hr) (pe_fld (pv 0) rfl) (pv 1) (pe_callB (lenS (K := K) rfl) (by rfl) T.n_len PySem.boot_len (pa_cons (pe_fld (pv 0) rfl) pa_nil)) rfl)
      (pss_one (ps_expr (pe_bm PySem.F.plainAttrs_list PySem.F.slot_list_append PySem.F.type_list_append mt_append (pe_fld (pv 0) rfl) (pa_cons (pv 2) pa_nil))))) pss_nil)
      (pss_one (ps_ret (pv 1)))), ?_⟩
    walk_at "so"
    obtain ⟨As, e1, l1⟩ := hB.st
    obtain ⟨kv, e2, ek, iv⟩ := hB.pl
    have ka : H a = some (.tup ((keyI p).map kV)) := by rw [keyI_at]; exact ha
    have line : (100001 : Nat) ≤ sizeLine := by decide
    have lk : kv.length = L.length := by rw [← List.length_map (f := Prod.fst), ek, List.length_map]
    refine ⟨_, _, _, hB.ins, T.k_Tape, T.a_Tape_places, _, taF_pl B, B.pl, rfl, _, DGet.t e2 ka, ite2 (fun c => ?_) (fun c => ?_)⟩
    · have nk : keyI p ∉ kv.map Prod.fst := fun m => by rw [valV_mem.mpr m] at c; cases c
      have np : p ∉ L := fun m => nk (by rw [ek]; exact mem_keys.mpr m)
      have k1 : B.st ∈ B.mut := List.mem_cons_self ..
      have k2 : B.pl ∈ B.mut := List.mem_cons_of_mem _ (List.mem_singleton.mpr rfl)
      have n1 : B.tp ≠ B.pl := ne_of hB.ins e2 (by intro q; cases q)
      have n2 : B.tp ≠ B.st := ne_of hB.ins e1 (by intro q; cases q)
      refine ⟨_, _, _, hB.ins, T.k_Tape, T.a_Tape_steps, _, taF_st B, B.st, rfl, _, .inl (sl_at e1), ?_⟩
      refine ⟨_, _, _, hB.ins, T.k_Tape, T.a_Tape_places, _, taF_pl B, B.pl, rfl, _, DPut.t e2 ka (by omega), ?_⟩
      have e1' : upd H B.pl (.dT (putK kv (keyI p) (V.int ↑(As.map V.ref).length))) B.st = some (.lst (As.map V.ref)) := by rw [upd_ne ne]; exact e1
      have ei' : upd H B.pl (.dT (putK kv (keyI p) (V.int ↑(As.map V.ref).length))) B.tp = some (.ins (He.ga K "Tape") B.dx (taF B)) := by rw [upd_ne n1]; exact hB.ins
      refine ⟨_, rfl, B.tp, _, _, _, _, rfl, ei', T.k_Tape, T.a_Tape_steps, taF_st B, .inl ⟨rfl, _, sl_at e1'⟩, _, rfl, B.st, _, _, rfl, rfl, e1', by rw [List.length_map]; omega, ?_⟩
      rw [putK_new _ nk]
      refine z _ ((ExM.refl.up k2).up k1) ⟨by rw [upd_ne n2, upd_ne n1]; exact hB.ins, ?_, ⟨As ++ [s], by rw [upd_same, List.map_append]; rfl, ?_⟩, ⟨_, Eq.trans (upd_ne ne.symm) upd_same, ?_, ?_⟩⟩
      · have o1 : B.one ≠ B.pl := ne_of hB.one e2 (by intro q; cases q)
        have o2 : B.one ≠ B.st := ne_of hB.one e1 (by intro q; cases q)
        rw [upd_ne o2, upd_ne o1]
        exact hB.one
      · unfold addL
        rw [if_neg np, List.length_append, List.length_append, l1]
        rfl
      · unfold addL
        rw [if_neg np, List.map_append, List.map_append, ek]
        rfl
      · intro q hq
        rcases List.mem_append.mp hq with hq | hq
        · exact iv q hq
        · rw [List.mem_singleton.mp hq]
          exact ⟨_, rfl⟩
    · have nk : keyI p ∈ kv.map Prod.fst := valV_mem.mp (by cases e : (valV kv (keyI p)).isSome with | true => rfl | false => rw [e] at c; exact absurd rfl c)
      have np : p ∈ L := mem_keys.mp (by rw [← ek]; exact nk)
      refine z H .refl ?_
      rw [show addL L p = L by unfold addL; rw [if_pos np]]
      exact hB
theorem ok_Tape___init__ (T : TX K mg base) : FnOk P w K mg base CX0 2 (He.ma K (He.ga K "Tape") "__init__") (fdA K (He.ma K (He.ga K "Tape") "__init__")) ["self", "one", "generators"] (spTapeInit K) := by
  refine T.F_Tape___init__.ok scTape___init__ (fun vs H Q E h => ?_) (fun cdv A outer s H vs Q E hr h => ?_)
  · obtain ⟨t, dx, o, g, n, As, gs, rfl, _⟩ := h
    rfl
  · obtain ⟨t, dx, o, g, n, As, gs, rfl, ht, ho, hg, hR, lg, z⟩ := h
    refine ⟨_, (pss_cons (ps_fld (pv 0) (pv 1) rfl)
      (pss_cons (ps_fld (pv 0) (pe_lst pa_nil) rfl)
      (pss_cons (ps_fld (pv 0) pe_dnewT rfl)
      (pss_one (ps_for PassesOwn.never rfl (pi_enumT (by rfl) T.n_enumerate (pa_cons (pv 2) pa_nil)) (pg_tup rfl (pgs_cons (pg_name (i := 3) scTape___init__.nd rfl (.inl rfl)) (pgs_cons (pg_name (i := 4) scTape___init__.nd rfl (.inl rfl)) pgs_nil))) (pss_one (ps_expr (pe_meth (pv 0) T.k_Tape T.m_Tape_note (ok_Tape_note T) hr T.b_Tape_note .nil pass0 (pa_cons (pv 4) (pa_cons (pe_tup (pa_cons pe_str (pa_cons (pv 3) pa_nil))) pa_nil)))))))))), ?_⟩
    walk_at "so"
    have tm : t ∈ [t] := List.mem_singleton.mpr rfl
    have no : o ≠ t := ne_of ho ht (by intro q; cases q)
    refine ⟨_, _, _, ht, T.k_Tape, T.a_Tape_one, by decide, Nat.zero_le _, fun l nl => ?_⟩
    rw [putT1] at nl ⊢
    have x1 : ExM [t] H (upd H t (.ins (He.ga K "Tape") dx [("one", .ref o)])) := ExM.refl.up tm
    have h1 : upd H t (.ins (He.ga K "Tape") dx [("one", .ref o)]) t = some (.ins (He.ga K "Tape") dx [("one", .ref o)]) := upd_same
    generalize upd H t (.ins (He.ga K "Tape") dx [("one", .ref o)]) = H1 at nl x1 h1 ⊢
    have xl := Ex.new (o := .lst []) nl
    have x2 : ExM [t] H (upd H1 l (.lst [])) := x1.trans (.of xl)
    have h2 := xl.st _ _ h1 trivial
    have hl : upd H1 l (.lst []) l = some (.lst []) := upd_same
    have nlH : H l = none := by
      have := x1.no l nl
      unfold wo at this
      by_cases c : l ∈ [t]
      · rw [List.mem_singleton.mp c] at nl; rw [nl] at h1; cases h1
      · rw [if_neg c] at this; exact this
    generalize upd H1 l (.lst []) = H2 at x2 h2 hl ⊢
    refine ⟨_, _, _, h2, T.k_Tape, T.a_Tape_steps, by show 1 < 1000; decide, fun d nd => ?_⟩
    rw [putT2] at nd ⊢
    have x3 : ExM [t] H (upd H2 t (.ins (He.ga K "Tape") dx [("one", .ref o), ("steps", .ref l)])) := x2.up tm
    have h3 : upd H2 t (.ins (He.ga K "Tape") dx [("one", .ref o), ("steps", .ref l)]) t = some (.ins (He.ga K "Tape") dx [("one", .ref o), ("steps", .ref l)]) := upd_same
    have lt : l ≠ t := fun e => by rw [e] at nlH; rw [nlH] at ht; cases ht
    have hl3 : upd H2 t (.ins (He.ga K "Tape") dx [("one", .ref o), ("steps", .ref l)]) l = some (.lst []) := by rw [upd_ne lt]; exact hl
    generalize upd H2 t (.ins (He.ga K "Tape") dx [("one", .ref o), ("steps", .ref l)]) = H3 at nd x3 h3 hl3 ⊢
    have xd := Ex.new (o := .dT []) nd
    have x4 : ExM [t] H (upd H3 d (.dT [])) := x3.trans (.of xd)
    have h4 := xd.st _ _ h3 trivial
    have hl4 := xd.st _ _ hl3 (refsM (As := []))
    have hd : upd H3 d (.dT []) d = some (.dT []) := upd_same
    have ndH : H d = none := by
      have := x3.no d nd
      unfold wo at this
      by_cases c : d ∈ [t]
      · rw [List.mem_singleton.mp c] at nd; rw [nd] at h3; cases h3
      · rw [if_neg c] at this; exact this
    have ld : l ≠ d := ne_of_none hl3 nd
    generalize upd H3 d (.dT []) = H4 at x4 h4 hl4 hd ⊢
    refine ⟨_, _, _, h4, T.k_Tape, T.a_Tape_places, by show 2 < 1000; decide, ?_⟩
    rw [putT3]
    have x5 : ExM [t] H (upd H4 t (.ins (He.ga K "Tape") dx [("one", .ref o), ("steps", .ref l), ("places", .ref d)])) := x4.up tm
    have h5 : upd H4 t (.ins (He.ga K "Tape") dx [("one", .ref o), ("steps", .ref l), ("places", .ref d)]) t = some (.ins (He.ga K "Tape") dx [("one", .ref o), ("steps", .ref l), ("places", .ref d)]) := upd_same
    have dt : d ≠ t := fun e => by rw [e] at ndH; rw [ndH] at ht; cases ht
    have hl5 : upd H4 t (.ins (He.ga K "Tape") dx [("one", .ref o), ("steps", .ref l), ("places", .ref d)]) l = some (.lst []) := by rw [upd_ne lt]; exact hl4
    have hd5 : upd H4 t (.ins (He.ga K "Tape") dx [("one", .ref o), ("steps", .ref l), ("places", .ref d)]) d = some (.dT []) := by rw [upd_ne dt]; exact hd
    generalize upd H4 t (.ins (He.ga K "Tape") dx [("one", .ref o), ("steps", .ref l), ("places", .ref d)]) = H5 at x5 h5 hl5 hd5 ⊢
    have ho5 : H5 o = some (.tup ((unitL n).map V.int)) := x5.at_ ho (fun c => no (List.mem_singleton.mp c)) trivial
    have B0 : TpAt K n H5 ⟨t, dx, l, d, o⟩ [] := ⟨h5, ho5, ⟨[], hl5, rfl⟩, ⟨[], hd5, rfl, fun _ h => by cases h⟩⟩
    have lA : As.length = gs.length := hR.len
    have hg5 : H5 g = some (.tup (As.map V.ref)) := x5.at_ hg (fun c => by rw [List.mem_singleton.mp c] at hg; rw [ht] at hg; cases hg) trivial
    have hR5 : RowsAt H5 As gs := hR.kept fun a xs e => x5.at_ e (fun c => by rw [List.mem_singleton.mp c] at e; rw [ht] at e; cases e) trivial
    have km := B0.km
    have nwo : ∀ a, H a = none → wo [t] H a = none := fun a e => by
      unfold wo
      by_cases c : a ∈ [t]
      · rw [if_pos c]
      · rw [if_neg c]; exact e
    refine ⟨.ref g, rfl, g, As.map V.ref, rfl, .inl (.inl hg5), for_it walk_enumT (fun i σ H6 => ∃ y3 y4 L, σ = [some (.ref t), some (.ref o), some (.ref g), y3, y4] ∧ ExM [l, d] H5 H6 ∧ TpAt K n H6 ⟨t, dx, l, d, o⟩ L ∧ (∀ q ∈ gs.take i, q ∈ L) ∧ L.length ≤ i)
      ⟨none, none, [], rfl, .refl, B0, (fun _ h => by cases h), Nat.le_refl _⟩ (fun i σ H6 _ ⟨_, _, _, _, x, _⟩ => .inl (.inl (x.t km hg5))) (fun i x σ H6 H7 hi ⟨y3, y4, L, es, x6, B6, m6, l6⟩ ⟨w, u, v, e1, nw, e2, hu, hv⟩ => ?_) (fun σ H6 ⟨y3, y4, L, es, x6, B6, m6, l6⟩ => ?_)⟩
    · subst es e1 e2
      rw [List.length_map, lA] at hi
      have hp : gs[i]? = some gs[i] := List.getElem?_eq_getElem hi
      obtain ⟨b, hb, hb2⟩ := hR5.at_ i _ hp
      have et : gs.take (i + 1) = gs.take i ++ [gs[i]] := by rw [List.take_add_one, hp]; rfl
      generalize gs[i] = p at hp hb2 et
      have hv : (As.map V.ref)[i]? = some v := hv
      have ev : v = .ref b := by
        rw [List.getElem?_map, hb] at hv
        exact (Option.some.inj hv).symm
      have eu : u = .int i := (Option.some.inj hu).symm
      subst ev eu
      have xw := Ex.new (o := .tup [.int i, .ref b]) nw
      have hw : upd H6 w (.tup [.int i, .ref b]) w = some (.tup [.int i, .ref b]) := upd_same
      have x7 := x6.trans (.of xw)
      have B7 := B6.ex xw
      generalize upd H6 w (.tup [.int i, .ref b]) = H7 at hw x7 B7 ⊢
      refine ⟨w, _, rfl, .inl (.inl hw), rfl, _, _, rfl, _, _, rfl, rfl, ?_⟩
      refine ⟨_, rfl, t, dx, _, rfl, B7.ins, taF_note _, _, rfl, .int i, rfl, by show 2 ≤ sizeLine; decide, fun s ns => ?_⟩
      have xs := Ex.new (o := .tup [.str (Str.ofString "gen"), .int i]) ns
      have hs : upd H7 s (.tup [.str (Str.ofString "gen"), .int i]) s = some (.tup [.str (Str.ofString "gen"), .int i]) := upd_same
      have x8 := x7.trans (.of xs)
      have B8 := B7.ex xs
      generalize upd H7 s (.tup [.str (Str.ofString "gen"), .int i]) = H8 at hs x8 B8 ⊢
      refine ⟨⟨t, dx, l, d, o⟩, n, L, b, s, p, _, rfl, B8, ld, x8.t km hb2, hs, by omega, fun H9 x9 B9 => ?_⟩
      refine ⟨_, _, addL L p, rfl, x8.trans x9, B9, fun q hq => ?_, ?_⟩
      · rw [et] at hq
        rcases List.mem_append.mp hq with hq | hq
        · exact addL_mem.mpr (.inl (m6 q hq))
        · rw [List.mem_singleton.mp hq]; exact addL_mem.mpr (.inr rfl)
      · unfold addL
        by_cases m : p ∈ L
        · rw [if_pos m]; omega
        · rw [if_neg m, List.length_append]; show L.length + 1 ≤ i + 1; omega
    · subst es
      rw [List.length_map, lA] at m6 l6
      rw [List.take_of_length_le (Nat.le_refl _)] at m6
      refine z ⟨t, dx, l, d, o⟩ H6 L rfl rfl (x6.base x5 fun a ha => ?_) nlH ndH ld B6 m6 l6
      rcases List.mem_cons.mp ha with e | ha
      · rw [e]; exact nwo _ nlH
      · rw [List.mem_singleton.mp ha]; exact nwo _ ndH
theorem ok_Tape_joined (T : TX K mg base) : FnOk P w K mg base CX0 2 (He.ma K (He.ga K "Tape") "joined") (fdA K (He.ma K (He.ga K "Tape") "joined")) ["self", "p", "q"] spJoined := by
  refine T.F_Tape_joined.ok scTape_joined (fun vs H Q E h => ?_) (fun cdv A outer s H vs Q E hr h => ?_)
  · obtain ⟨t, a, b, n, p, q, rfl, _⟩ := h
    rfl
  · obtain ⟨t, a, b, n, p, q, rfl, ha, hb, ln, z⟩ := h
    refine ⟨_, (pss_one (ps_ret (pe_call (ok_compose T) hr (by rfl) T.g_compose T.F_compose.kp T.b_compose .nil pass0 (pa_cons (pv 1) (pa_cons (pv 2) pa_nil))))), ?_⟩
    walk_at "so"
    exact ⟨a, b, n, p, q, rfl, ha, hb, ln, fun c H1 x1 hc => z c H1 x1 hc⟩
theorem ok_Tape_flipped (T : TX K mg base) : FnOk P w K mg base CX0 2 (He.ma K (He.ga K "Tape") "flipped") (fdA K (He.ma K (He.ga K "Tape") "flipped")) ["self", "p"] spFlipped := by
  refine T.F_Tape_flipped.ok scTape_flipped (fun vs H Q E h => ?_) (fun cdv A outer s H vs Q E hr h => ?_)
  · obtain ⟨t, a, n, p, rfl, _⟩ := h
    rfl
  · obtain ⟨t, a, n, p, rfl, ha, ln, z⟩ := h
    refine ⟨_, (pss_one (ps_ret (pe_call (ok_invert T) hr (by rfl) T.g_invert T.F_invert.kp T.b_invert .nil pass0 (pa_cons (pv 1) pa_nil)))), ?_⟩
    walk_at "so"
    exact ⟨a, n, p, rfl, ha, ln, fun c H1 x1 hc => z c H1 x1 hc⟩
theorem ok_Tape_times (T : TX K mg base) : FnOk P w K mg base CX0 3 (He.ma K (He.ga K "Tape") "times") (fdA K (He.ma K (He.ga K "Tape") "times")) ["self", "p", "q"] (spTimes K) := by
  refine T.F_Tape_times.ok scTape_times (fun vs H Q E h => ?_) (fun cdv A outer s H vs Q E hr h => ?_)
  · obtain ⟨A, n, L, a, b, p, q, rfl, _⟩ := h
    rfl
  · obtain ⟨B, n, L, a, b, p, q, rfl, hB, ne, ha, hb, hp, hq, n12, lL, z⟩ := h
    refine ⟨_, (pss_cons (ps_if (pt_cmpR (eqD (K := K) rfl hr) (pv 1) (pe_fld (pv 0) rfl) (nomark _)) (pss_one (ps_ret (pv 2))) pss_nil)
      (pss_cons (ps_if (pt_cmpR (eqD (K := K) rfl hr) (pv 2) (pe_fld (pv 0) rfl) (nomark _)) (pss_one (ps_ret (pv 1))) pss_nil)
      (pss_one (ps_ret (pe_meth (pv 0) T.k_Tape T.m_Tape_note (ok_Tape_note T) (hr.mono (by decide)) T.b_Tape_note .nil pass0 (pa_cons (pe_meth (pv 0) T.k_Tape T.m_Tape_joined (ok_Tape_joined T) hr T.b_Tape_joined .nil pass0 (pa_cons (pv 1) (pa_cons (pv 2) pa_nil))) (pa_cons (pe_tup (pa_cons pe_str (pa_cons (pe_dget (hu_of hr) (pe_fld (pv 0) rfl) (pv 1) (fun _ _ => rfl)) (pa_cons (pe_dget (hu_of hr) (pe_fld (pv 0) rfl) (pv 2) (fun _ _ => rfl)) pa_nil)))) pa_nil))))))), ?_⟩
    walk_at "so"
    refine ⟨_, _, _, hB.ins, T.k_Tape, T.a_Tape_one, _, taF_one B, eq_ints ha.at_ hB.one ⟨_, rfl, ite2 (fun c => ?_) (fun c => ?_)⟩⟩
    · have c := of_decide_eq_true c
      subst c
      exact z b H L .refl hB (fun _ h => h) (by omega) (by rw [unit_mulL hb.is]; exact hq) (by rw [unit_mulL hb.is]; exact hb.at_)
    · have c : p ≠ unitL n := fun e => c (decide_eq_true e)
      refine ⟨_, _, _, hB.ins, T.k_Tape, T.a_Tape_one, _, taF_one B, eq_ints hb.at_ hB.one ⟨_, rfl, ite2 (fun d => ?_) (fun d => ?_)⟩⟩
      · have d := of_decide_eq_true d
        subst d
        exact z a H L .refl hB (fun _ h => h) (by omega) (by rw [mulL_unit ha.is]; exact hp) (by rw [mulL_unit ha.is]; exact ha.at_)
      · have d : q ≠ unitL n := fun e => d (decide_eq_true e)
        have mp : p ∈ L := hp.resolve_left c
        have mq : q ∈ L := hq.resolve_left d
        refine ⟨_, _, hB.ins, taF_note B, _, _, hB.ins, taF_joined B, _, a, b, n, p, q, rfl, ha, hb, by omega, fun e H1 x1 he => ?_⟩
        have B1 := hB.ex x1
        obtain ⟨i, gi⟩ := B1.get (ha.ex x1).at_ mp
        obtain ⟨j, gj⟩ := B1.get (hb.ex x1).at_ mq
        refine ⟨_, _, _, B1.ins, T.k_Tape, T.a_Tape_places, _, taF_pl B, B.pl, rfl, .int i, gi, ?_⟩
        refine ⟨_, _, _, B1.ins, T.k_Tape, T.a_Tape_places, _, taF_pl B, B.pl, rfl, .int j, gj, by show 3 ≤ sizeLine; decide, fun t nt => ?_⟩
        have xt := Ex.new (o := .tup [.str (Str.ofString "mul"), .int i, .int j]) nt
        have ht : upd H1 t (.tup [.str (Str.ofString "mul"), .int i, .int j]) t = some (.tup [.str (Str.ofString "mul"), .int i, .int j]) := upd_same
        have x2 := x1.trans xt
        have B2 := B1.ex xt
        have he2 := xt.st _ _ he trivial
        generalize upd H1 t (.tup [.str (Str.ofString "mul"), .int i, .int j]) = H2 at xt ht x2 B2 he2 ⊢
        refine ⟨B, n, L, e, t, mulL p q, _, rfl, B2, ne, he2, ht, lL, fun H3 x3 B3 => ?_⟩
        have la : ∀ y ∈ L, y ∈ addL L (mulL p q) := fun y m => addL_mem.mpr (.inl m)
        refine z e H3 (addL L (mulL p q)) ((ExM.of x2).trans x3) B3 la ?_ (.inr (addL_mem.mpr (.inr rfl))) (x3.t B2.km he2)
        unfold addL
        by_cases m : mulL p q ∈ L
        · rw [if_pos m]; omega
        · rw [if_neg m, List.length_append]; exact Nat.le_refl _
theorem ok_Tape_turned (T : TX K mg base) : FnOk P w K mg base CX0 3 (He.ma K (He.ga K "Tape") "turned") (fdA K (He.ma K (He.ga K "Tape") "turned")) ["self", "p"] (spTurned K) := by
  refine T.F_Tape_turned.ok scTape_turned (fun vs H Q E h => ?_) (fun cdv A outer s H vs Q E hr h => ?_)
  · obtain ⟨A, n, L, a, p, rfl, _⟩ := h
    rfl
  · obtain ⟨B, n, L, a, p, rfl, hB, ne, ha, hp, n12, lL, z⟩ := h
    refine ⟨_, (pss_cons (ps_if (pt_cmpR (eqD (K := K) rfl hr) (pv 1) (pe_fld (pv 0) rfl) (nomark _)) (pss_one (ps_ret (pv 1))) pss_nil)
      (pss_one (ps_ret (pe_meth (pv 0) T.k_Tape T.m_Tape_note (ok_Tape_note T) (hr.mono (by decide)) T.b_Tape_note .nil pass0 (pa_cons (pe_meth (pv 0) T.k_Tape T.m_Tape_flipped (ok_Tape_flipped T) hr T.b_Tape_flipped .nil pass0 (pa_cons (pv 1) pa_nil)) (pa_cons (pe_tup (pa_cons pe_str (pa_cons (pe_dget (hu_of hr) (pe_fld (pv 0) rfl) (pv 1) (fun _ _ => rfl)) pa_nil))) pa_nil)))))), ?_⟩
    walk_at "so"
    refine ⟨_, _, _, hB.ins, T.k_Tape, T.a_Tape_one, _, taF_one B, eq_ints ha.at_ hB.one ⟨_, rfl, ite2 (fun c => ?_) (fun c => ?_)⟩⟩
    · have c := of_decide_eq_true c
      subst c
      exact z a H L .refl hB (fun _ h => h) (by omega) (by rw [invL_unit]; exact .inl rfl) (by rw [invL_unit]; exact ha.at_)
    · have c : p ≠ unitL n := fun e => c (decide_eq_true e)
      have mp : p ∈ L := hp.resolve_left c
      refine ⟨_, _, hB.ins, taF_note B, _, _, hB.ins, taF_flipped B, _, a, n, p, rfl, ha, by omega, fun e H1 x1 he => ?_⟩
      have B1 := hB.ex x1
      obtain ⟨i, gi⟩ := B1.get (ha.ex x1).at_ mp
      refine ⟨_, _, _, B1.ins, T.k_Tape, T.a_Tape_places, _, taF_pl B, B.pl, rfl, .int i, gi, by show 2 ≤ sizeLine; decide, fun t nt => ?_⟩
      have xt := Ex.new (o := .tup [.str (Str.ofString "inv"), .int i]) nt
      have ht : upd H1 t (.tup [.str (Str.ofString "inv"), .int i]) t = some (.tup [.str (Str.ofString "inv"), .int i]) := upd_same
      have x2 := x1.trans xt
      have B2 := B1.ex xt
      have he2 := xt.st _ _ he trivial
      generalize upd H1 t (.tup [.str (Str.ofString "inv"), .int i]) = H2 at xt ht x2 B2 he2 ⊢
      refine ⟨B, n, L, e, t, invL p, _, rfl, B2, ne, he2, ht, lL, fun H3 x3 B3 => ?_⟩
      have la : ∀ y ∈ L, y ∈ addL L (invL p) := fun y m => addL_mem.mpr (.inl m)
      refine z e H3 (addL L (invL p)) ((ExM.of x2).trans x3) B3 la ?_ (.inr (addL_mem.mpr (.inr rfl))) (x3.t B2.km he2)
      unfold addL
      by_cases m : invL p ∈ L
      · rw [if_pos m]; omega
      · rw [if_neg m, List.length_append]; exact Nat.le_refl _
theorem ok_Floor___init__ (T : TX K mg base) : FnOk P w K mg base CX0 1 (He.ma K (He.ga K "Floor") "__init__") (fdA K (He.ma K (He.ga K "Floor") "__init__")) ["self", "point", "one"] (spFloorInit K) := by
  refine T.F_Floor___init__.ok scFloor___init__ (fun vs H Q E h => ?_) (fun cdv A outer s H vs Q E hr h => ?_)
  · obtain ⟨x, dx, o, n, pt, rfl, _⟩ := h
    rfl
  · obtain ⟨t, dx, o, n, pt, rfl, ht, ho, z⟩ := h
    refine ⟨_, (pss_cons (ps_fld (pv 0) (pv 1) rfl)
      (pss_cons (ps_fld (pv 0) (pe_lst pa_nil) rfl)
      (pss_cons (ps_fld (pv 0) (pe_disp (pps_cons (pv 1) (pv 2) pps_nil) rfl rfl (by intro h; cases h) (by decide)) rfl)
      (pss_cons (ps_fld (pv 0) (pe_disp (pps_cons (pv 1) (pv 2) pps_nil) rfl rfl (by intro h; cases h) (by decide)) rfl)
      (pss_one (ps_fld (pv 0) (pe_lst pa_nil) rfl)))))), ?_⟩
    walk_at "so"
    have tm : t ∈ [t] := List.mem_singleton.mpr rfl
    have no : o ≠ t := ne_of ho ht (by intro q; cases q)
    refine ⟨_, _, _, ht, T.k_Floor, T.a_Floor_point, by decide, Nat.zero_le _, fun l nl => ?_⟩
    rw [putW1] at nl ⊢
    have x1 : ExM [t] H (upd H t (.ins (He.ga K "Floor") dx [("point", .int pt)])) := ExM.refl.up tm
    have h1 : upd H t (.ins (He.ga K "Floor") dx [("point", .int pt)]) t = some (.ins (He.ga K "Floor") dx [("point", .int pt)]) := upd_same
    generalize upd H t (.ins (He.ga K "Floor") dx [("point", .int pt)]) = H1 at nl x1 h1 ⊢
    have xl := Ex.new (o := .lst []) nl
    have x2 : ExM [t] H (upd H1 l (.lst [])) := x1.trans (.of xl)
    have h2 := xl.st _ _ h1 trivial
    have hl : upd H1 l (.lst []) l = some (.lst []) := upd_same
    have nlH := x1.no1 h1 nl
    have lt : l ≠ t := fun e => by rw [e] at nlH; rw [nlH] at ht; cases ht
    generalize upd H1 l (.lst []) = H2 at x2 h2 hl ⊢
    refine ⟨_, _, _, h2, T.k_Floor, T.a_Floor_generators, by show 1 < 1000; decide, fun d nd => ?_⟩
    rw [putW2] at nd ⊢
    have x3 : ExM [t] H (upd H2 t (.ins (He.ga K "Floor") dx [("point", .int pt), ("generators", .ref l)])) := x2.up tm
    have h3 : upd H2 t (.ins (He.ga K "Floor") dx [("point", .int pt), ("generators", .ref l)]) t = some (.ins (He.ga K "Floor") dx [("point", .int pt), ("generators", .ref l)]) := upd_same
    have hl3 : upd H2 t (.ins (He.ga K "Floor") dx [("point", .int pt), ("generators", .ref l)]) l = some (.lst []) := by rw [upd_ne lt]; exact hl
    generalize upd H2 t (.ins (He.ga K "Floor") dx [("point", .int pt), ("generators", .ref l)]) = H3 at nd x3 h3 hl3 ⊢
    have ndH := x3.no1 h3 nd
    have dt : d ≠ t := fun e => by rw [e] at ndH; rw [ndH] at ht; cases ht
    have ld : l ≠ d := ne_of_none hl3 nd
    refine ⟨upd_same, [(Sum.inl (pt : Int), V.ref o)], rfl, by show 1 ≤ 15; decide, ?_⟩
    rw [upd2, show mergeK [] [((Sum.inl (pt : Int) : L2.Key), V.ref o)] = [(Sum.inl (pt : Int), V.ref o)] from rfl]
    have xd := Ex.new (o := (.dK [(Sum.inl (pt : Int), V.ref o)])) nd
    have x4 : ExM [t] H (upd H3 d (.dK [(Sum.inl (pt : Int), V.ref o)])) := x3.trans (.of xd)
    have h4 := xd.st _ _ h3 trivial
    have hl4 := xd.st _ _ hl3 (refsM (As := []))
    have hd4 : upd H3 d (.dK [(Sum.inl (pt : Int), V.ref o)]) d = some (.dK [(Sum.inl (pt : Int), V.ref o)]) := upd_same
    generalize upd H3 d (.dK [(Sum.inl (pt : Int), V.ref o)]) = H4 at x4 h4 hl4 hd4 ⊢
    refine ⟨_, _, _, h4, T.k_Floor, T.a_Floor_forth, by show 2 < 1000; decide, fun b nb => ?_⟩
    rw [putW3] at nb ⊢
    have x5 : ExM [t] H (upd H4 t (.ins (He.ga K "Floor") dx [("point", .int pt), ("generators", .ref l), ("forth", .ref d)])) := x4.up tm
    have h5 : upd H4 t (.ins (He.ga K "Floor") dx [("point", .int pt), ("generators", .ref l), ("forth", .ref d)]) t = some (.ins (He.ga K "Floor") dx [("point", .int pt), ("generators", .ref l), ("forth", .ref d)]) := upd_same
    have hl5 : upd H4 t (.ins (He.ga K "Floor") dx [("point", .int pt), ("generators", .ref l), ("forth", .ref d)]) l = some (.lst []) := by rw [upd_ne lt]; exact hl4
    have hd5 : upd H4 t (.ins (He.ga K "Floor") dx [("point", .int pt), ("generators", .ref l), ("forth", .ref d)]) d = some (.dK [(Sum.inl (pt : Int), V.ref o)]) := by rw [upd_ne dt]; exact hd4
    generalize upd H4 t (.ins (He.ga K "Floor") dx [("point", .int pt), ("generators", .ref l), ("forth", .ref d)]) = H5 at nb x5 h5 hl5 hd5 ⊢
    have nbH := x5.no1 h5 nb
    have bt : b ≠ t := fun e => by rw [e] at nbH; rw [nbH] at ht; cases ht
    have lb : l ≠ b := ne_of_none hl5 nb
    have db : d ≠ b := ne_of_none hd5 nb
    refine ⟨upd_same, [(Sum.inl (pt : Int), V.ref o)], rfl, by show 1 ≤ 15; decide, ?_⟩
    rw [upd2, show mergeK [] [((Sum.inl (pt : Int) : L2.Key), V.ref o)] = [(Sum.inl (pt : Int), V.ref o)] from rfl]
    have xb := Ex.new (o := (.dK [(Sum.inl (pt : Int), V.ref o)])) nb
    have x6 : ExM [t] H (upd H5 b (.dK [(Sum.inl (pt : Int), V.ref o)])) := x5.trans (.of xb)
    have h6 := xb.st _ _ h5 trivial
    have hl6 := xb.st _ _ hl5 (refsM (As := []))
    have hd6 := xb.st _ _ hd5 trivial
    have hb6 : upd H5 b (.dK [(Sum.inl (pt : Int), V.ref o)]) b = some (.dK [(Sum.inl (pt : Int), V.ref o)]) := upd_same
    generalize upd H5 b (.dK [(Sum.inl (pt : Int), V.ref o)]) = H6 at x6 h6 hl6 hd6 hb6 ⊢
    refine ⟨_, _, _, h6, T.k_Floor, T.a_Floor_back, by show 3 < 1000; decide, Nat.zero_le _, fun q nq => ?_⟩
    rw [putW4] at nq ⊢
    have x7 : ExM [t] H (upd H6 t (.ins (He.ga K "Floor") dx [("point", .int pt), ("generators", .ref l), ("forth", .ref d), ("back", .ref b)])) := x6.up tm
    have h7 : upd H6 t (.ins (He.ga K "Floor") dx [("point", .int pt), ("generators", .ref l), ("forth", .ref d), ("back", .ref b)]) t = some (.ins (He.ga K "Floor") dx [("point", .int pt), ("generators", .ref l), ("forth", .ref d), ("back", .ref b)]) := upd_same
    have hl7 : upd H6 t (.ins (He.ga K "Floor") dx [("point", .int pt), ("generators", .ref l), ("forth", .ref d), ("back", .ref b)]) l = some (.lst []) := by rw [upd_ne lt]; exact hl6
    have hd7 : upd H6 t (.ins (He.ga K "Floor") dx [("point", .int pt), ("generators", .ref l), ("forth", .ref d), ("back", .ref b)]) d = some (.dK [(Sum.inl (pt : Int), V.ref o)]) := by rw [upd_ne dt]; exact hd6
    have hb7 : upd H6 t (.ins (He.ga K "Floor") dx [("point", .int pt), ("generators", .ref l), ("forth", .ref d), ("back", .ref b)]) b = some (.dK [(Sum.inl (pt : Int), V.ref o)]) := by rw [upd_ne bt]; exact hb6
    generalize upd H6 t (.ins (He.ga K "Floor") dx [("point", .int pt), ("generators", .ref l), ("forth", .ref d), ("back", .ref b)]) = H7 at nq x7 h7 hl7 hd7 hb7 ⊢
    have nqH := x7.no1 h7 nq
    have qt : q ≠ t := fun e => by rw [e] at nqH; rw [nqH] at ht; cases ht
    have lq : l ≠ q := ne_of_none hl7 nq
    have dq : d ≠ q := ne_of_none hd7 nq
    have bq : b ≠ q := ne_of_none hb7 nq
    have xq := Ex.new (o := .lst []) nq
    have x8 : ExM [t] H (upd H7 q (.lst [])) := x7.trans (.of xq)
    have h8 := xq.st _ _ h7 trivial
    have hl8 := xq.st _ _ hl7 (refsM (As := []))
    have hd8 := xq.st _ _ hd7 trivial
    have hb8 := xq.st _ _ hb7 trivial
    have hq8 : upd H7 q (.lst []) q = some (.lst []) := upd_same
    generalize upd H7 q (.lst []) = H8 at x8 h8 hl8 hd8 hb8 hq8 ⊢
    refine ⟨_, _, _, h8, T.k_Floor, T.a_Floor_pending, by show 4 < 1000; decide, ?_⟩
    rw [putW5]
    have x9 : ExM [t] H (upd H8 t (.ins (He.ga K "Floor") dx [("point", .int pt), ("generators", .ref l), ("forth", .ref d), ("back", .ref b), ("pending", .ref q)])) := x8.up tm
    have ho9 := x9.at_ ho (fun c => no (List.mem_singleton.mp c)) trivial
    have ro : RowsAt (upd H8 t (.ins (He.ga K "Floor") dx [("point", .int pt), ("generators", .ref l), ("forth", .ref d), ("back", .ref b), ("pending", .ref q)])) [o] [unitL n] := RowsAt.nil.more ho9
    refine z ⟨t, dx, l, d, b, q⟩ _ rfl x9 (fun y hy => ?_) ?_ ⟨upd_same, ⟨[], by rw [upd_ne lt]; exact hl8, .nil⟩, ⟨[o], by rw [upd_ne dt]; exact hd8, ro⟩, ⟨[o], by rw [upd_ne bt]; exact hb8, ?_⟩, ⟨[], by rw [upd_ne qt]; exact hq8, .nil⟩⟩
    · simp only [FA.mut, List.mem_cons, List.not_mem_nil, or_false] at hy
      rcases hy with rfl | rfl | rfl | rfl
      · exact nlH
      · exact ndH
      · exact nbH
      · exact nqH
    · simp [FA.mut, ld, lb, lq, db, dq, bq]
    · show RowsAt _ [o] [invL (unitL n)]
      rw [invL_unit]
      exact ro
theorem ok_Floor_take (T : TX K mg base) : FnOk P w K mg base CX0 1 (He.ma K (He.ga K "Floor") "take") (fdA K (He.ma K (He.ga K "Floor") "take")) ["self", "p"] (spFloorTake K) := by
  refine T.F_Floor_take.ok scFloor_take (fun vs H Q E h => ?_) (fun cdv A outer s H vs Q E hr h => ?_)
  · obtain ⟨a, f, b, r, rfl, _⟩ := h
    rfl
  · obtain ⟨a, f, b, r, rfl, hF, nd, hb, lg, lf, lp, z⟩ := h
    refine ⟨_, (pss_cons (ps_expr (pe_bm PySem.F.plainAttrs_list PySem.F.slot_list_append PySem.F.type_list_append mt_append (pe_fld (pv 0) rfl) (pa_cons (pv 1) pa_nil)))
      (pss_one (ps_expr (pe_bm PySem.F.plainAttrs_list PySem.F.slot_list_extend PySem.F.type_list_extend mt_extend (pe_fld (pv 0) rfl) (pa_cons (pe_lock (pe_lc (own := [("image", 2)]) (g := gName 2) (tt := tYes) rfl scFloor_take.nd (pi_keys (pe_fld (pv 0) rfl)) (blkOk_by (N := ["self", "p", "image"]) (sc := defScope sFloor_take) (by decide +kernel)) (fun _ _ _ _ _ => (pg_name (i := 2) scFloor_take.nd rfl (.inl rfl))) (fun _ _ _ _ _ => pts_nil) (fun _ _ _ _ _ => (pe_tup (pa_cons (pv 2) (pa_cons (pv 1) pa_nil)))))) pa_nil))))), ?_⟩
    walk_at "so"
    have km := hF.km
    obtain ⟨A1, e1, r1⟩ := hF.gens
    obtain ⟨A2, e2, r2⟩ := hF.fo
    obtain ⟨A3, e3, r3⟩ := hF.ba
    obtain ⟨A4, e4, r4⟩ := hF.pe
    have line : (1000000 : Nat) ≤ sizeLine := by decide
    simp only [FA.mut, List.nodup_cons, List.mem_cons, List.not_mem_nil, or_false, not_or, List.nodup_nil, and_true] at nd
    obtain ⟨⟨n1, n2, n3⟩, ⟨n4, n5⟩, n6, _⟩ := nd
    have m1 : a.lg ∈ a.mut := by simp [FA.mut]
    have m4 : a.pe ∈ a.mut := by simp [FA.mut]
    have i0 := hF.ins
    have lA1 := r1.len
    refine ⟨_, rfl, a.fl, _, _, _, _, rfl, i0, T.k_Floor, T.a_Floor_generators, flF_lg a _, .inl ⟨rfl, _, sl_at e1⟩, _, rfl, a.lg, _, _, rfl, rfl, e1, by rw [List.length_map]; omega, ?_⟩
    have x1 : ExM a.mut H (upd H a.lg (.lst (A1.map V.ref ++ [.ref b]))) := ExM.refl.up m1
    have g1 : upd H a.lg (.lst (A1.map V.ref ++ [.ref b])) a.lg = some (.lst ((A1 ++ [b]).map V.ref)) := by rw [upd_same, List.map_append]; rfl
    have f1 : upd H a.lg (.lst (A1.map V.ref ++ [.ref b])) a.fo = some (.dK (kvs (f.fo.map Prod.fst) A2)) := by rw [upd_ne (Ne.symm n1)]; exact e2
    have b1 : upd H a.lg (.lst (A1.map V.ref ++ [.ref b])) a.ba = some (.dK (kvs (f.fo.map Prod.fst) A3)) := by rw [upd_ne (Ne.symm n2)]; exact e3
    have p1 : upd H a.lg (.lst (A1.map V.ref ++ [.ref b])) a.pe = some (.lst (A4.map V.ref)) := by rw [upd_ne (Ne.symm n3)]; exact e4
    generalize upd H a.lg (.lst (A1.map V.ref ++ [.ref b])) = H1 at x1 g1 f1 b1 p1 ⊢
    have i1 := x1.at_ i0 (km.no i0 fun z => z) trivial
    have hb1 := x1.t km hb
    refine ⟨_, rfl, a.fl, _, _, _, _, rfl, i1, T.k_Floor, T.a_Floor_pending, flF_pe a _, .inl ⟨rfl, _, sl_at p1⟩, a.fo, _, f1, trivial, fun od => ?_⟩
    have m2 : a.fo ∈ a.mut := by simp [FA.mut]
    have x2 : ExM a.mut H (upd H1 a.fo (.frz od (.dK (kvs (f.fo.map Prod.fst) A2)))) := x1.up m2
    have g2 : upd H1 a.fo (.frz od (.dK (kvs (f.fo.map Prod.fst) A2))) a.lg = some (.lst ((A1 ++ [b]).map V.ref)) := by rw [upd_ne n1]; exact g1
    have f2 : upd H1 a.fo (.frz od (.dK (kvs (f.fo.map Prod.fst) A2))) a.fo = some (.frz od (.dK (kvs (f.fo.map Prod.fst) A2))) := upd_same
    have b2 : upd H1 a.fo (.frz od (.dK (kvs (f.fo.map Prod.fst) A2))) a.ba = some (.dK (kvs (f.fo.map Prod.fst) A3)) := by rw [upd_ne (Ne.symm n4)]; exact b1
    have p2 : upd H1 a.fo (.frz od (.dK (kvs (f.fo.map Prod.fst) A2))) a.pe = some (.lst (A4.map V.ref)) := by rw [upd_ne (Ne.symm n5)]; exact p1
    generalize upd H1 a.fo (.frz od (.dK (kvs (f.fo.map Prod.fst) A2))) = G at x2 g2 f2 b2 p2 ⊢
    have i2 := x2.at_ i0 (km.no i0 fun z => z) trivial
    have hb2 := x2.t km hb
    have lk : (kvs (f.fo.map Prod.fst) A2).length = f.fo.length := by rw [kvs_len (by rw [r2.len, List.length_map, List.length_map]), List.length_map]
    refine ⟨_, rfl, a.fl, _, _, _, _, rfl, i2, T.k_Floor, T.a_Floor_forth, flF_fo a _, a.fo, od, rfl, .inl ⟨_, f2, fun D nD => ?_⟩⟩
    have fD : a.fo ≠ D := ne_of_none f2 nD
    refine lc_it walk_keys (fun j H6 => Ex G H6 ∧ ∃ Cs : List Addr, H6 D = some (.lst (Cs.map V.ref)) ∧ PairsAt H6 Cs ((f.fo.take j).map fun c => (c.1, r))) ⟨Ex.new nD, [], upd_same, .nil⟩ (fun j H6 _ h => h.1.st _ _ f2 trivial) (fun j v H6 H7 hj ⟨x6, Cs, hD, RC⟩ ⟨e, k, v', hk, hv⟩ => ?_) (fun H6 ⟨x6, Cs, hD, RC⟩ => ?_)
    · subst e hv
      rw [lk] at hj
      have hE : f.fo[j]? = some f.fo[j] := List.getElem?_eq_getElem hj
      have lA2 : A2.length = f.fo.length := by rw [r2.len, List.length_map]
      have ek : k = Sum.inl ((f.fo[j].1 : Nat) : Int) := by
        unfold kvs at hk
        rw [List.getElem?_map, show ((f.fo.map Prod.fst).zip A2)[j]? = some (f.fo[j].1, A2[j]'(by omega)) from List.getElem?_zip_eq_some.mpr ⟨by rw [List.getElem?_map, hE]; rfl, List.getElem?_eq_getElem (by omega)⟩] at hk
        exact (congrArg Prod.fst (Option.some.inj hk)).symm
      have et : (f.fo.take (j + 1)).map (fun c => (c.1, r)) = (f.fo.take j).map (fun c => (c.1, r)) ++ [(f.fo[j].1, r)] := by
        rw [List.take_add_one, hE, List.map_append]
        rfl
      have lt : ((f.fo.take j).map fun c => (c.1, r)).length ≤ 12 := by rw [List.length_map, List.length_take]; omega
      rw [et]
      generalize f.fo[j].1 = x at ek ⊢
      generalize (f.fo.take j).map (fun c => (c.1, r)) = ps at RC lt ⊢
      subst ek
      refine ⟨rfl, yesI ⟨.int x, rfl, .ref b, rfl, by show 2 ≤ sizeLine; omega, fun w nw => ?_⟩⟩
      have xw := Ex.new (o := .tup [.int x, .ref b]) nw
      have hw : upd H7 w (.tup [.int x, .ref b]) w = some (.tup [.int x, .ref b]) := upd_same
      have hD3 := xw.st _ _ hD refsM
      have RC3 := RC.kept (ex_t xw)
      have x3 := x6.trans xw
      generalize upd H7 w (.tup [.int x, .ref b]) = H8 at hw hD3 RC3 x3 ⊢
      have hb3 := x3.st _ _ hb2 trivial
      refine ⟨_, hD3, by rw [List.length_map, RC3.len]; omega, x3.own nD, Cs ++ [w], by rw [upd_same, List.map_append]; rfl, (RC3.more (q := (x, r)) hw hb3).kept fun y xs e => by rw [upd_ne (fun q => by rw [q, hD3] at e; cases e)]; exact e⟩
    · rw [lk, List.take_of_length_le (Nat.le_refl _)] at RC
      have f6 := x6.st _ _ f2 trivial
      have x7 : ExM a.mut H (upd H6 a.fo (.dK (kvs (f.fo.map Prod.fst) A2))) := (x2.trans (.of x6)).up m2
      have g7 : upd H6 a.fo (.dK (kvs (f.fo.map Prod.fst) A2)) a.lg = some (.lst ((A1 ++ [b]).map V.ref)) := by rw [upd_ne n1]; exact x6.st _ _ g2 refsM
      have f7 : upd H6 a.fo (.dK (kvs (f.fo.map Prod.fst) A2)) a.fo = some (.dK (kvs (f.fo.map Prod.fst) A2)) := upd_same
      have b7 : upd H6 a.fo (.dK (kvs (f.fo.map Prod.fst) A2)) a.ba = some (.dK (kvs (f.fo.map Prod.fst) A3)) := by rw [upd_ne (Ne.symm n4)]; exact x6.st _ _ b2 trivial
      have p7 : upd H6 a.fo (.dK (kvs (f.fo.map Prod.fst) A2)) a.pe = some (.lst (A4.map V.ref)) := by rw [upd_ne (Ne.symm n5)]; exact x6.st _ _ p2 refsM
      have hD7 : upd H6 a.fo (.dK (kvs (f.fo.map Prod.fst) A2)) D = some (.lst (Cs.map V.ref)) := by rw [upd_ne (Ne.symm fD)]; exact hD
      have RC7 : PairsAt (upd H6 a.fo (.dK (kvs (f.fo.map Prod.fst) A2))) Cs (f.fo.map fun c => (c.1, r)) := RC.kept fun y xs e => by rw [upd_ne (fun q => by rw [q, f6] at e; cases e)]; exact e
      refine ⟨f6, ?_⟩
      generalize upd H6 a.fo (.dK (kvs (f.fo.map Prod.fst) A2)) = H7 at x7 g7 f7 b7 p7 hD7 RC7 ⊢
      refine ⟨a.pe, D, _, _, rfl, rfl, p7, hD7, by rw [List.length_map, List.length_map, RC7.len, r4.len, List.length_map]; omega, ?_⟩
      have x8 : ExM a.mut H (upd H7 a.pe (.lst (A4.map V.ref ++ Cs.map V.ref))) := x7.up m4
      have tk : ∀ y xs, H7 y = some (.tup xs) → upd H7 a.pe (.lst (A4.map V.ref ++ Cs.map V.ref)) y = some (.tup xs) := fun y xs e => by rw [upd_ne (fun q => by rw [q, p7] at e; cases e)]; exact e
      have t8 : ∀ y xs, H y = some (.tup xs) → upd H7 a.pe (.lst (A4.map V.ref ++ Cs.map V.ref)) y = some (.tup xs) := fun y xs e => x8.t km e
      refine z _ x8 ⟨x8.at_ i0 (km.no i0 fun z => z) trivial, ⟨A1 ++ [b], by rw [upd_ne n3]; exact g7, (r1.kept t8).more (t8 _ _ hb)⟩, ⟨A2, by rw [upd_ne n5]; exact f7, r2.kept t8⟩, ⟨A3, by rw [upd_ne n6]; exact b7, r3.kept t8⟩, ⟨A4 ++ Cs, by rw [upd_same, List.map_append], (r4.kept t8).app (RC7.kept tk)⟩⟩
theorem ok_Floor_reach (T : TX K mg base) : FnOk P w K mg base CX0 1 (He.ma K (He.ga K "Floor") "reach") (fdA K (He.ma K (He.ga K "Floor") "reach")) ["self", "image", "carry", "turned"] (spReach K) := by
  refine T.F_Floor_reach.ok scFloor_reach (fun vs H Q E h => ?_) (fun cdv A outer s H vs Q E hr h => ?_)
  · obtain ⟨a, f, b, d, y, c, rfl, _⟩ := h
    rfl
  · obtain ⟨a, f, b, d, y, c, rfl, hF, nd, hy, hb, hd, lg, lf, lp, z⟩ := h
    refine ⟨_, (pss_cons (ps_dput (hu_of hr) (pe_fld (pv 0) rfl) (pv 1) (pv 2) rfl)
      (pss_cons (ps_dput (hu_of hr) (pe_fld (pv 0) rfl) (pv 1) (pv 3) rfl)
      (pss_one (ps_expr (pe_bm PySem.F.plainAttrs_list PySem.F.slot_list_extend PySem.F.type_list_extend mt_extend (pe_fld (pv 0) rfl) (pa_cons (pe_lc (own := [("p", 4)]) (g := gName 4) (tt := tYes) rfl scFloor_reach.nd (piL (K := K) rfl (pe_fld (pv 0) rfl)) (blkOk_by (N := ["self", "image", "carry", "turned", "p"]) (sc := defScope sFloor_reach) (by decide +kernel)) (fun _ _ _ _ _ => (pg_name (i := 4) scFloor_reach.nd rfl (.inl rfl))) (fun _ _ _ _ _ => pts_nil) (fun _ _ _ _ _ => (pe_tup (pa_cons (pv 1) (pa_cons (pv 4) pa_nil))))) pa_nil)))))), ?_⟩
    walk_at "so"
    have km := hF.km
    obtain ⟨A1, e1, r1⟩ := hF.gens
    obtain ⟨A2, e2, r2⟩ := hF.fo
    obtain ⟨A3, e3, r3⟩ := hF.ba
    obtain ⟨A4, e4, r4⟩ := hF.pe
    have line : (1000000 : Nat) ≤ sizeLine := by decide
    simp only [FA.mut, List.nodup_cons, List.mem_cons, List.not_mem_nil, or_false, not_or, List.nodup_nil, and_true] at nd
    obtain ⟨⟨n1, n2, n3⟩, ⟨n4, n5⟩, n6, _⟩ := nd
    have m2 : a.fo ∈ a.mut := by simp [FA.mut]
    have m3 : a.ba ∈ a.mut := by simp [FA.mut]
    have m4 : a.pe ∈ a.mut := by simp [FA.mut]
    have i0 := hF.ins
    have lA1 := r1.len
    have lA2 : A2.length = (f.fo.map Prod.fst).length := by rw [r2.len, List.length_map, List.length_map]
    have lA3 : A3.length = (f.fo.map Prod.fst).length := by rw [r3.len, List.length_map, List.length_map]
    have lf2 : (f.fo.map Prod.fst).length ≤ 12 := by rw [List.length_map]; exact lf
    refine ⟨_, _, _, i0, T.k_Floor, T.a_Floor_forth, _, flF_fo a _, a.fo, rfl, _, DPut.k (k := Sum.inl (y : Int)) e2 (by rw [kvs_len lA2]; omega), ?_⟩
    rw [putK_kvs lA2 hy]
    have x1 : ExM a.mut H (upd H a.fo (.dK (kvs (f.fo.map Prod.fst ++ [y]) (A2 ++ [b])))) := ExM.refl.up m2
    have g1 : upd H a.fo (.dK (kvs (f.fo.map Prod.fst ++ [y]) (A2 ++ [b]))) a.lg = some (.lst (A1.map V.ref)) := by rw [upd_ne n1]; exact e1
    have f1 : upd H a.fo (.dK (kvs (f.fo.map Prod.fst ++ [y]) (A2 ++ [b]))) a.fo = some (.dK (kvs (f.fo.map Prod.fst ++ [y]) (A2 ++ [b]))) := upd_same
    have b1 : upd H a.fo (.dK (kvs (f.fo.map Prod.fst ++ [y]) (A2 ++ [b]))) a.ba = some (.dK (kvs (f.fo.map Prod.fst) A3)) := by rw [upd_ne (Ne.symm n4)]; exact e3
    have p1 : upd H a.fo (.dK (kvs (f.fo.map Prod.fst ++ [y]) (A2 ++ [b]))) a.pe = some (.lst (A4.map V.ref)) := by rw [upd_ne (Ne.symm n5)]; exact e4
    generalize upd H a.fo (.dK (kvs (f.fo.map Prod.fst ++ [y]) (A2 ++ [b]))) = H1 at x1 g1 f1 b1 p1 ⊢
    have i1 := x1.at_ i0 (km.no i0 fun z => z) trivial
    refine ⟨_, _, _, i1, T.k_Floor, T.a_Floor_back, _, flF_ba a _, a.ba, rfl, _, DPut.k (k := Sum.inl (y : Int)) b1 (by rw [kvs_len lA3]; omega), ?_⟩
    rw [putK_kvs lA3 hy]
    have x2 : ExM a.mut H (upd H1 a.ba (.dK (kvs (f.fo.map Prod.fst ++ [y]) (A3 ++ [d])))) := x1.up m3
    have g2 : upd H1 a.ba (.dK (kvs (f.fo.map Prod.fst ++ [y]) (A3 ++ [d]))) a.lg = some (.lst (A1.map V.ref)) := by rw [upd_ne n2]; exact g1
    have f2 : upd H1 a.ba (.dK (kvs (f.fo.map Prod.fst ++ [y]) (A3 ++ [d]))) a.fo = some (.dK (kvs (f.fo.map Prod.fst ++ [y]) (A2 ++ [b]))) := by rw [upd_ne n4]; exact f1
    have b2 : upd H1 a.ba (.dK (kvs (f.fo.map Prod.fst ++ [y]) (A3 ++ [d]))) a.ba = some (.dK (kvs (f.fo.map Prod.fst ++ [y]) (A3 ++ [d]))) := upd_same
    have p2 : upd H1 a.ba (.dK (kvs (f.fo.map Prod.fst ++ [y]) (A3 ++ [d]))) a.pe = some (.lst (A4.map V.ref)) := by rw [upd_ne (Ne.symm n6)]; exact p1
    generalize upd H1 a.ba (.dK (kvs (f.fo.map Prod.fst ++ [y]) (A3 ++ [d]))) = G at x2 g2 f2 b2 p2 ⊢
    have i2 := x2.at_ i0 (km.no i0 fun z => z) trivial
    have rG := r1.kept fun y xs e => x2.t km e
    refine ⟨_, rfl, a.fl, _, _, _, _, rfl, i2, T.k_Floor, T.a_Floor_pending, flF_pe a _, .inl ⟨rfl, _, sl_at p2⟩, ?_⟩
    refine ⟨_, rfl, a.fl, _, _, _, _, rfl, i2, T.k_Floor, T.a_Floor_generators, flF_lg a _, a.lg, rfl, ⟨_, sl_at g2⟩, fun D nD => ?_⟩
    refine lc_it (walk_list (xs := A1.map V.ref)) (fun j H6 => Ex G H6 ∧ ∃ Cs : List Addr, H6 D = some (.lst (Cs.map V.ref)) ∧ PairsAt H6 Cs ((f.gens.take j).map fun g => (y, g))) ⟨Ex.new nD, [], upd_same, .nil⟩ (fun j H6 _ h => sl_at (h.1.st _ _ g2 refsM)) (fun j v H6 H7 hj ⟨x6, Cs, hD, RC⟩ ⟨e, hx⟩ => ?_) (fun H6 ⟨x6, Cs, hD, RC⟩ => ?_)
    · subst e
      rw [List.length_map, lA1] at hj
      have hE : f.gens[j]? = some f.gens[j] := List.getElem?_eq_getElem hj
      obtain ⟨q, hq, hq2⟩ := rG.at_ j _ hE
      have ex : v = .ref q := by
        rw [List.getElem?_map, hq] at hx
        exact (Option.some.inj hx).symm
      have et : (f.gens.take (j + 1)).map (fun g => (y, g)) = (f.gens.take j).map (fun g => (y, g)) ++ [(y, f.gens[j])] := by
        rw [List.take_add_one, hE, List.map_append]
        rfl
      have lt : ((f.gens.take j).map fun g => (y, g)).length ≤ 1000 := by rw [List.length_map, List.length_take]; omega
      rw [et]
      generalize f.gens[j] = r at hq2 ⊢
      generalize (f.gens.take j).map (fun g => (y, g)) = ps at RC lt ⊢
      subst ex
      refine ⟨rfl, yesI ⟨.int y, rfl, .ref q, rfl, by show 2 ≤ sizeLine; omega, fun w nw => ?_⟩⟩
      have xw := Ex.new (o := .tup [.int y, .ref q]) nw
      have hw : upd H7 w (.tup [.int y, .ref q]) w = some (.tup [.int y, .ref q]) := upd_same
      have hD3 := xw.st _ _ hD refsM
      have RC3 := RC.kept (ex_t xw)
      have x3 := x6.trans xw
      generalize upd H7 w (.tup [.int y, .ref q]) = H8 at hw hD3 RC3 x3 ⊢
      have hb3 := x3.st _ _ hq2 trivial
      refine ⟨_, hD3, by rw [List.length_map, RC3.len]; omega, x3.own nD, Cs ++ [w], by rw [upd_same, List.map_append]; rfl, (RC3.more (q := (y, r)) hw hb3).kept fun y xs e => by rw [upd_ne (fun q => by rw [q, hD3] at e; cases e)]; exact e⟩
    · rw [List.length_map, lA1, List.take_of_length_le (Nat.le_refl _)] at RC
      have x7 : ExM a.mut H H6 := x2.trans (.of x6)
      have g7 := x6.st _ _ g2 refsM
      have f7 := x6.st _ _ f2 trivial
      have b7 := x6.st _ _ b2 trivial
      have p7 := x6.st _ _ p2 refsM
      refine ⟨a.pe, D, _, _, rfl, rfl, p7, hD, by rw [List.length_map, List.length_map, RC.len, r4.len, List.length_map]; omega, ?_⟩
      have x8 : ExM a.mut H (upd H6 a.pe (.lst (A4.map V.ref ++ Cs.map V.ref))) := x7.up m4
      have tk : ∀ y xs, H6 y = some (.tup xs) → upd H6 a.pe (.lst (A4.map V.ref ++ Cs.map V.ref)) y = some (.tup xs) := fun y xs e => by rw [upd_ne (fun q => by rw [q, p7] at e; cases e)]; exact e
      have t8 : ∀ y xs, H y = some (.tup xs) → upd H6 a.pe (.lst (A4.map V.ref ++ Cs.map V.ref)) y = some (.tup xs) := fun y xs e => x8.t km e
      refine z _ x8 ⟨x8.at_ i0 (km.no i0 fun z => z) trivial, ⟨A1, by rw [upd_ne n3]; exact g7, r1.kept t8⟩, ⟨A2 ++ [b], ?_, ?_⟩, ⟨A3 ++ [d], ?_, ?_⟩, ⟨A4 ++ Cs, by rw [upd_same, List.map_append], (r4.kept t8).app (RC.kept tk)⟩⟩
      · rw [upd_ne n5, f7]
        show _ = some (HO.dK (kvs ((f.fo ++ [(y, c)]).map Prod.fst) (A2 ++ [b])))
        rw [List.map_append]
        rfl
      · show RowsAt _ (A2 ++ [b]) ((f.fo ++ [(y, c)]).map Prod.snd)
        rw [List.map_append]
        exact (r2.kept t8).more (t8 _ _ hb)
      · rw [upd_ne n6, b7]
        show _ = some (HO.dK (kvs ((f.fo ++ [(y, c)]).map Prod.fst) (A3 ++ [d])))
        rw [List.map_append]
        rfl
      · show RowsAt _ (A3 ++ [d]) ((f.fo ++ [(y, c)]).map fun c => invL c.2)
        rw [List.map_append]
        exact (r3.kept t8).more (t8 _ _ hd)
theorem ok_Tower_sift (T : TX K mg base) : FnOk P w K mg base CX0 2 (He.ma K (He.ga K "Tower") "sift") (fdA K (He.ma K (He.ga K "Tower") "sift")) ["self", "p", "start"] (spSift K) := by
  refine FunD.okN T.F_Tower_sift scTower_sift (fun vs H Q E h => ?_) (fun cdv A outer s H vs Q E hr h => ?_)
  · obtain ⟨W, n, L, fs, a, p, start, rfl, _⟩ := h
    rfl
  · obtain ⟨W, n, L, fs, a, p, start, rfl, hW, ⟨bs0, hI⟩, n12, f12, ls, hp, z⟩ := h
    refine ⟨_, (pss_cons (ps_set (i := 3) scTower_sift.nd rfl (.inl rfl) (pe_lst pa_nil))
      (pss_cons (ps_for PassesOwn.never rfl (pi_range2 (by rfl) T.n_range (pa_cons (pv 2) (pa_cons (pe_callB (lenS (K := K) rfl) (by rfl) T.n_len PySem.boot_len (pa_cons (pe_fld (pv 0) rfl) pa_nil)) pa_nil))) (pg_name (i := 4) scTower_sift.nd rfl (.inl rfl)) (pss_cons (ps_set (i := 5) scTower_sift.nd rfl (.inl rfl) (pe_ix (ixL (K := K) rfl) (pe_fld (pv 0) rfl) (pv 4) (fun _ _ => rfl)))
      (pss_cons (ps_set (i := 6) scTower_sift.nd rfl (.inl rfl) (pe_ix (ixT (K := K) rfl) (pv 1) (pe_fld (pv 5) rfl) (fun _ _ => rfl)))
      (pss_cons (ps_if (pt_cmp (pc_dnotin (hu_of hr) (pv 6) (pe_fld (pv 5) rfl))) (pss_one (ps_ret (pe_tup (pa_cons (pv 1) (pa_cons (pv 4) (pa_cons (pv 3) pa_nil)))))) pss_nil)
      (pss_one (ps_if (pt_cmpR op_ne (pv 6) (pe_fld (pv 5) rfl) (nomark _)) (pss_cons (ps_expr (pe_bm PySem.F.plainAttrs_list PySem.F.slot_list_append PySem.F.type_list_append mt_append (pv 3) (pa_cons (pe_dget (hu_of hr) (pe_fld (pv 5) rfl) (pv 6) (fun _ _ => rfl)) pa_nil)))
      (pss_one (ps_set (i := 1) scTower_sift.nd rfl (.inl rfl) (pe_call (ok_compose T) hr (by rfl) T.g_compose T.F_compose.kp T.b_compose .nil pass0 (pa_cons (pv 1) (pa_cons (pe_dget (hu_of hr) (pe_fld (pv 5) rfl) (pv 6) (fun _ _ => rfl)) pa_nil)))))) pss_nil))))))
      (pss_one (ps_ret (pe_tup (pa_cons (pv 1) (pa_cons (pe_callB (lenS (K := K) rfl) (by rfl) T.n_len PySem.boot_len (pa_cons (pe_fld (pv 0) rfl) pa_nil)) (pa_cons (pv 3) pa_nil)))))))), ?_⟩
    walk_at "so"
    have line : (1000 : Nat) ≤ sizeLine := by decide
    have lF : ((W.Fs.map FA.fl).map V.ref).length = fs.length := by rw [List.length_map, List.length_map, hW.len]
    refine ⟨Nat.zero_le _, fun l nl => ?_⟩
    have x0 := Ex.new (o := .lst []) nl
    have hl0 : upd H l (.lst []) l = some (.lst []) := upd_same
    generalize upd H l (.lst []) = H0 at x0 hl0 ⊢
    have W0 := hW.ex x0
    have eN : ((((W.Fs.map FA.fl).map V.ref).length : Nat) : Int) = (fs.length : Int) := by rw [lF]
    refine ⟨.int start, rfl, _, rfl, W.tw, _, _, _, _, rfl, W0.ins, T.k_Tower, T.a_Tower_floors, twF_floors W, W.lf, rfl, _, .inl (sl_at W0.lf), start, _, rfl, ⟨by omega, by omega, by rw [eN]; omega, by rw [eN]; omega⟩, ?_⟩
    rw [eN, show ((fs.length : Int) - (start : Int)).toNat = fs.length - start by omega]
    refine for_it walk_range (fun j σ H6 => ∃ (b : Addr) (q : List Int) (Cs : List Addr) (fac : List (List Int)) (y4 y5 y6 : Option V), σ = [some (.ref W.tw), some (.ref b), some (.int start), some (.ref l), y4, y5, y6] ∧ Ex H H6 ∧ Pm H6 b n q ∧ H6 l = some (.lst (Cs.map V.ref)) ∧ RowsAt H6 Cs fac ∧ fac.length ≤ j ∧
        siftF (fs.drop start) p = ((siftF (fs.drop (start + j)) q).1, (siftF (fs.drop (start + j)) q).2.1 + j, fac ++ (siftF (fs.drop (start + j)) q).2.2))
      ⟨a, p, [], [], none, none, none, rfl, x0, hp.ex x0, hl0, .nil, Nat.le_refl _, by simp⟩ (fun _ _ _ _ _ => trivial) (fun j x σ H6 H7 hj ⟨b, q, Cs, fac, y4, y5, y6, es, x6, hb, hl, RC, lfac, sf⟩ ⟨e, ex⟩ => ?_) (fun σ H6 ⟨b, q, Cs, fac, y4, y5, y6, es, x6, hb, hl, RC, lfac, sf⟩ => ?_)
    · subst es e ex
      walk_at "so"
      have ej : (start : Int) + (j : Int) = ((start + j : Nat) : Int) := (Int.natCast_add ..).symm
      rw [ej]
      have W6 := hW.ex x6
      have hfi : fs[start + j]? = some fs[start + j] := List.getElem?_eq_getElem (by omega)
      have dr : fs.drop (start + j) = fs[start + j] :: fs.drop (start + (j + 1)) := List.drop_eq_getElem_cons (by omega)
      have lW := hW.len
      obtain ⟨fa, hfa⟩ : ∃ fa, W.Fs[start + j]? = some fa := ⟨_, List.getElem?_eq_getElem (by omega)⟩
      obtain ⟨bs', up, FI⟩ := hI.at_ j _ (by rw [List.getElem?_drop]; exact hfi)
      have F6 := W6.fl _ _ _ hfa hfi
      generalize fs[start + j] = f at hfi dr FI F6
      obtain ⟨A3, e3, r3⟩ := F6.ba
      obtain ⟨eq, lq⟩ := imN_at hb.is FI.pt
      have hat : atI (q.map V.int) (f.pt : Int) = some (.int (imN q f.pt)) := at_int (by omega) (by rw [show ((f.pt : Int)).toNat = f.pt by omega]; exact eq)
      refine ⟨_, _, _, W6.ins, T.k_Tower, T.a_Tower_floors, _, twF_floors W, W.lf, rfl, _, sl_at W6.lf, .ref fa.fl, atI_nat (by rw [List.getElem?_map, List.getElem?_map, hfa]; rfl), fa.fl, rfl, _, _, _, F6.ins, T.k_Floor, T.a_Floor_point, _, flF_pt fa _, _, f.pt, rfl, .inl (.inl hb.at_), _, hat, fa.fl, rfl, _, _, _, F6.ins, T.k_Floor, T.a_Floor_back, _, flF_ba fa _, fa.ba, rfl, _, DGet.k (k := Sum.inl (imN q f.pt : Int)) e3, ?_⟩
      cases el : look f (imN q f.pt) with
      | none =>
        rw [valV_none (lookup_none el)]
        refine iteT ⟨by show 3 ≤ sizeLine; omega, fun t nt => ?_⟩
        have xt := Ex.new (o := .tup [.ref b, .int ((start + j : Nat) : Int), .ref l]) nt
        have s1 : siftF (fs.drop (start + j)) q = (q, 0, []) := by rw [dr]; simp only [siftF, el]
        rw [s1] at sf
        refine z t b l Cs _ (x6.trans xt) ?_ ?_ ?_ ?_ nl
        · rw [sf, upd_same]
          simp
        · rw [sf]
          exact xt.st _ _ hb.at_ trivial
        · exact xt.st _ _ hl refsM
        · rw [sf, List.append_nil]
          exact RC.ex xt
      | some c =>
        obtain ⟨g, hg, hg2⟩ := valV_kvs (g := fun c => invL c.2) r3 el fun d hd => by
          have := fo_one FI hd (lookup_mem el) rfl
          exact congrArg Prod.snd this
        rw [hg]
        obtain ⟨c1, c2, c3, c4⟩ := FI.fo _ (lookup_mem el)
        have c2 : IsPm n c := c2
        have dg : DGet H7 fa.ba (.int (imN q f.pt : Int)) (some (.ref g)) := by
          have := DGet.k (k := Sum.inl (imN q f.pt : Int)) e3
          rw [hg] at this
          exact this
        refine iteF ⟨fa.fl, rfl, _, _, _, F6.ins, T.k_Floor, T.a_Floor_point, _, flF_pt fa _, rfl, ite2 (fun ne => ?_) (fun ne => ?_)⟩
        · have ne : imN q f.pt ≠ f.pt := fun e => by rw [e] at ne; simp at ne
          refine ⟨_, rfl, .inl ⟨rfl, _, sl_at hl⟩, _, rfl, fa.fl, _, _, _, _, rfl, F6.ins, T.k_Floor, T.a_Floor_back, flF_ba fa _, _, rfl, fa.ba, .ref g, rfl, dg, l, _, _, rfl, rfl, hl, by rw [List.length_map, RC.len]; omega, ?_⟩
          have x7 : Ex H (upd H7 l (.lst (Cs.map V.ref ++ [.ref g]))) := x6.own nl
          have hl7 : upd H7 l (.lst (Cs.map V.ref ++ [.ref g])) l = some (.lst ((Cs ++ [g]).map V.ref)) := by rw [upd_same, List.map_append]; rfl
          have nt : ∀ y xs, H7 y = some (.tup xs) → upd H7 l (.lst (Cs.map V.ref ++ [.ref g])) y = some (.tup xs) := fun y xs e => by rw [upd_ne (fun q => by rw [q, hl] at e; cases e)]; exact e
          have RC7 : RowsAt (upd H7 l (.lst (Cs.map V.ref ++ [.ref g]))) (Cs ++ [g]) (fac ++ [invL c]) := (RC.kept nt).more (nt _ _ hg2)
          have hb7 : Pm (upd H7 l (.lst (Cs.map V.ref ++ [.ref g]))) b n q := ⟨nt _ _ hb.at_, hb.is⟩
          have hg7 : Pm (upd H7 l (.lst (Cs.map V.ref ++ [.ref g]))) g n (invL c) := ⟨nt _ _ hg2, invL_pm c2⟩
          have F7 := (hW.ex x7).fl _ _ _ hfa hfi
          have dg7 : DGet (upd H7 l (.lst (Cs.map V.ref ++ [.ref g]))) fa.ba (.int (imN q f.pt : Int)) (some (.ref g)) := by
            have lb : fa.ba ≠ l := ne_of e3 hl (by intro q; cases q)
            have := DGet.k (k := Sum.inl (imN q f.pt : Int)) (show upd H7 l (.lst (Cs.map V.ref ++ [.ref g])) fa.ba = _ from (upd_ne lb).trans e3)
            rw [hg] at this
            exact this
          generalize upd H7 l (.lst (Cs.map V.ref ++ [.ref g])) = H8 at x7 hl7 RC7 hb7 hg7 F7 dg7 ⊢
          refine ⟨fa.fl, rfl, _, _, _, F7.ins, T.k_Floor, T.a_Floor_back, _, flF_ba fa _, fa.ba, rfl, .ref g, dg7, b, g, n, q, invL c, rfl, hb7, hg7, by omega, fun e H9 x9 he => ?_⟩
          have s1 : siftF (fs.drop (start + j)) q = ((siftF (fs.drop (start + (j + 1))) (mulL q (invL c))).1, (siftF (fs.drop (start + (j + 1))) (mulL q (invL c))).2.1 + 1, invL c :: (siftF (fs.drop (start + (j + 1))) (mulL q (invL c))).2.2) := by rw [dr]; simp only [siftF, el, if_neg ne]
          rw [s1] at sf
          refine ⟨e, mulL q (invL c), Cs ++ [g], fac ++ [invL c], _, _, _, ⟨rfl, rfl, rfl, rfl⟩, x7.trans x9, ⟨he, mulL_pm hb.is (invL_pm c2)⟩, x9.st _ _ hl7 refsM, RC7.ex x9, by rw [List.length_append]; show fac.length + 1 ≤ j + 1; omega, ?_⟩
          rw [sf, List.append_assoc, Nat.add_assoc, Nat.add_comm 1 j]
          rfl
        · have ne : imN q f.pt = f.pt := by
            by_cases e : imN q f.pt = f.pt
            · exact e
            · exact absurd (by rw [decide_eq_false (fun h => e (by injection h with h; omega))]; rfl) ne
          have s1 : siftF (fs.drop (start + j)) q = ((siftF (fs.drop (start + (j + 1))) q).1, (siftF (fs.drop (start + (j + 1))) q).2.1 + 1, (siftF (fs.drop (start + (j + 1))) q).2.2) := by rw [dr]; simp only [siftF, el, if_pos ne]
          rw [s1] at sf
          refine ⟨b, q, Cs, fac, _, _, _, ⟨rfl, rfl, rfl, rfl⟩, x6, hb, hl, RC, by omega, ?_⟩
          rw [sf, Nat.add_assoc, Nat.add_comm 1 j]
    · subst es
      walk_at "so"
      have W6 := hW.ex x6
      refine ⟨_, _, _, W6.ins, T.k_Tower, T.a_Tower_floors, _, twF_floors W, W.lf, rfl, _, .inl (sl_at W6.lf), by omega, fun t nt => ?_⟩
      rw [eN]
      have xt := Ex.new (o := .tup [.ref b, .int (fs.length : Int), .ref l]) nt
      have dr : fs.drop (start + (fs.length - start)) = [] := List.drop_eq_nil_of_le (by omega)
      rw [dr] at sf
      have sf : siftF (fs.drop start) p = (q, 0 + (fs.length - start), fac ++ []) := sf
      refine z t b l Cs _ (x6.trans xt) ?_ ?_ ?_ ?_ nl
      · rw [sf, upd_same, show start + (0 + (fs.length - start)) = fs.length by omega]
      · rw [sf]
        exact xt.st _ _ hb.at_ trivial
      · exact xt.st _ _ hl refsM
      · rw [sf, List.append_nil]
        exact RC.ex xt
theorem ok_Tower_take (T : TX K mg base) : FnOk P w K mg base CX0 4 (He.ma K (He.ga K "Tower") "take") (fdA K (He.ma K (He.ga K "Tower") "take")) ["self", "p", "start"] (spTowerTake K) := by
  refine T.F_Tower_take.ok scTower_take (fun vs H Q E h => ?_) (fun cdv A outer s H vs Q E hr h => ?_)
  · obtain ⟨W, n, L, fs, a, p, start, rfl, _⟩ := h
    rfl
  · obtain ⟨W, n, L, fs, a, p, start, rfl, hW, hI, hpts, cov, n12, f12, ls, hp, fx, hasp, hasf, bds, lL, z⟩ := h
    refine ⟨_, (pss_cons (ps_asg (pe_meth (pv 0) T.k_Tower T.m_Tower_sift (ok_Tower_sift T) (hr.mono (by decide)) T.f_Tower_sift.choose_spec.2 T.f_Tower_sift.choose_spec.1 pass0 (pa_cons (pv 1) (pa_cons (pv 2) pa_nil))) (pg_tup rfl (pgs_cons (pg_name (i := 5) scTower_take.nd rfl (.inl rfl)) (pgs_cons (pg_name (i := 6) scTower_take.nd rfl (.inl rfl)) (pgs_cons (pg_name (i := 7) scTower_take.nd rfl (.inl rfl)) pgs_nil)))))
      (pss_cons (ps_if (pt_cmpR (eqD (K := K) rfl hr) (pv 5) (pe_fld (pv 0) rfl) (nomark _)) (pss_one ps_retN) pss_nil)
      (pss_cons (ps_if (pt_cmpR op_eq (pv 6) (pe_callB (lenS (K := K) rfl) (by rfl) T.n_len PySem.boot_len (pa_cons (pe_fld (pv 0) rfl) pa_nil)) (nomark _)) (pss_cons (ps_fld (pv 0) pe_bl rfl)
      (pss_one ps_retN)) pss_nil)
      (pss_cons (ps_for PassesOwn.never rfl (piL (K := K) rfl (pv 7)) (pg_name (i := 3) scTower_take.nd rfl (.inl rfl)) (pss_one (ps_set (i := 1) scTower_take.nd rfl (.inl rfl) (pe_meth (pe_fld (pv 0) rfl) T.k_Tape T.m_Tape_times (ok_Tape_times T) hr T.b_Tape_times .nil pass0 (pa_cons (pv 1) (pa_cons (pv 3) pa_nil))))))
      (pss_one (ps_for PassesOwn.never rfl (piL (K := K) rfl (pe_slice (slL (K := K) rfl) (pe_fld (pv 0) rfl) (po_some (pv 2)) (po_some (pe_op op_add (pv 6) pe_int)))) (pg_name (i := 4) scTower_take.nd rfl (.inl rfl)) (pss_one (ps_expr (pe_meth (pv 4) T.k_Floor T.m_Floor_take (ok_Floor_take T) (hr.mono (by decide)) T.b_Floor_take .nil pass0 (pa_cons (pv 1) pa_nil)))))))))), ?_⟩
    walk_at "so"
    have line : (1000 : Nat) ≤ sizeLine := by decide
    refine ⟨_, _, hW.ins, twF_sift W, W, n, L, fs, a, p, start, rfl, hW, ⟨_, hI⟩, n12, f12, ls, hp, fun t b l Cs H1 x1 ht hb hl RC nl => ?_⟩
    have W1 := hW.ex x1
    have so := sift_ok hI (p := p) (fun b m => by
      obtain ⟨f, hf, rfl⟩ := List.mem_map.mp m
      exact hpts f (List.mem_of_mem_take hf)) hp.is fx
    have se := sift_end so (by rw [← List.map_append, List.take_append_drop]; exact cov)
    have hfrom := siftF_from (fs := fs.drop start) (p := p)
    have tS : takeS n fs start p = if (siftF (fs.drop start) p).1 = unitL n then fs else fs.take start ++ takeK (siftF (fs.drop start) p).2.1 (siftF (fs.drop start) p).1 (fs.drop start) := rfl
    rw [tS] at z
    have sle := so.le
    have spm := so.pm
    have sfp := so.fpm
    have sfl := so.flen
    have seq := so.eq
    generalize siftF (fs.drop start) p = r at ht hb RC se hfrom z sle spm sfp sfl seq
    obtain ⟨rest, k, fac⟩ := r
    simp only at ht hb RC se hfrom z sle spm sfp sfl seq
    refine ⟨t, rfl, _, .inl (.inl ht), rfl, _, _, rfl, _, _, rfl, _, _, rfl, rfl, _, _, _, W1.ins, T.k_Tower, T.a_Tower_one, _, twF_one W, eq_ints hb W1.one_ ⟨_, rfl, ite2 (fun c => ?_) (fun c => ?_)⟩⟩
    · have c := of_decide_eq_true c
      rw [if_pos c] at z
      exact z H1 L (.of x1) W1 (fun _ h => h) (by omega) (.inl c) fun _ => rfl
    · have c : rest ≠ unitL n := fun e => c (decide_eq_true e)
      rw [if_neg c] at z
      have lk : k < (fs.drop start).length := se c
      rw [List.length_drop] at lk sfl
      have lF : ((W.Fs.map FA.fl).map V.ref).length = fs.length := by rw [List.length_map, List.length_map, hW.len]
      refine ⟨_, _, _, W1.ins, T.k_Tower, T.a_Tower_floors, _, twF_floors W, W.lf, rfl, _, .inl (sl_at W1.lf), rfl, ?_⟩
      rw [lF, decide_eq_false (fun h => by injection h with h; omega)]
      refine iteF ⟨_, rfl, l, rfl, ⟨_, sl_at hl⟩, for_it (walk_list (xs := Cs.map V.ref)) (fun j σ H6 => ∃ (b' : Addr) (L' : List (List Int)) (y3 : Option V), σ = [some (.ref W.tw), some (.ref b'), some (.int start), y3, none, some (.ref b), some (.int ((start + k : Nat) : Int)), some (.ref l)] ∧ ExM W.A.mut H1 H6 ∧ TpAt K n H6 W.A L' ∧ Pm H6 b' n ((fac.take j).foldl mulL p) ∧ Has n L' ((fac.take j).foldl mulL p) ∧ (∀ x ∈ L, x ∈ L') ∧ L'.length ≤ L.length + j)
        ⟨a, L, none, rfl, .refl, W1.tape, hp.ex x1, hasp, (fun _ h => h), Nat.le_refl _⟩ (fun j σ H6 _ ⟨_, _, _, _, x6, _⟩ => sl_at (x6.at_ hl (hW.tape.km.free nl) refsM)) (fun j x σ H6 H7 hj ⟨b', L', y3, es, x6, B6, hb6, has6, s6, l6⟩ ⟨e, ex⟩ => ?_) (fun σ H6 ⟨b', L', y3, es, x6, B6, hb6, has6, s6, l6⟩ => ?_)⟩
      · subst es e
        rw [List.length_map, RC.len] at hj
        have hE : fac[j]? = some fac[j] := List.getElem?_eq_getElem hj
        obtain ⟨g, hg, hg2⟩ := RC.at_ j _ hE
        have mf := List.getElem_mem hj
        have pf := sfp _ mf
        obtain ⟨f0, hf0, c0, hc0, ec0⟩ := hfrom _ mf
        have hs : Has n L fac[j] := by rw [ec0]; exact hasf f0 (List.mem_of_mem_drop hf0) c0 hc0
        have et : (fac.take (j + 1)).foldl mulL p = mulL ((fac.take j).foldl mulL p) fac[j] := by
          rw [List.take_add_one, hE, List.foldl_append]
          rfl
        have ev : x = .ref g := by
          rw [List.getElem?_map, hg] at ex
          exact (Option.some.inj ex).symm
        rw [et]
        generalize (fac.take j).foldl mulL p = q at hb6 has6 ⊢
        generalize fac[j] = c at hg2 pf hs ⊢
        subst ev
        walk_at "so"
        have hg6 : Pm H7 g n c := ⟨x6.t W1.tape.km hg2, pf⟩
        have i6 := x6.at_ W1.ins (W1.tape.km.no W1.ins fun z => z) trivial
        refine ⟨_, _, _, i6, T.k_Tower, T.a_Tower_tape, _, twF_tape W, W.A.tp, rfl, _, _, B6.ins, taF_times _, ?_⟩
        refine ⟨W.A, n, L', b', g, q, c, rfl, B6, hW.stpl, hb6, hg6, has6, hs.more s6, n12, by omega, fun d H8 L8 x8 B8 s8 l8 has8 hd => ?_⟩
        exact ⟨d, L8, _, ⟨rfl, rfl⟩, x6.trans x8, B8, ⟨hd, mulL_pm hb6.is pf⟩, has8, (fun y hy => s8 y (s6 y hy)), by omega⟩
      · subst es
        rw [List.length_map, RC.len, List.take_of_length_le (Nat.le_refl _), seq] at hb6 has6
        rw [List.length_map, RC.len] at l6
        have W6 : TwAt K n H6 W L' fs := W1.setTp x6 B6
        refine ⟨_, rfl, W.tw, _, _, _, _, rfl, W6.ins, T.k_Tower, T.a_Tower_floors, twF_floors W, _, rfl, start, rfl, _, rfl, ((start + k : Nat) : Int), 1, rfl, rfl, _, rfl, W.lf, _, rfl, sl_at W6.lf, ?_⟩
        have ecut : cutV ((W.Fs.map FA.fl).map V.ref) (some (start : Int)) (some (((start + k : Nat) : Int) + 1)) = ((((W.Fs.map FA.fl).map V.ref).drop start).take (k + 1)) := by
          have h := cut_of (xs := (W.Fs.map FA.fl).map V.ref) (a := start) (b := start + k + 1) (by omega) (by rw [lF]; omega)
          rw [show (((start + k : Nat) : Int) + 1) = ((start + k + 1 : Nat) : Int) from rfl, h]
          congr 1
          omega
        rw [ecut]
        intro m nm
        have xm := Ex.new (o := .lst ((((W.Fs.map FA.fl).map V.ref).drop start).take (k + 1))) nm
        have hm : upd H6 m (.lst ((((W.Fs.map FA.fl).map V.ref).drop start).take (k + 1))) m = some (.lst ((((W.Fs.map FA.fl).map V.ref).drop start).take (k + 1))) := upd_same
        have W7 := W6.ex xm
        have x07 : ExM W.mut H (upd H6 m (.lst ((((W.Fs.map FA.fl).map V.ref).drop start).take (k + 1)))) := ((ExM.of x1).trans (x6.sub hW.subT)).trans (.of xm)
        have hb7 := hb6.ex xm
        generalize upd H6 m (.lst ((((W.Fs.map FA.fl).map V.ref).drop start).take (k + 1))) = H7 at hm W7 x07 hb7 ⊢
        have mn : m ∉ W.mut := W6.km.free nm
        have lN : ((((W.Fs.map FA.fl).map V.ref).drop start).take (k + 1)).length = k + 1 := by rw [List.length_take, List.length_drop, lF]; omega
        have at_m : ∀ j, j < k + 1 → ((((W.Fs.map FA.fl).map V.ref).drop start).take (k + 1))[j]? = ((W.Fs.map FA.fl).map V.ref)[start + j]? := fun j hj => by rw [List.getElem?_take_of_lt hj, List.getElem?_drop]
        generalize hN : ((((W.Fs.map FA.fl).map V.ref).drop start).take (k + 1)) = N at hm lN at_m
        have nrow : ¬ RowO (.lst N) := norow_of fun x hx => by
          rw [← hN] at hx
          obtain ⟨y, _, e⟩ := List.mem_map.mp (List.mem_of_mem_drop (List.mem_of_mem_take hx))
          exact ⟨y, e.symm⟩
        refine ⟨m, rfl, ⟨_, sl_at hm⟩, for_it (walk_list (xs := N)) (fun j σ H8 => ∃ (y4 : Option V), σ = [some (.ref W.tw), some (.ref b'), some (.int start), y3, y4, some (.ref b), some (.int ((start + k : Nat) : Int)), some (.ref l)] ∧ ExM W.mut H7 H8 ∧ TwAt K n H8 W L' (plusR rest start j fs))
          ⟨none, rfl, .refl, by rw [plusR_zero]; exact W7⟩ (fun j σ H8 _ ⟨_, _, x8, _⟩ => sl_at (x8.at_ hm mn nrow)) (fun j x σ H8 H9 hj ⟨y4, es, x8, W8⟩ ⟨e, ex⟩ => ?_) (fun σ H8 ⟨y4, es, x8, W8⟩ => ?_)⟩
        · subst es e
          rw [lN] at hj
          rw [at_m j hj] at ex
          obtain ⟨fa, hfa⟩ : ∃ fa, W.Fs[start + j]? = some fa := ⟨_, List.getElem?_eq_getElem (by rw [hW.len]; omega)⟩
          have hfi : fs[start + j]? = some fs[start + j] := List.getElem?_eq_getElem (by omega)
          have ev : x = .ref fa.fl := by
            rw [List.getElem?_map, List.getElem?_map, hfa] at ex
            exact (Option.some.inj ex).symm
          subst ev
          have F8 := W8.fl _ _ _ hfa (by rw [plusR_get]; exact hfi)
          obtain ⟨bs', up, FI⟩ := hI.at_ j _ (by rw [List.getElem?_drop]; exact hfi)
          have lfo := fo_len FI
          obtain ⟨bg, bp⟩ := bds _ (List.getElem_mem (by omega : start + j < fs.length))
          rw [plusR_set start j fs _ hfi]
          generalize fs[start + j] = f at F8 hfi bg bp lfo ⊢
          refine ⟨_, rfl, fa.fl, _, _, rfl, F8.ins, flF_take _ _, _, rfl, fa, f, b', rest, rfl, F8, W8.flnd hfa, x8.t W7.km hb7.at_, bg, by omega, by omega, fun H10 x10 F10 => ?_⟩
          exact ⟨_, rfl, x8.trans (x10.sub (W8.sub hfa)), W8.setFl hfa x10 F10⟩
        · subst es
          rw [lN, plusR_done] at W8
          exact z H8 L' (x07.trans x8) W8 s6 (by omega) has6 fun e => absurd e c
theorem ok_Tower_try_pair (T : TX K mg base) : FnOk P w K mg base CX0 5 (He.ma K (He.ga K "Tower") "try_pair") (fdA K (He.ma K (He.ga K "Tower") "try_pair")) ["self", "at"] (spTryPair K) := by
  refine T.F_Tower_try_pair.ok scTower_try_pair (fun vs H Q E h => ?_) (fun cdv A outer s H vs Q E hr h => ?_)
  · obtain ⟨W, n, ins, L, pre, f, post, rfl, _⟩ := h
    rfl
  · obtain ⟨W, n, ins, L, pre, f, post, rfl, hW, ok, st, pn, z⟩ := h
    refine ⟨_, (pss_cons (ps_set (i := 2) scTower_try_pair.nd rfl (.inl rfl) (pe_ix (ixL (K := K) rfl) (pe_fld (pv 0) rfl) (pv 1) (fun _ _ => rfl)))
      (pss_cons (ps_asg (pe_bm0 PySem.F.plainAttrs_list PySem.F.slot_list_pop PySem.F.type_list_pop mt_pop (pe_fld (pv 2) rfl)) (pg_tup rfl (pgs_cons (pg_name (i := 5) scTower_try_pair.nd rfl (.inl rfl)) (pgs_cons (pg_name (i := 6) scTower_try_pair.nd rfl (.inl rfl)) pgs_nil))))
      (pss_cons (ps_set (i := 3) scTower_try_pair.nd rfl (.inl rfl) (pe_ix (ixT (K := K) rfl) (pv 6) (pv 5) (fun _ _ => rfl)))
      (pss_cons (ps_if (pt_cmp (pc_dnotin (hu_of hr) (pv 3) (pe_fld (pv 2) rfl))) (pss_cons (ps_set (i := 7) scTower_try_pair.nd rfl (.inl rfl) (pe_meth (pe_fld (pv 0) rfl) T.k_Tape T.m_Tape_times (ok_Tape_times T) (hr.mono (by decide)) T.b_Tape_times .nil pass0 (pa_cons (pe_dget (hu_of hr) (pe_fld (pv 2) rfl) (pv 5) (fun _ _ => rfl)) (pa_cons (pv 6) pa_nil))))
      (pss_cons (ps_expr (pe_meth (pv 2) T.k_Floor T.m_Floor_reach (ok_Floor_reach T) (hr.mono (by decide)) T.b_Floor_reach .nil pass0 (pa_cons (pv 3) (pa_cons (pv 7) (pa_cons (pe_meth (pe_fld (pv 0) rfl) T.k_Tape T.m_Tape_turned (ok_Tape_turned T) (hr.mono (by decide)) T.b_Tape_turned .nil pass0 (pa_cons (pv 7) pa_nil)) pa_nil)))))
      (pss_one ps_retN))) pss_nil)
      (pss_cons (ps_set (i := 4) scTower_try_pair.nd rfl (.inl rfl) (pe_call (ok_compose T) (hr.mono (by decide)) (by rfl) T.g_compose T.F_compose.kp T.b_compose .nil pass0 (pa_cons (pe_call (ok_compose T) (hr.mono (by decide)) (by rfl) T.g_compose T.F_compose.kp T.b_compose .nil pass0 (pa_cons (pe_dget (hu_of hr) (pe_fld (pv 2) rfl) (pv 5) (fun _ _ => rfl)) (pa_cons (pv 6) pa_nil))) (pa_cons (pe_dget (hu_of hr) (pe_fld (pv 2) rfl) (pv 3) (fun _ _ => rfl)) pa_nil))))
      (pss_one (ps_if (pt_cmpR (neD (K := K) rfl hr) (pe_ix (ixT (K := K) rfl) (pe_meth (pv 0) T.k_Tower T.m_Tower_sift (ok_Tower_sift T) (hr.mono (by decide)) T.f_Tower_sift.choose_spec.2 T.f_Tower_sift.choose_spec.1 pass0 (pa_cons (pv 4) (pa_cons (pe_op op_add (pv 1) pe_int) pa_nil))) pe_int (fun _ _ => rfl)) (pe_fld (pv 0) rfl) (nomark _)) (pss_cons (ps_set (i := 4) scTower_try_pair.nd rfl (.inl rfl) (pe_meth (pe_fld (pv 0) rfl) T.k_Tape T.m_Tape_times (ok_Tape_times T) (hr.mono (by decide)) T.b_Tape_times .nil pass0 (pa_cons (pe_meth (pe_fld (pv 0) rfl) T.k_Tape T.m_Tape_times (ok_Tape_times T) (hr.mono (by decide)) T.b_Tape_times .nil pass0 (pa_cons (pe_dget (hu_of hr) (pe_fld (pv 2) rfl) (pv 5) (fun _ _ => rfl)) (pa_cons (pv 6) pa_nil))) (pa_cons (pe_dget (hu_of hr) (pe_fld (pv 2) rfl) (pv 3) (fun _ _ => rfl)) pa_nil))))
      (pss_one (ps_expr (pe_meth (pv 0) T.k_Tower T.m_Tower_take (ok_Tower_take T) hr T.b_Tower_take .nil pass0 (pa_cons (pv 4) (pa_cons (pe_op op_add (pv 1) pe_int) pa_nil)))))) pss_nil))))))), ?_⟩
    walk_at "so"
    have line : (1000 : Nat) ≤ sizeLine := by decide
    have hfi : (pre ++ f :: post)[pre.length]? = some f := by rw [List.getElem?_append_right (Nat.le_refl _), Nat.sub_self]; rfl
    have ltot := ok.len
    have lW := hW.len
    have lp : pre.length < (pre ++ f :: post).length := by rw [List.length_append, List.length_cons]; omega
    obtain ⟨fa, hfa⟩ : ∃ fa, W.Fs[pre.length]? = some fa := ⟨_, List.getElem?_eq_getElem (by omega)⟩
    have F0 := hW.fl _ _ _ hfa hfi
    obtain ⟨pd, xg, ep⟩ : ∃ pd xg, f.pend = pd ++ [xg] := ⟨_, _, (List.dropLast_concat_getLast pn).symm⟩
    obtain ⟨x, g⟩ := xg
    obtain ⟨A4, e4, r4⟩ := F0.pe
    rw [ep] at r4
    obtain ⟨Bs, b, gc, eA, rB, hb, hgc⟩ := r4.pop
    obtain ⟨h1, h2, h3⟩ := ok.split
    obtain ⟨kx, hg⟩ := h1.pend (x, g) (by rw [ep]; exact List.mem_append_right _ (List.mem_singleton.mpr rfl))
    obtain ⟨c, lc⟩ := lookup_some kx
    have hc := lookup_mem lc
    have pg := h1.pm g hg
    obtain ⟨c1, c2, c3, c4⟩ := h1.fo _ hc
    have c1 : x < n := c1
    have c2 : IsPm n c := c2
    obtain ⟨iy, ly⟩ := imN_at pg c1
    subst eA
    have hpop : ((Bs ++ [b]).map V.ref)[((Bs ++ [b]).map V.ref).length - 1]? = some (.ref b) := by
      rw [List.length_map, List.length_append, List.getElem?_map, show Bs.length + [b].length - 1 = Bs.length from rfl, List.getElem?_append_right (Nat.le_refl _), Nat.sub_self]
      rfl
    refine ⟨_, _, _, hW.ins, T.k_Tower, T.a_Tower_floors, _, twF_floors W, W.lf, rfl, _, sl_at hW.lf, .ref fa.fl, atI_nat (by rw [List.getElem?_map, List.getElem?_map, hfa]; rfl), ?_⟩
    refine ⟨_, rfl, fa.fl, _, _, _, _, rfl, F0.ins, T.k_Floor, T.a_Floor_pending, flF_pe fa _, .inl ⟨rfl, _, sl_at e4⟩, fa.pe, _, .ref b, rfl, rfl, e4, hpop, ?_⟩
    have edl : ((Bs ++ [b]).map V.ref).dropLast = Bs.map V.ref := by rw [List.map_append]; exact List.dropLast_concat
    rw [edl]
    have kmF := F0.km
    have x1 : ExM fa.mut H (upd H fa.pe (.lst (Bs.map V.ref))) := ExM.refl.up (by simp [FA.mut])
    have F1 : FlAt K (upd H fa.pe (.lst (Bs.map V.ref))) fa { f with pend := pd } := by
      have nd := hW.flnd hfa
      simp only [FA.mut, List.nodup_cons, List.mem_cons, List.not_mem_nil, or_false, not_or, List.nodup_nil, and_true] at nd
      obtain ⟨⟨n1, n2, n3⟩, ⟨n4, n5⟩, n6, _⟩ := nd
      obtain ⟨A1, e1, r1⟩ := F0.gens
      obtain ⟨A2, e2, r2⟩ := F0.fo
      obtain ⟨A3, e3, r3⟩ := F0.ba
      have t8 : ∀ y xs, H y = some (.tup xs) → upd H fa.pe (.lst (Bs.map V.ref)) y = some (.tup xs) := fun y xs e => x1.t kmF e
      exact ⟨x1.at_ F0.ins (kmF.no F0.ins fun z => z) trivial, ⟨A1, by rw [upd_ne n3]; exact e1, r1.kept t8⟩, ⟨A2, by rw [upd_ne n5]; exact e2, r2.kept t8⟩, ⟨A3, by rw [upd_ne n6]; exact e3, r3.kept t8⟩, ⟨Bs, upd_same, rB.kept t8⟩⟩
    have W1 := hW.setFl hfa x1 F1
    have eset : (pre ++ f :: post).set pre.length { f with pend := pd } = pre ++ { f with pend := pd } :: post := by
      rw [List.set_append_right _ _ (Nat.le_refl _), Nat.sub_self]
      rfl
    rw [eset] at W1
    have hb1 := x1.t kmF hb
    have hg1 := x1.t kmF hgc
    have xW : ExM W.mut H (upd H fa.pe (.lst (Bs.map V.ref))) := x1.sub (hW.sub hfa)
    generalize upd H fa.pe (.lst (Bs.map V.ref)) = H1 at x1 F1 W1 hb1 hg1 xW ⊢
    have hG : Pm H1 gc n g := ⟨hg1, pg⟩
    have hat : atI (g.map V.int) (x : Int) = some (.int (imN g x)) := at_int (by omega) (by rw [show ((x : Int)).toNat = x by omega]; exact iy)
    have lfo := fo_len h1
    obtain ⟨A2, e2, r2⟩ := F1.fo
    obtain ⟨A3, e3, r3⟩ := F1.ba
    obtain ⟨ac, hac, hac2⟩ := valV_kvs (g := Prod.snd) r2 lc fun d hd => congrArg Prod.snd (fo_one h1 hd hc rfl)
    have hC : Pm H1 ac n c := ⟨hac2, c2⟩
    have dgc : DGet H1 fa.fo (.int (x : Int)) (some (.ref ac)) := by
      have := DGet.k (k := Sum.inl (x : Int)) e2
      rw [hac] at this
      exact this
    have hasf : ∀ q ∈ pre ++ { f with pend := pd } :: post, (∀ g ∈ q.gens, Has n L g) ∧ ∀ c ∈ q.fo, Has n L c.2 ∧ Has n L (invL c.2) := fun q hq => by
      rcases List.mem_append.mp hq with hq | hq
      · exact ok.has q (List.mem_append_left _ hq)
      · rcases List.mem_cons.mp hq with rfl | hq
        · exact ok.has f (List.mem_append_right _ (List.mem_cons_self ..))
        · exact ok.has q (List.mem_append_right _ (List.mem_cons_of_mem _ hq))
    have hasF := hasf { f with pend := pd } (List.mem_append_right _ (List.mem_cons_self ..))
    have hasc := (hasF.2 _ hc).1
    have hasg := hasF.1 g hg
    have tl := ok.tl
    refine ⟨b, rfl, _, .inl (.inl hb1), rfl, _, _, rfl, _, _, rfl, rfl, gc, rfl, _, x, rfl, .inl (.inl hg1), _, hat, fa.fl, rfl, _, _, _, F1.ins, T.k_Floor, T.a_Floor_forth, _, flF_fo fa _, fa.fo, rfl, _, DGet.k (k := Sum.inl (imN g x : Int)) e2, ?_⟩
    have n12 := ok.n12
    have gb0 := ok.gb f (List.mem_append_right _ (List.mem_cons_self ..))
    have pot0 := ok.pot
    have epb : PB (pre ++ f :: post) = PB pre + (pd.length + 1 + PB post) := by rw [PB_app, PB_cons, ep, List.length_append]; rfl
    have hfi1 : (pre ++ { f with pend := pd } :: post)[pre.length]? = some { f with pend := pd } := by rw [List.getElem?_append_right (Nat.le_refl _), Nat.sub_self]; rfl
    cases el : look f (imN g x) with
    | none =>
      rw [valV_none (lookup_none el)]
      refine iteT ⟨_, _, _, W1.ins, T.k_Tower, T.a_Tower_tape, _, twF_tape W, W.A.tp, rfl, _, _, W1.tape.ins, taF_times _, ?_⟩
      refine ⟨fa.fl, rfl, _, _, _, F1.ins, T.k_Floor, T.a_Floor_forth, _, flF_fo fa _, fa.fo, rfl, .ref ac, dgc, W.A, n, L, ac, gc, c, g, rfl, W1.tape, hW.stpl, hC, hG, hasc, hasg, n12, by omega, fun d H2 Lb x2 B2 s2 l2 has2 hd => ?_⟩
      have W2 := W1.setTp x2 B2
      have F2 := W2.fl _ _ _ hfa hfi1
      have hd2 : Pm H2 d n (mulL c g) := ⟨hd, mulL_pm c2 pg⟩
      have xW2 := xW.trans (x2.sub hW.subT)
      refine ⟨fa.fl, rfl, _, _, F2.ins, flF_reach fa _, _, _, _, W2.ins, T.k_Tower, T.a_Tower_tape, _, twF_tape W, W.A.tp, rfl, _, _, W2.tape.ins, taF_turned _, W.A, n, Lb, d, mulL c g, rfl, W2.tape, hW.stpl, hd2, has2, n12, by omega, fun e H3 Lc x3 B3 s3 l3 has3 he => ?_⟩
      have W3 := W2.setTp x3 B3
      have F3 := W3.fl _ _ _ hfa hfi1
      have xW3 := xW2.trans (x3.sub hW.subT)
      have hd3 := x3.t W2.tape.km hd
      refine ⟨fa, { f with pend := pd }, d, e, imN g x, mulL c g, rfl, F3, hW.flnd hfa, lookup_none el, hd3, he, by show f.gens.length ≤ 1000; omega, by show f.fo.length ≤ 12; omega, by show pd.length ≤ 100000; omega, fun H4 x4 F4 => ?_⟩
      have W4 := W3.setFl hfa x4 F4
      have es4 : (pre ++ { f with pend := pd } :: post).set pre.length (Flr.rch { f with pend := pd } (imN g x) (mulL c g)) = pre ++ Flr.rch { f with pend := pd } (imN g x) (mulL c g) :: post := by
        rw [List.set_append_right _ _ (Nat.le_refl _), Nat.sub_self]
        rfl
      rw [es4] at W4
      exact z H4 Lc _ (xW3.trans (x4.sub (hW.sub hfa))) W4 (reach_moved ok ep hc rfl (lookup_none el) (fun y hy => s3 y (s2 y hy)) (by omega) (has2.more s3) has3) fun y hy => s3 y (s2 y hy)
    | some dd =>
      obtain ⟨ad, had, had2⟩ := valV_kvs (g := Prod.snd) r2 el fun d hd => congrArg Prod.snd (fo_one h1 hd (lookup_mem el) rfl)
      rw [had]
      have hdd := lookup_mem el
      have d2 : IsPm n dd := (h1.fo _ hdd).2.1
      have lo := loop_ok (d := (imN g x, dd)) h1 ok.bs hg hc hdd rfl
      have lo1 : IsPm n (mulL (mulL c g) (invL dd)) := lo.pm
      have lo2 : fixes (pre.map Flr.pt ++ [f.pt]) (mulL (mulL c g) (invL dd)) := lo.fx
      have bk : ∀ {H2 : Hp}, FlAt K H2 fa { f with pend := pd } → ∃ ai : Addr, DGet H2 fa.ba (.int (imN g x : Int)) (some (.ref ai)) ∧ H2 ai = some (.tup ((invL dd).map V.int)) := fun F => by
        obtain ⟨A3', e3', r3'⟩ := F.ba
        obtain ⟨ai, h, k⟩ := valV_kvs (g := fun c => invL c.2) r3' el fun d hd => congrArg Prod.snd (fo_one h1 hd (lookup_mem el) rfl)
        refine ⟨ai, ?_, k⟩
        have := DGet.k (k := Sum.inl (imN g x : Int)) e3'
        rw [h] at this
        exact this
      have fk : ∀ {H2 : Hp}, FlAt K H2 fa { f with pend := pd } → ∃ ai : Addr, DGet H2 fa.fo (.int (x : Int)) (some (.ref ai)) ∧ H2 ai = some (.tup (c.map V.int)) := fun F => by
        obtain ⟨A3', e3', r3'⟩ := F.fo
        obtain ⟨ai, h, k⟩ := valV_kvs (g := Prod.snd) r3' lc fun d hd => congrArg Prod.snd (fo_one h1 hd hc rfl)
        refine ⟨ai, ?_, k⟩
        have := DGet.k (k := Sum.inl (x : Int)) e3'
        rw [h] at this
        exact this
      refine iteF ⟨fa.fl, rfl, _, _, _, F1.ins, T.k_Floor, T.a_Floor_forth, _, flF_fo fa _, fa.fo, rfl, .ref ac, dgc, ac, gc, n, c, g, rfl, hC, hG, by omega, fun d H2 x2 hd => ?_⟩
      have W2 := W1.ex x2
      have F2 := F1.ex x2
      obtain ⟨ai, dgi, hai⟩ := bk F2
      refine ⟨fa.fl, rfl, _, _, _, F2.ins, T.k_Floor, T.a_Floor_back, _, flF_ba fa _, fa.ba, rfl, .ref ai, dgi, d, ai, n, mulL c g, invL dd, rfl, ⟨hd, mulL_pm c2 pg⟩, ⟨hai, invL_pm d2⟩, by omega, fun lp0 H3 x3 hlp => ?_⟩
      have W3 := W2.ex x3
      have F3 := F2.ex x3
      have dr : (pre ++ { f with pend := pd } :: post).drop (pre.length + 1) = post := by
        rw [← List.drop_drop, List.drop_left]
        rfl
      refine ⟨_, _, W3.ins, twF_sift W, W, n, L, _, lp0, mulL (mulL c g) (invL dd), pre.length + 1, rfl, W3, ⟨_, by rw [dr]; exact h2⟩, n12, by simp only [List.length_append, List.length_cons] at ltot ⊢; omega, by simp only [List.length_append, List.length_cons] at ltot ⊢; omega, ⟨hlp, lo1⟩, fun t b2 l2 Cs H4 x4 ht hb2 hl2 RC nl => ?_⟩
      rw [dr] at ht hb2 RC
      have so : SiftOk n (pre.map Flr.pt ++ [f.pt]) post (mulL (mulL c g) (invL dd)) := sift_ok h2 (bs_snoc ok.bs h1.pt) lo1 lo2
      have W4 := W3.ex x4
      refine ⟨t, rfl, _, .inl (.inl ht), _, atI_nat (j := 0) rfl, _, _, _, W4.ins, T.k_Tower, T.a_Tower_one, _, twF_one W, ne_intsT hb2 W4.one_ ⟨_, rfl, ite2 (fun ne => ?_) (fun ne => ?_)⟩⟩
      · have ne : (siftF post (mulL (mulL c g) (invL dd))).1 ≠ unitL n := fun e => by rw [decide_eq_true e] at ne; cases ne
        have F4 := F3.ex x4
        obtain ⟨ac4, dg4, hac4⟩ := fk F4
        have hG4 : Pm H4 gc n g := hG.ex (x2.trans (x3.trans x4))
        have xW4 : ExM W.mut H H4 := xW.trans (.of (x2.trans (x3.trans x4)))
        have hasd := (hasF.2 _ hdd).2
        refine ⟨_, _, _, W4.ins, T.k_Tower, T.a_Tower_tape, _, twF_tape W, W.A.tp, rfl, _, _, W4.tape.ins, taF_times _, ?_⟩
        refine ⟨_, _, _, W4.ins, T.k_Tower, T.a_Tower_tape, _, twF_tape W, W.A.tp, rfl, _, _, W4.tape.ins, taF_times _, ?_⟩
        refine ⟨fa.fl, rfl, _, _, _, F4.ins, T.k_Floor, T.a_Floor_forth, _, flF_fo fa _, fa.fo, rfl, .ref ac4, dg4, W.A, n, L, ac4, gc, c, g, rfl, W4.tape, hW.stpl, ⟨hac4, c2⟩, hG4, hasc, hasg, n12, by omega, fun d5 H5 La x5 B5 s5 l5 has5 hd5 => ?_⟩
        have W5 := W4.setTp x5 B5
        have F5 := W5.fl _ _ _ hfa hfi1
        have xW5 := xW4.trans (x5.sub hW.subT)
        obtain ⟨ai5, dgi5, hai5⟩ := bk F5
        refine ⟨fa.fl, rfl, _, _, _, F5.ins, T.k_Floor, T.a_Floor_back, _, flF_ba fa _, fa.ba, rfl, .ref ai5, dgi5, W.A, n, La, d5, ai5, mulL c g, invL dd, rfl, W5.tape, hW.stpl, ⟨hd5, mulL_pm c2 pg⟩, ⟨hai5, invL_pm d2⟩, has5, hasd.more s5, n12, by omega, fun lp6 H6 Lb x6 B6 s6 l6 has6 hlp6 => ?_⟩
        have W6 := W5.setTp x6 B6
        have xW6 := xW5.trans (x6.sub hW.subT)
        have tk : (pre ++ { f with pend := pd } :: post).take (pre.length + 1) = pre ++ [{ f with pend := pd }] := by
          rw [List.take_append, List.take_of_length_le (by omega), show pre.length + 1 - pre.length = 1 by omega]
          rfl
        have tkp : ((pre ++ { f with pend := pd } :: post).take (pre.length + 1)).map Flr.pt = pre.map Flr.pt ++ [f.pt] := by rw [tk, List.map_append]; rfl
        have pts0 : (pre ++ { f with pend := pd } :: post).map Flr.pt = (pre ++ f :: post).map Flr.pt := by rw [List.map_append, List.map_append]; rfl
        have bnd : ∀ q ∈ pre ++ f :: post, q.gens.length ≤ 1000 ∧ q.pend.length ≤ 90000 := fun q hq => by
          have g1 := ok.gb q hq
          have p1 : q.pend.length ≤ PB (pre ++ f :: post) := by
            unfold PB
            have : ∀ (l : List Nat) (y : Nat), y ∈ l → y ≤ l.sum := fun l => by
              induction l with
              | nil => intro y h; cases h
              | cons a l ih =>
                intro y h
                rw [List.sum_cons]
                rcases List.mem_cons.mp h with e | h
                · omega
                · have := ih y h; omega
            exact this _ _ (List.mem_map.mpr ⟨q, hq, rfl⟩)
          exact ⟨by omega, by omega⟩
        have bnd0 : ∀ q ∈ pre ++ { f with pend := pd } :: post, q.gens.length ≤ 1000 ∧ q.pend.length ≤ 90000 := fun q hq => by
          rcases List.mem_append.mp hq with hq | hq
          · exact bnd q (List.mem_append_left _ hq)
          · rcases List.mem_cons.mp hq with rfl | hq
            · have := bnd f (List.mem_append_right _ (List.mem_cons_self ..))
              refine ⟨this.1, ?_⟩
              have h := this.2
              rw [ep, List.length_append] at h
              show pd.length ≤ 90000
              omega
            · exact bnd q (List.mem_append_right _ (List.mem_cons_of_mem _ hq))
        refine ⟨_, _, W6.ins, twF_take W, W, n, Lb, _, lp6, mulL (mulL c g) (invL dd), pre.length + 1, rfl, W6, by rw [tkp, dr]; exact h2, fun q hq => ?_, by rw [pts0]; exact ok.cov, n12, by simp only [List.length_append, List.length_cons] at ltot ⊢; omega, by simp only [List.length_append, List.length_cons] at ltot ⊢; omega, ⟨hlp6, lo1⟩, by rw [tkp]; exact lo2, has6, fun q hq c hc => (((hasf q hq).2 c hc).2.more s5).more s6, bnd0, by omega, fun H7 Lc x7 W7 s7 l7 has7 _ => ?_⟩
        · have := ok.inv.pts
          rcases List.mem_append.mp hq with hq | hq
          · exact this q (List.mem_append_left _ hq)
          · rcases List.mem_cons.mp hq with rfl | hq
            · exact this f (List.mem_append_right _ (List.mem_cons_self ..))
            · exact this q (List.mem_append_right _ (List.mem_cons_of_mem _ hq))
        · unfold takeS at W7
          rw [dr] at W7 has7
          rw [if_neg ne, tk, List.append_assoc] at W7
          exact z H7 Lc _ (xW6.trans x7) W7 (take_moved ok st ep hc hdd rfl ne (fun y hy => s7 y (s6 y (s5 y hy))) (by omega) has7) fun y hy => s7 y (s6 y (s5 y hy))
      · have e : (siftF post (mulL (mulL c g) (invL dd))).1 = unitL n := by
          by_cases e : (siftF post (mulL (mulL c g) (invL dd))).1 = unitL n
          · exact e
          · exact absurd (by rw [decide_eq_false e]; rfl) ne
        have w : Wd n (upG post) (mulL (mulL c g) (invL dd)) := TL_wd h2 _ (so.tl.mpr e)
        exact z H4 L _ (xW.trans (.of (x2.trans (x3.trans x4)))) W4 (pop_moved ok ep hc hdd rfl w) fun _ h => h
theorem ok_Tower_settle (T : TX K mg base) : FnOk P w K mg base CX0 6 (He.ma K (He.ga K "Tower") "settle") (fdA K (He.ma K (He.ga K "Tower") "settle")) ["self"] (spSettle K) := by
  refine T.F_Tower_settle.ok scTower_settle (fun vs H Q E h => ?_) (fun cdv A outer s H vs Q E hr h => ?_)
  · obtain ⟨W, n, ins, L, fs, rfl, _⟩ := h
    rfl
  · obtain ⟨W, n, ins, L, fs, rfl, hW, ok, z⟩ := h
    refine ⟨_, (pss_cons (ps_set (i := 1) scTower_settle.nd rfl (.inl rfl) (pe_op op_sub (pe_callB (lenS (K := K) rfl) (by rfl) T.n_len PySem.boot_len (pa_cons (pe_fld (pv 0) rfl) pa_nil)) pe_int))
      (pss_one (ps_while PassesOwn.never (pt_cmpR op_ge (pv 1) pe_int (nomark _)) (pss_one (ps_if (pt_truth (pe_fld (pe_ix (ixL (K := K) rfl) (pe_fld (pv 0) rfl) (pv 1) (fun _ _ => rfl)) rfl) (by intro _; rfl)) (pss_cons (ps_expr (pe_meth (pv 0) T.k_Tower T.m_Tower_try_pair (ok_Tower_try_pair T) hr T.b_Tower_try_pair .nil pass0 (pa_cons (pv 1) pa_nil)))
      (pss_one (ps_set (i := 1) scTower_settle.nd rfl (.inl rfl) (pe_op op_sub (pe_callB (lenS (K := K) rfl) (by rfl) T.n_len PySem.boot_len (pa_cons (pe_fld (pv 0) rfl) pa_nil)) pe_int)))) (pss_one (ps_aug (i := 1) scTower_settle.nd rfl (.inl rfl) pe_int ip_sub))))))), ?_⟩
    walk_at "so"
    have lF : ((W.Fs.map FA.fl).map V.ref).length = fs.length := by rw [List.length_map, List.length_map, hW.len]
    refine ⟨_, _, _, hW.ins, T.k_Tower, T.a_Tower_floors, _, twF_floors W, W.lf, rfl, _, .inl (sl_at hW.lf), ?_⟩
    rw [lF]
    refine ⟨fun m σ H1 => ∃ (L1 : List (List Int)) (fs1 : List Flr) (j : Nat), σ = [some (.ref W.tw), some (.int ((j : Int) - 1))] ∧ ExM W.mut H H1 ∧ TwAt K n H1 W L1 fs1 ∧ TOk n ins L1 fs1 ∧ fs1.map Flr.pt = fs.map Flr.pt ∧ (∀ p, Wd n (upG fs) p → Wd n (upG fs1) p) ∧ (∀ p, Has n L p → Has n L1 p) ∧ j ≤ fs1.length ∧ Still (fs1.drop j) ∧ m = 20 * pot n fs1 + j,
      ⟨_, L, fs, fs.length, rfl, .refl, hW, ok, rfl, (fun _ h => h), (fun _ h => h), Nat.le_refl _, (fun f hf => by rw [List.drop_of_length_le (Nat.le_refl _)] at hf; cases hf), rfl⟩, ?_⟩
    rintro m σ H1 ⟨L1, fs1, j, rfl, x1, W1, ok1, pts1, wd1, has1, lj, st1, rfl⟩
    walk_at "so"
    refine ite2 (fun c => ?_) (fun c => ?_)
    · have c := of_decide_eq_true c
      obtain ⟨i, rfl⟩ : ∃ i, j = i + 1 := ⟨j - 1, by omega⟩
      have ei : ((i + 1 : Nat) : Int) - 1 = (i : Int) := by omega
      rw [ei]
      have hfi : fs1[i]? = some fs1[i] := List.getElem?_eq_getElem (by omega)
      have sp : fs1 = fs1.take i ++ fs1[i] :: fs1.drop (i + 1) := by
        rw [← List.drop_eq_getElem_cons (by omega), List.take_append_drop]
      have lW := W1.len
      obtain ⟨fa, hfa⟩ : ∃ fa, W.Fs[i]? = some fa := ⟨_, List.getElem?_eq_getElem (by omega)⟩
      have F1 := W1.fl _ _ _ hfa hfi
      have lti : (fs1.take i).length = i := by rw [List.length_take]; omega
      refine ⟨fun σ' H' => ∃ m', m' < 20 * pot n fs1 + (i + 1) ∧ ∃ (L1 : List (List Int)) (fs1 : List Flr) (j : Nat), σ' = [some (.ref W.tw), some (.int ((j : Int) - 1))] ∧ ExM W.mut H H' ∧ TwAt K n H' W L1 fs1 ∧ TOk n ins L1 fs1 ∧ fs1.map Flr.pt = fs.map Flr.pt ∧ (∀ p, Wd n (upG fs) p → Wd n (upG fs1) p) ∧ (∀ p, Has n L p → Has n L1 p) ∧ j ≤ fs1.length ∧ Still (fs1.drop j) ∧ m' = 20 * pot n fs1 + j, fun _ _ h => h, ?_⟩
      obtain ⟨A4, e4, r4⟩ := F1.pe
      refine ⟨_, _, _, W1.ins, T.k_Tower, T.a_Tower_floors, _, twF_floors W, W.lf, rfl, _, sl_at W1.lf, .ref fa.fl, atI_nat (by rw [List.getElem?_map, List.getElem?_map, hfa]; rfl), fa.fl, rfl, _, _, _, F1.ins, T.k_Floor, T.a_Floor_pending, _, flF_pe fa _, _, .inl ⟨_, sl_at e4, rfl⟩, ite2 (fun e => ?_) (fun e => ?_)⟩
      · have pn : fs1[i].pend ≠ [] := fun q => by
          have l := r4.len
          rw [q] at l
          have l : A4 = [] := List.length_eq_zero_iff.mp l
          rw [l] at e
          cases e
        have W1' := W1
        have ok1' := ok1
        rw [sp] at W1' ok1'
        refine ⟨_, _, W1.ins, twF_try W, W, n, ins, L1, fs1.take i, fs1[i], fs1.drop (i + 1), by rw [lti], W1', ok1', st1, pn, fun H2 L2 fs2 x2 W2 mv s2 => ?_⟩
        rw [← sp] at mv
        have lF2 : ((W.Fs.map FA.fl).map V.ref).length = fs2.length := by rw [List.length_map, List.length_map, W2.len]
        refine ⟨_, _, _, W2.ins, T.k_Tower, T.a_Tower_floors, _, twF_floors W, W.lf, rfl, _, .inl (sl_at W2.lf), ?_⟩
        rw [lF2]
        have lt := mv.less
        have l12 := mv.ok.len
        have lpts : fs2.length = fs1.length := by rw [← List.length_map (f := Flr.pt), mv.pts, List.length_map]
        exact ⟨_, by omega, L2, fs2, fs2.length, rfl, x1.trans x2, W2, mv.ok, mv.pts.trans pts1, (fun p w => mv.wd p (wd1 p w)), (fun p h => (has1 p h).more s2), Nat.le_refl _, (fun f hf => by rw [List.drop_of_length_le (Nat.le_refl _)] at hf; cases hf), rfl⟩
      · have pn : fs1[i].pend = [] := by
          have l := r4.len
          cases A4 with
          | nil => exact List.length_eq_zero_iff.mp l.symm
          | cons a A => exact absurd rfl e
        refine ⟨_, rfl, _, _, rfl, rfl, 20 * pot n fs1 + i, by omega, L1, fs1, i, rfl, x1, W1, ok1, pts1, wd1, has1, by omega, fun f hf => ?_, rfl⟩
        rw [List.drop_eq_getElem_cons (by omega)] at hf
        rcases List.mem_cons.mp hf with rfl | hf
        · exact pn
        · exact st1 f hf
    · have j0 : j = 0 := by
        have c : ¬ (0 : Int) ≤ (j : Int) - 1 := fun h => c (decide_eq_true h)
        omega
      subst j0
      exact z H1 L1 fs1 x1 W1 ok1 st1 pts1 wd1 has1
theorem ok_Tower___init__ (T : TX K mg base) : FnOk P w K mg base CX0 7 (He.ma K (He.ga K "Tower") "__init__") (fdA K (He.ma K (He.ga K "Tower") "__init__")) ["self", "degree", "generators", "points"] (spTowerInit K) := by
  refine T.F_Tower___init__.ok scTower___init__ (fun vs H Q E h => ?_) (fun cdv A outer s H vs Q E hr h => ?_)
  · obtain ⟨x, dx, g, pl, n, As, gs, bs, rfl, _⟩ := h
    rfl
  · obtain ⟨x, dx, g, pl, n, As, gs, bs, rfl, hx, hg, hR, ipm, lg, n12, hpl, hbs, cov, lbs, z⟩ := h
    refine ⟨_, (pss_cons (ps_fld (pv 0) (pe_call (ok_unit T) (hr.mono (by decide)) (by rfl) T.g_unit T.F_unit.kp T.b_unit .nil pass0 (pa_cons (pv 1) pa_nil)) rfl)
      (pss_cons (ps_fld (pv 0) pe_bl rfl)
      (pss_cons (ps_fld (pv 0) (pe_make T.M_Tape (ok_Tape___init__ T) (hr.mono (by decide)) (by rfl) T.G_Tape T.b_Tape___init__ .nil pass0 (pa_cons (pe_fld (pv 0) rfl) (pa_cons (pv 2) pa_nil))) rfl)
      (pss_cons (ps_fld (pv 0) (pe_lc (own := [("point", 5)]) (g := gName 5) (tt := tYes) rfl scTower___init__.nd (piL (K := K) rfl (pv 3)) (blkOk_by (N := ["self", "degree", "generators", "points", "p", "point"]) (sc := defScope sTower___init__) (by decide +kernel)) (fun _ _ _ _ _ => (pg_name (i := 5) scTower___init__.nd rfl (.inl rfl))) (fun _ _ _ _ _ => pts_nil) (fun _ _ _ _ _ => (pe_make T.M_Floor (ok_Floor___init__ T) (hr.mono (by decide)) (by rfl) T.G_Floor T.b_Floor___init__ .nil pass0 (pa_cons (pv 5) (pa_cons (pe_fldK (K := K) rfl (pv 0) rfl) pa_nil))))) rfl)
      (pss_one (ps_for PassesOwn.never rfl (piT (K := K) rfl (pv 2)) (pg_name (i := 4) scTower___init__.nd rfl (.inl rfl)) (pss_cons (ps_expr (pe_meth (pv 0) T.k_Tower T.m_Tower_take (ok_Tower_take T) (hr.mono (by decide)) T.b_Tower_take .nil pass0 (pa_cons (pv 4) (pa_cons pe_int pa_nil))))
      (pss_one (ps_expr (pe_meth0 (pv 0) T.k_Tower T.m_Tower_settle (ok_Tower_settle T) hr T.b_Tower_settle .nil pass0)))))))))), ?_⟩
    walk_at "so"
    have xm : x ∈ [x] := List.mem_singleton.mpr rfl
    refine ⟨n, rfl, by omega, fun o H1 x1 ho => ?_⟩
    have hx1 := x1.st _ _ hx trivial
    have ho1 : H1 o = some (.tup ((unitL n).map V.int)) := ho
    refine ⟨_, _, _, hx1, T.k_Tower, T.a_Tower_one, by decide, ?_⟩
    rw [putT1]
    have x2 : ExM [x] H (upd H1 x (.ins (He.ga K "Tower") dx [("one", .ref o)])) := (ExM.of x1).up xm
    have hx2 : upd H1 x (.ins (He.ga K "Tower") dx [("one", .ref o)]) x = some (.ins (He.ga K "Tower") dx [("one", .ref o)]) := upd_same
    have no : o ≠ x := ne_of ho1 hx1 (by intro q; cases q)
    have ho2 : upd H1 x (.ins (He.ga K "Tower") dx [("one", .ref o)]) o = some (.tup ((unitL n).map V.int)) := by rw [upd_ne no]; exact ho1
    generalize upd H1 x (.ins (He.ga K "Tower") dx [("one", .ref o)]) = H2 at x2 hx2 ho2 ⊢
    refine ⟨_, _, _, hx2, T.k_Tower, T.a_Tower_is_blind, by show 1 < 1000; decide, ?_⟩
    rw [putV1]
    have x3 : ExM [x] H (upd H2 x (.ins (He.ga K "Tower") dx [("one", .ref o), ("is_blind", .bl false)])) := x2.up xm
    have hx3 : upd H2 x (.ins (He.ga K "Tower") dx [("one", .ref o), ("is_blind", .bl false)]) x = some (.ins (He.ga K "Tower") dx [("one", .ref o), ("is_blind", .bl false)]) := upd_same
    have ho3 : upd H2 x (.ins (He.ga K "Tower") dx [("one", .ref o), ("is_blind", .bl false)]) o = some (.tup ((unitL n).map V.int)) := by rw [upd_ne no]; exact ho2
    generalize upd H2 x (.ins (He.ga K "Tower") dx [("one", .ref o), ("is_blind", .bl false)]) = H3 at x3 hx3 ho3 ⊢
    refine ⟨_, _, _, hx3, T.k_Tower, T.a_Tower_one, _, lkV1 o, ?_⟩
    intro t dxt nt ndxt ndt
    have xG : Ex H3 (upd (upd H3 dxt (.own t)) t (.ins (He.ga K "Tape") dxt [])) := (Ex.new ndxt).trans (Ex.new (by rw [upd_ne ndt.symm]; exact nt))
    have htG : upd (upd H3 dxt (.own t)) t (.ins (He.ga K "Tape") dxt []) t = some (.ins (He.ga K "Tape") dxt []) := upd_same
    generalize upd (upd H3 dxt (.own t)) t (.ins (He.ga K "Tape") dxt []) = G3 at xG htG ⊢
    have gx : g ∉ [x] := fun c => by rw [List.mem_singleton.mp c, hx] at hg; cases hg
    have plx : pl ∉ [x] := fun c => by rw [List.mem_singleton.mp c, hx] at hpl; cases hpl
    have hg3 := x3.at_ hg gx trivial
    have hR3 : RowsAt H3 As gs := hR.kept fun a xs e => x3.at_ e (fun c => by rw [List.mem_singleton.mp c, hx] at e; cases e) trivial
    have hpl3 := x3.at_ hpl plx nat_norow
    have tx : t ≠ x := fun e => by rw [e, hx3] at nt; cases nt
    refine ⟨t, dxt, o, g, n, As, gs, rfl, htG, xG.st _ _ ho3 trivial, xG.st _ _ hg3 trivial, hR3.ex xG, lg, fun A H4 L eA eo x4 ns np nsp B4 mL lL => ⟨rfl, ?_⟩⟩
    have x34 : Ex H3 H4 := x4.base xG fun a ha => by rw [List.mem_singleton.mp ha]; exact nt
    have hx4 := x34.st _ _ hx3 trivial
    refine ⟨_, _, _, hx4, T.k_Tower, T.a_Tower_tape, by show 2 < 1000; decide, ?_⟩
    rw [putV2]
    have x5 : ExM [x] H4 (upd H4 x (.ins (He.ga K "Tower") dx [("one", .ref o), ("is_blind", .bl false), ("tape", .ref t)])) := ExM.refl.up xm
    have hx5 : upd H4 x (.ins (He.ga K "Tower") dx [("one", .ref o), ("is_blind", .bl false), ("tape", .ref t)]) x = some (.ins (He.ga K "Tower") dx [("one", .ref o), ("is_blind", .bl false), ("tape", .ref t)]) := upd_same
    have n5 : ∀ y, upd H4 x (.ins (He.ga K "Tower") dx [("one", .ref o), ("is_blind", .bl false), ("tape", .ref t)]) y = none → H4 y = none := fun y e => by
      by_cases c : y = x
      · subst c; rw [upd_same] at e; cases e
      · rw [upd_ne c] at e; exact e
    generalize upd H4 x (.ins (He.ga K "Tower") dx [("one", .ref o), ("is_blind", .bl false), ("tape", .ref t)]) = H5 at x5 hx5 n5 ⊢
    have B5 : TpAt K n H5 A L := B4.x1 x5 (by rw [eA]; exact tx) hx4
    have hpl5 := x5.at_ (x34.st _ _ hpl3 nat_norow) plx nat_norow
    have ho5 : H5 o = some (.tup ((unitL n).map V.int)) := x5.at_ (x34.st _ _ ho3 trivial) (fun c => no (List.mem_singleton.mp c)) trivial
    refine ⟨_, rfl, pl, rfl, ⟨_, sl_at hpl5⟩, fun D nD => ?_⟩
    refine lc_it (walk_list (xs := bs.map fun b : Nat => V.int b)) (fun j H6 => Ex H5 H6 ∧ ∃ Fs : List FA, H6 D = some (.lst ((Fs.map FA.fl).map V.ref)) ∧ Fs.length = j ∧ (∀ (i : Nat) (a : FA) (b : Nat), Fs[i]? = some a → bs[i]? = some b → FlAt K H6 a (flr0 n b)) ∧ (∀ y ∈ Fs.flatMap FA.mut, H5 y = none ∧ y ≠ D) ∧ (Fs.flatMap FA.mut).Nodup ∧ (∀ a ∈ Fs, a.fl ≠ x))
      ⟨Ex.new nD, [], upd_same, rfl, (fun i a b h => by cases h), (fun y h => by cases h), List.nodup_nil, fun a h => by cases h⟩ (fun j H6 _ h => sl_at (h.1.st _ _ hpl5 nat_norow)) (fun j v H6 H7 hj ⟨x6, Fs, hD, lFs, fl, fr, ndF, flx⟩ ⟨e, hx'⟩ => ?_) (fun H6 ⟨x6, Fs, hD, lFs, fl, fr, ndF, flx⟩ => ?_)
    · subst e
      rw [List.length_map] at hj
      have hE : bs[j]? = some bs[j] := List.getElem?_eq_getElem hj
      generalize bs[j] = b at hE
      have ev : v = .int b := by
        rw [List.getElem?_map, hE] at hx'
        exact (Option.some.inj hx').symm
      subst ev
      refine ⟨rfl, yesI ⟨_, rfl, _, rfl, x, _, _, _, _, rfl, x6.st _ _ hx5 trivial, T.k_Tower, T.a_Tower_one, lkV2 o t, ?_⟩⟩
      intro f dxf nf ndf ndff
      have xG2 : Ex H7 (upd (upd H7 dxf (.own f)) f (.ins (He.ga K "Floor") dxf [])) := (Ex.new ndf).trans (Ex.new (by rw [upd_ne ndff.symm]; exact nf))
      have hfG : upd (upd H7 dxf (.own f)) f (.ins (He.ga K "Floor") dxf []) f = some (.ins (He.ga K "Floor") dxf []) := upd_same
      generalize upd (upd H7 dxf (.own f)) f (.ins (He.ga K "Floor") dxf []) = G6 at xG2 hfG ⊢
      refine ⟨f, dxf, o, n, b, rfl, hfG, xG2.st _ _ (x6.st _ _ ho5 trivial) trivial, fun a H8 ea x8 fresh ndm F8 => ⟨rfl, ?_⟩⟩
      have x78 : Ex H7 H8 := x8.base xG2 fun y hy => by rw [List.mem_singleton.mp hy]; exact nf
      have hD8 := x78.st _ _ hD refsM
      have fr7 : ∀ y ∈ a.mut, H7 y = none := fun y hy => xG2.no y (fresh y hy)
      have lD : Fs.length < sizeLine := by
        have : (1000 : Nat) ≤ sizeLine := by decide
        omega
      refine ⟨_, hD8, by rw [List.length_map, List.length_map]; exact lD, (x6.trans x78).own nD, Fs ++ [a], by rw [upd_same, List.map_append, List.map_append, ← ea]; rfl, by rw [List.length_append, lFs]; rfl, fun i c b' hc hb' => ?_, fun y hy => ?_, ?_, fun c hc => ?_⟩
      · have kD : ∀ (c : FA) (f : Flr), FlAt K H8 c f → (∀ y ∈ c.mut, y ≠ D) → FlAt K (upd H8 D (.lst ((Fs.map FA.fl).map V.ref ++ [V.ref a.fl]))) c f := fun c f F hy => F.exm (M := [D]) (ExM.refl.up (List.mem_singleton.mpr rfl)) (fun y m => by rw [List.mem_singleton.mp m]; exact ⟨_, hD8, trivial⟩) fun y m q => hy y m (List.mem_singleton.mp q)
        rw [ea] at kD
        by_cases l : i < Fs.length
        · rw [List.getElem?_append_left l] at hc
          exact kD c _ ((fl i c b' hc hb').ex x78) fun y m => (fr y (List.mem_flatMap.mpr ⟨c, List.mem_of_getElem? hc, m⟩)).2
        · have li := (List.getElem?_eq_some_iff.mp hc).1
          rw [List.length_append] at li
          have li : i < Fs.length + 1 := li
          have ei : i = Fs.length := by omega
          subst ei
          rw [List.getElem?_append_right (Nat.le_refl _), Nat.sub_self] at hc
          cases hc
          rw [lFs, hE] at hb'
          cases hb'
          exact kD a _ F8 fun y m e => by
            have := fr7 y m
            rw [e, hD] at this
            cases this
      · rw [List.flatMap_append] at hy
        rcases List.mem_append.mp hy with hy | hy
        · exact fr y hy
        · rw [List.flatMap_cons, List.flatMap_nil, List.append_nil] at hy
          have := fr7 y hy
          exact ⟨x6.no y this, fun e => by rw [e, hD] at this; cases this⟩
      · rw [List.flatMap_append, List.flatMap_cons, List.flatMap_nil, List.append_nil]
        refine List.nodup_append.mpr ⟨ndF, ndm, fun y hy z hz e => ?_⟩
        subst e
        obtain ⟨c, hc, hyc⟩ := List.mem_flatMap.mp hy
        obtain ⟨i, hi, ei⟩ := List.getElem_of_mem hc
        have F7 := fl i c bs[i] (by rw [List.getElem?_eq_getElem hi, ei]) (List.getElem?_eq_getElem (by omega))
        obtain ⟨u, hu, _⟩ := F7.km y hyc
        rw [fr7 y hz] at hu
        cases hu
      · rcases List.mem_append.mp hc with hc | hc
        · exact flx c hc
        · rw [List.mem_singleton.mp hc, ea]
          exact fun e => by rw [e, x6.st _ _ hx5 trivial] at nf; cases nf
    · rw [List.length_map] at lFs
      have hx6 := x6.st _ _ hx5 trivial
      refine ⟨_, _, _, hx6, T.k_Tower, T.a_Tower_floors, by show 3 < 1000; decide, ?_⟩
      rw [putV3]
      have x7 : ExM [x] H6 (upd H6 x (.ins (He.ga K "Tower") dx [("one", .ref o), ("is_blind", .bl false), ("tape", .ref t), ("floors", .ref D)])) := ExM.refl.up xm
      have hx7 : upd H6 x (.ins (He.ga K "Tower") dx [("one", .ref o), ("is_blind", .bl false), ("tape", .ref t), ("floors", .ref D)]) x = some (.ins (He.ga K "Tower") dx [("one", .ref o), ("is_blind", .bl false), ("tape", .ref t), ("floors", .ref D)]) := upd_same
      generalize upd H6 x (.ins (He.ga K "Tower") dx [("one", .ref o), ("is_blind", .bl false), ("tape", .ref t), ("floors", .ref D)]) = H7 at x7 hx7 ⊢
      have B7 : TpAt K n H7 A L := (B5.ex x6).x1 x7 (by rw [eA]; exact tx) hx6
      have Dx : D ≠ x := fun e => by rw [e, hx5] at nD; cases nD
      have hD7 := x7.at_ hD (fun c => Dx (List.mem_singleton.mp c)) refsM
      obtain ⟨ini, sti, pti⟩ := init_ok (L := L) hbs cov n12 lbs ipm (Nat.le_trans lL lg)
      have hnone : ∀ y, H5 y = none → H y = none := fun y e => x3.no1 hx3 (x34.no y (n5 y e))
      have mutA : ∀ y ∈ A.mut, H y = none ∧ (∃ u, H5 y = some u) := fun y hy => by
        obtain ⟨u, hu, _⟩ := B5.km y hy
        refine ⟨?_, u, hu⟩
        rcases List.mem_cons.mp hy with e | hy
        · rw [e]; exact x3.no1 hx3 (xG.no _ ns)
        · rw [List.mem_singleton.mp hy]; exact x3.no1 hx3 (xG.no _ np)
      have ndW : (A.mut ++ Fs.flatMap FA.mut).Nodup := by
        refine List.nodup_append.mpr ⟨by simp [TA.mut, nsp], ndF, fun y hy z hz e => ?_⟩
        subst e
        obtain ⟨u, hu⟩ := (mutA y hy).2
        rw [(fr y hz).1] at hu
        cases hu
      have DW : D ∉ A.mut ++ Fs.flatMap FA.mut := fun c => by
        rcases List.mem_append.mp c with c | c
        · obtain ⟨u, hu⟩ := (mutA D c).2
          rw [nD] at hu
          cases hu
        · exact (fr D c).2 rfl
      have W7 : TwAt K n H7 ⟨x, dx, D, o, A, Fs⟩ L (bs.map (flr0 n)) := by
        refine ⟨by rw [← eA] at hx7; exact hx7, B7, eo, hD7, DW, by rw [List.length_map]; exact lFs, fun i c f hc hf => ?_, ndW⟩
        rw [List.getElem?_map] at hf
        obtain ⟨b, hb, e⟩ := Option.map_eq_some_iff.mp hf
        rw [← e]
        exact (fl i c b hc hb).x1 x7 (flx c (List.mem_of_getElem? hc)) hx6
      have hg7 := x7.at_ (x6.st _ _ (x5.at_ (x34.st _ _ hg3 trivial) gx trivial) trivial) gx trivial
      have tt : ∀ a xs, H3 a = some (.tup xs) → H7 a = some (.tup xs) := fun a xs e => by
        have ax : a ∉ [x] := fun c => by rw [List.mem_singleton.mp c, hx3] at e; cases e
        exact x7.at_ (x6.st _ _ (x5.at_ (x34.st _ _ e trivial) ax trivial) trivial) ax trivial
      have hR7 := hR3.kept tt
      have x07 : ExM [x] H H7 := ((x3.trans (.of x34)).trans (x5.trans (.of x6))).trans x7
      have has7 : ∀ p ∈ gs, Has n L p := fun p hp => .inr (mL p hp)
      have kmW := W7.km
      have mutH : ∀ y ∈ A.mut ++ Fs.flatMap FA.mut, H y = none := fun y hy => by
        rcases List.mem_append.mp hy with hy | hy
        · exact (mutA y hy).1
        · exact hnone y (fr y hy).1
      generalize hfs : bs.map (flr0 n) = fs0 at ini sti pti W7
      refine ⟨_, rfl, g, rfl, ⟨_, .inl (.inl hg7)⟩, for_it (walk_tup (xs := As.map V.ref)) (fun j σ H8 => ∃ (y4 : Option V) (L1 : List (List Int)) (fs1 : List Flr), σ = [some (.ref x), some (.int n), some (.ref g), some (.ref pl), y4, none] ∧ ExM (A.mut ++ Fs.flatMap FA.mut) H7 H8 ∧ TwAt K n H8 ⟨x, dx, D, o, A, Fs⟩ L1 fs1 ∧ TOk n gs L1 fs1 ∧ Still fs1 ∧ fs1.map Flr.pt = bs ∧ (∀ p ∈ gs.take j, Wd n (upG fs1) p) ∧ ∀ p ∈ gs, Has n L1 p)
        ⟨none, L, fs0, rfl, .refl, W7, ini, sti, pti, (fun _ h => by cases h), has7⟩ (fun j σ H8 _ ⟨_, _, _, _, x8, _⟩ => .inl (.inl (x8.t kmW hg7))) (fun j v σ H8 H9 hj ⟨y4, L1, fs1, es, x8, W8, ok8, st8, pt8, wd8, has8⟩ ⟨e, hv⟩ => ?_) (fun σ H8 ⟨y4, L1, fs1, es, x8, W8, ok8, st8, pt8, wd8, has8⟩ => ?_)⟩
      · subst es e
        rw [List.length_map, hR7.len] at hj
        have hE : gs[j]? = some gs[j] := List.getElem?_eq_getElem hj
        obtain ⟨b, hb, hb2⟩ := hR7.at_ j _ hE
        have ev : v = .ref b := by
          rw [List.getElem?_map, hb] at hv
          exact (Option.some.inj hv).symm
        have hm := List.getElem_mem hj
        have et : gs.take (j + 1) = gs.take j ++ [gs[j]] := by rw [List.take_add_one, hE]; rfl
        rw [et]
        generalize gs[j] = p at hb2 hm ⊢
        subst ev
        walk_at "so"
        have tl8 := ok8.tl
        refine ⟨_, _, W8.ins, twF_take _, ⟨x, dx, D, o, A, Fs⟩, n, L1, fs1, b, p, 0, rfl, W8, ok8.inv, ok8.inv.pts, ok8.cov, ok8.n12, ok8.len, Nat.zero_le _, ⟨x8.t kmW hb2, ipm p hm⟩, (fun b h => by cases h), has8 p hm, fun f hf c hc => ((ok8.has f hf).2 c hc).2, ok8.bnd, by omega, fun H10 L2 x10 W10 s10 l10 has10 eq10 => ?_⟩
        obtain ⟨ok10, pts10, wdp, wdm⟩ := take0_moved ok8 st8 hm s10 l10 has10 eq10
        refine ⟨_, _, W10.ins, twF_settle _, ⟨x, dx, D, o, A, Fs⟩, n, gs, L2, _, rfl, W10, ok10, fun H11 L3 fs3 x11 W11 ok11 st11 pts11 wd11 has11 => ⟨(x8.trans x10).trans x11, L3, fs3, W11, ok11, st11, pts11.trans (pts10.trans pt8), fun q hq => ?_, fun q hq => has11 q ((has8 q hq).more s10)⟩⟩
        rcases List.mem_append.mp hq with hq | hq
        · exact wd11 q (wdm q (wd8 q hq))
        · rw [List.mem_singleton.mp hq]
          exact wd11 p wdp
      · subst es
        rw [List.length_map, hR7.len, List.take_of_length_le (Nat.le_refl _)] at wd8
        exact z ⟨x, dx, D, o, A, Fs⟩ H8 L1 fs1 rfl (x8.base x07 fun y hy => by
          unfold wo
          by_cases c : y ∈ [x]
          · rw [if_pos c]
          · rw [if_neg c]; exact mutH y hy) W8 ok8 st8 pt8 wd8 mutH
theorem ok_Tower_trim (T : TX K mg base) : FnOk P w K mg base CX0 1 (He.ma K (He.ga K "Tower") "trim") (fdA K (He.ma K (He.ga K "Tower") "trim")) ["self", "many"] (spTrim K) := by
  refine T.F_Tower_trim.ok scTower_trim (fun vs H Q E h => ?_) (fun cdv A outer s H vs Q E hr h => ?_)
  · obtain ⟨W, n, gs, fs, m, rfl, _⟩ := h
    rfl
  · obtain ⟨W, n, gs, fs, m, rfl, hT, lm, z⟩ := h
    refine ⟨_, (pss_one (ps_fld (pv 0) (pe_op op_cat (pe_slice (slL (K := K) rfl) (pe_fld (pv 0) rfl) po_none (po_some (pv 1))) (pe_lc (own := [("floor", 2)]) (g := gName 2)  rfl scTower_trim.nd (piL (K := K) rfl (pe_slice (slL (K := K) rfl) (pe_fld (pv 0) rfl) (po_some (pv 1)) po_none)) (blkOk_by (N := ["self", "many", "floor"]) (sc := defScope sTower_trim) (by decide +kernel)) (fun _ _ _ _ _ => (pg_name (i := 2) scTower_trim.nd rfl (.inl rfl))) (fun _ _ _ _ _ => (pts_one (pt_cmpR op_gt (pe_callB call_lenD (by rfl) T.n_len PySem.boot_len (pa_cons (pe_fldK (K := K) rfl (pv 2) rfl) pa_nil)) pe_int (nomark _)))) (fun _ _ _ _ _ => (pv 2)))) rfl)), ?_⟩
    walk_at "so"
    obtain ⟨L, W0, ok⟩ := hT.st
    have lF := W0.len
    have l12 := ok.len
    have line : (1000 : Nat) ≤ sizeLine := by decide
    have F0 : FlsAt K H W.Fs fs := ⟨lF, fun i f e => by
      obtain ⟨a, ha⟩ : ∃ a, W.Fs[i]? = some a := ⟨_, List.getElem?_eq_getElem (by have := (List.getElem?_eq_some_iff.mp e).1; omega)⟩
      exact ⟨a, ha, W0.fl i a f ha e⟩⟩
    have emap : ∀ l : List FA, (l.map FA.fl).map V.ref = l.map fun a => V.ref a.fl := fun l => by rw [List.map_map]; rfl
    refine ⟨_, rfl, W.tw, _, _, _, _, rfl, W0.ins, T.k_Tower, T.a_Tower_floors, twF_floors W, _, rfl, _, rfl, W.lf, _, rfl, sl_at W0.lf, fun p np => ?_⟩
    rw [cut_take, ← List.map_take, ← List.map_take]
    have xp := Ex.new (o := .lst (((W.Fs.take m).map FA.fl).map V.ref)) np
    have hp : upd H p (.lst (((W.Fs.take m).map FA.fl).map V.ref)) p = some (.lst (((W.Fs.take m).map FA.fl).map V.ref)) := upd_same
    generalize upd H p (.lst (((W.Fs.take m).map FA.fl).map V.ref)) = H1 at xp hp ⊢
    have W1 := W0.ex xp
    refine ⟨_, rfl, W.tw, _, _, _, _, rfl, W1.ins, T.k_Tower, T.a_Tower_floors, twF_floors W, _, rfl, _, rfl, W.lf, _, rfl, sl_at W1.lf, fun q nq => ?_⟩
    rw [cut_drop (by rw [List.length_map, List.length_map]; omega), ← List.map_drop, ← List.map_drop]
    have xq := Ex.new (o := .lst (((W.Fs.drop m).map FA.fl).map V.ref)) nq
    have hq : upd H1 q (.lst (((W.Fs.drop m).map FA.fl).map V.ref)) q = some (.lst (((W.Fs.drop m).map FA.fl).map V.ref)) := upd_same
    generalize upd H1 q (.lst (((W.Fs.drop m).map FA.fl).map V.ref)) = H2 at xq hq ⊢
    have x02 := xp.trans xq
    have G2 := (F0.ex x02).drop m
    refine ⟨q, rfl, ⟨_, sl_at hq⟩, fun D nD => ?_⟩
    refine lc_it (walk_list (xs := ((W.Fs.drop m).map FA.fl).map V.ref)) (fun j H6 => Ex H2 H6 ∧ ∃ Bs : List FA, H6 D = some (.lst (Bs.map fun a => V.ref a.fl)) ∧ FlsAt K H2 Bs (((fs.drop m).take j).filter fun f => decide (1 < f.fo.length))) ⟨Ex.new nD, [], upd_same, .nil⟩ (fun j H6 _ h => sl_at (h.1.st _ _ hq refsM)) (fun j v H6 H7 hj ⟨x6, Bs, hD, RB⟩ ⟨e, hx⟩ => ?_) (fun H6 ⟨x6, Bs, hD, RB⟩ => ?_)
    · subst e
      rw [List.length_map, List.length_map, G2.len] at hj
      have hE : (fs.drop m)[j]? = some (fs.drop m)[j] := List.getElem?_eq_getElem hj
      obtain ⟨fa, hfa, F2⟩ := G2.at_ j _ hE
      have F6 := F2.ex x6
      have et : ((fs.drop m).take (j + 1)).filter (fun f => decide (1 < f.fo.length)) = ((fs.drop m).take j).filter (fun f => decide (1 < f.fo.length)) ++ (if 1 < (fs.drop m)[j].fo.length then [(fs.drop m)[j]] else []) := by
        rw [List.take_add_one, hE, List.filter_append]
        congr 1
        by_cases c : 1 < (fs.drop m)[j].fo.length
        · rw [if_pos c]
          exact List.filter_cons_of_pos (decide_eq_true c)
        · rw [if_neg c]
          exact List.filter_cons_of_neg (by rw [decide_eq_false c]; exact Bool.false_ne_true)
      have lB : Bs.length ≤ 12 := by
        have := RB.len
        have := List.length_filter_le (fun f : Flr => decide (1 < f.fo.length)) ((fs.drop m).take j)
        rw [List.length_take, List.length_drop] at this
        omega
      rw [et]
      generalize (fs.drop m)[j] = f at F6 F2 ⊢
      generalize ((fs.drop m).take j).filter (fun f => decide (1 < f.fo.length)) = Y at RB ⊢
      have ev : v = .ref fa.fl := by
        rw [List.getElem?_map, List.getElem?_map, hfa] at hx
        exact (Option.some.inj hx).symm
      subst ev
      obtain ⟨A2, e2, r2⟩ := F6.fo
      have lk : (kvs (f.fo.map Prod.fst) A2).length = f.fo.length := by rw [kvs_len (by rw [r2.len, List.length_map, List.length_map]), List.length_map]
      refine ⟨rfl, ?_⟩
      walk_at "so"
      refine ⟨_, _, _, F6.ins, T.k_Floor, T.a_Floor_forth, _, flF_fo fa _, fa.fo, rfl, _, e2, ?_⟩
      rw [lk]
      by_cases c : 1 < f.fo.length
      · rw [if_pos (decide_eq_true (by omega)), if_pos c]
        exact ⟨_, hD, by rw [List.length_map]; omega, x6.own nD, Bs ++ [fa], by rw [upd_same, List.map_append]; rfl, RB.more F2⟩
      · rw [if_neg (by rw [decide_eq_true_iff]; omega), if_neg c, List.append_nil]
        exact ⟨x6, Bs, hD, RB⟩
    · rw [List.length_map, List.length_map, List.length_drop, lF, List.take_of_length_le (by rw [List.length_drop]; exact Nat.le_refl _)] at RB
      show rCat (V.ref p) (V.ref D) H6 _
      have hp6 := (xq.trans x6).st _ _ hp refsM
      have lB : Bs.length ≤ 12 := by
        have := RB.len
        have := List.length_filter_le (fun f : Flr => decide (1 < f.fo.length)) (fs.drop m)
        rw [List.length_drop] at this
        omega
      refine ⟨p, D, _, _, rfl, rfl, hp6, hD, ?_, fun r nr => ?_⟩
      · rw [List.length_map, List.length_map, List.length_map, List.length_take]
        omega
      · rw [emap, ← List.map_append]
        have xr := Ex.new (o := .lst (((W.Fs.take m) ++ Bs).map fun a => V.ref a.fl)) nr
        have hr : upd H6 r (.lst (((W.Fs.take m) ++ Bs).map fun a => V.ref a.fl)) r = some (.lst (((W.Fs.take m) ++ Bs).map fun a => V.ref a.fl)) := upd_same
        have x06 := (x02.trans x6).trans xr
        have FA6 := (((F0.take m).ex (x02.trans x6)).app (RB.ex x6)).ex xr
        have W6 := W0.ex x06
        generalize upd H6 r (.lst (((W.Fs.take m) ++ Bs).map fun a => V.ref a.fl)) = H7 at hr x06 FA6 W6 ⊢
        refine ⟨_, _, _, W6.ins, T.k_Tower, T.a_Tower_floors, by show 4 < 1000; omega, ?_⟩
        rw [putW_fl]
        have xM : ExM [W.tw] H7 (upd H7 W.tw (.ins (He.ga K "Tower") W.dx (twF { W with lf := r }))) := ExM.refl.up (List.mem_singleton.mpr rfl)
        refine z r (W.Fs.take m ++ Bs) _ ((ExM.of x06).trans xM) upd_same ?_ ⟨FA6.len, fun i f e => ?_⟩
        · rw [upd_ne (ne_of hr W6.ins (by intro q; cases q))]
          exact hr
        · obtain ⟨a, e1, e2⟩ := FA6.at_ i f e
          exact ⟨a, e1, e2.x1 xM (fun c => by
            have k := e2.ins
            rw [c, W6.ins] at k
            injection k with k
            injection k with k1 k2 k3
            exact fl_tw k3.symm) W6.ins⟩
theorem ok_Tower_holds (T : TX K mg base) : FnOk P w K mg base CX0 3 (He.ma K (He.ga K "Tower") "holds") (fdA K (He.ma K (He.ga K "Tower") "holds")) ["self", "p"] (spHolds K) := by
  refine T.F_Tower_holds.ok scTower_holds (fun vs H Q E h => ?_) (fun cdv A outer s H vs Q E hr h => ?_)
  · obtain ⟨W, n, gs, fs, a, p, b, rfl, _⟩ := h
    rfl
  · obtain ⟨W, n, gs, fs, a, p, b, rfl, hT, hp, eb, z⟩ := h
    refine ⟨_, (pss_one (ps_ret (pe_cmpR (eqD (K := K) rfl hr) (pe_ix (ixT (K := K) rfl) (pe_meth (pv 0) T.k_Tower T.m_Tower_sift (ok_Tower_sift T) hr T.b_Tower_sift.choose_spec.2 T.b_Tower_sift.choose_spec.1 pass0 (pa_cons (pv 1) pa_nil)) pe_int (fun _ _ => rfl)) (pe_fld (pv 0) rfl) (nomark _)))), ?_⟩
    walk_at "so"
    obtain ⟨L, W0, ok⟩ := hT.st
    have so := sift_ok ok.inv (bs := []) (p := p) (by intro _ h; cases h) hp.is (by intro _ h; cases h)
    refine ⟨_, _, W0.ins, twF_sift W, W, n, L, fs, a, p, 0, rfl, W0, ⟨_, ok.inv⟩, ok.n12, ok.len, Nat.zero_le _, hp, fun t q l Cs H1 x1 ht hb hl RC nl => ?_⟩
    have W1 := W0.ex x1
    refine ⟨t, rfl, _, .inl (.inl ht), _, atI_nat (j := 0) rfl, _, _, _, W1.ins, T.k_Tower, T.a_Tower_one, _, twF_one W, eq_ints hb W1.one_ ?_⟩
    rw [List.drop_zero]
    have e : decide ((siftF fs p).1 = unitL n) = b := by
      rw [Bool.eq_iff_iff, decide_eq_true_iff, ← so.tl, hT.mem]
      exact eb.symm
    rw [e]
    exact z H1 x1
theorem ok_Tower_sizes (T : TX K mg base) : FnOk P w K mg base CX0 1 (He.ma K (He.ga K "Tower") "sizes") (fdA K (He.ma K (He.ga K "Tower") "sizes")) ["self"] (spSizes K) := by
  refine T.F_Tower_sizes.ok scTower_sizes (fun vs H Q E h => ?_) (fun cdv A outer s H vs Q E hr h => ?_)
  · obtain ⟨W, n, gs, fs, rfl, _⟩ := h
    rfl
  · obtain ⟨W, n, gs, fs, rfl, hT, z⟩ := h
    refine ⟨_, (pss_one (ps_ret (pe_lc (own := [("floor", 1)]) (g := gName 1) (tt := tYes) rfl scTower_sizes.nd (piL (K := K) rfl (pe_fld (pv 0) rfl)) (blkOk_by (N := ["self", "floor"]) (sc := defScope sTower_sizes) (by decide +kernel)) (fun _ _ _ _ _ => (pg_name (i := 1) scTower_sizes.nd rfl (.inl rfl))) (fun _ _ _ _ _ => pts_nil) (fun _ _ _ _ _ => (pe_callB call_lenD (by rfl) T.n_len PySem.boot_len (pa_cons (pe_fldK (K := K) rfl (pv 1) rfl) pa_nil)))))), ?_⟩
    walk_at "so"
    obtain ⟨L, W0, ok⟩ := hT.st
    have lF := W0.len
    refine ⟨_, rfl, W.tw, _, _, _, _, rfl, W0.ins, T.k_Tower, T.a_Tower_floors, twF_floors W, W.lf, rfl, ⟨_, sl_at W0.lf⟩, fun D nD => ?_⟩
    refine lc_it (walk_list (xs := (W.Fs.map FA.fl).map V.ref)) (fun j H6 => Ex H H6 ∧ H6 D = some (.lst ((fs.take j).map fun f : Flr => V.int (f.fo.length : Nat)))) ⟨Ex.new nD, upd_same⟩ (fun j H6 _ h => sl_at (h.1.st _ _ W0.lf refsM)) (fun j v H6 H7 hj ⟨x6, hD⟩ ⟨e, hx⟩ => ?_) (fun H6 ⟨x6, hD⟩ => ?_)
    · subst e
      rw [List.length_map, List.length_map, lF] at hj
      have hE : fs[j]? = some fs[j] := List.getElem?_eq_getElem hj
      obtain ⟨fa, hfa⟩ : ∃ fa, W.Fs[j]? = some fa := ⟨_, List.getElem?_eq_getElem (by omega)⟩
      have F6 := (W0.ex x6).fl _ _ _ hfa hE
      have et : (fs.take (j + 1)).map (fun f : Flr => V.int (f.fo.length : Nat)) = (fs.take j).map (fun f : Flr => V.int (f.fo.length : Nat)) ++ [V.int (fs[j].fo.length : Nat)] := by
        rw [List.take_add_one, hE, List.map_append]
        rfl
      rw [et]
      have ev : v = .ref fa.fl := by
        rw [List.getElem?_map, List.getElem?_map, hfa] at hx
        exact (Option.some.inj hx).symm
      subst ev
      obtain ⟨A2, e2, r2⟩ := F6.fo
      have lk : (kvs (fs[j].fo.map Prod.fst) A2).length = fs[j].fo.length := by rw [kvs_len (by rw [r2.len, List.length_map, List.length_map]), List.length_map]
      have ltt : ((fs.take j).map fun f : Flr => V.int (f.fo.length : Nat)).length ≤ 12 := by rw [List.length_map, List.length_take]; have := ok.len; omega
      have line : (1000 : Nat) ≤ sizeLine := by decide
      refine ⟨rfl, yesI ⟨_, rfl, fa.fl, _, _, _, _, rfl, F6.ins, T.k_Floor, T.a_Floor_forth, flF_fo fa _, fa.fo, rfl, _, e2, _, hD, by omega, x6.own nD, ?_⟩⟩
      rw [upd_same, lk]
    · rw [List.length_map, List.length_map, lF, List.take_of_length_le (Nat.le_refl _)] at hD
      exact z D H6 x6 hD
theorem ok_Tower_order (T : TX K mg base) : FnOk P w K mg base CX0 2 (He.ma K (He.ga K "Tower") "order") (fdA K (He.ma K (He.ga K "Tower") "order")) ["self"] (spOrderT K) := by
  refine T.F_Tower_order.ok scTower_order (fun vs H Q E h => ?_) (fun cdv A outer s H vs Q E hr h => ?_)
  · obtain ⟨W, n, gs, fs, rfl, _⟩ := h
    rfl
  · obtain ⟨W, n, gs, fs, rfl, hT, z⟩ := h
    refine ⟨_, (pss_cons (ps_set (i := 1) scTower_order.nd rfl (.inl rfl) pe_int)
      (pss_cons (ps_for PassesOwn.never rfl (piL (K := K) rfl (pe_meth0 (pv 0) T.k_Tower T.m_Tower_sizes (ok_Tower_sizes T) hr T.b_Tower_sizes .nil pass0)) (pg_name (i := 2) scTower_order.nd rfl (.inl rfl)) (pss_one (ps_set (i := 1) scTower_order.nd rfl (.inl rfl) (pe_op op_mul (pv 1) (pv 2)))))
      (pss_one (ps_ret (pv 1))))), ?_⟩
    walk_at "so"
    obtain ⟨L, W0, ok⟩ := hT.st
    refine ⟨_, rfl, W.tw, _, _, rfl, W0.ins, twF_sizes W, W, n, gs, fs, rfl, hT, fun c H1 x1 hc => ⟨c, rfl, ⟨_, sl_at hc⟩, ?_⟩⟩
    have nr : ¬ RowO (.lst (fs.map fun f : Flr => V.int (f.fo.length : Nat))) := by
      have := nat_norow (bs := fs.map fun f => f.fo.length)
      rw [List.map_map] at this
      exact this
    refine for_it (walk_list (xs := fs.map fun f : Flr => V.int (f.fo.length : Nat))) (fun j σ H2 => ∃ y2, σ = [some (.ref W.tw), some (.int (((fs.take j).map fun f => f.fo.length).foldr (· * ·) 1 : Nat)), y2] ∧ Ex H1 H2) ⟨none, rfl, .refl _⟩ (fun j σ H2 _ ⟨_, _, x2⟩ => sl_at (x2.st _ _ hc nr)) (fun j x σ H2 H3 hj ⟨y2, es, x2⟩ ⟨e, hx⟩ => ?_) (fun σ H2 ⟨y2, es, x2⟩ => ?_)
    · subst es e
      rw [List.length_map] at hj
      have hE : fs[j]? = some fs[j] := List.getElem?_eq_getElem hj
      have et : ((fs.take (j + 1)).map fun f => f.fo.length).foldr (· * ·) 1 = ((fs.take j).map fun f => f.fo.length).foldr (· * ·) 1 * fs[j].fo.length := by
        rw [List.take_add_one, hE, List.map_append]
        exact prod_snoc _ _
      have ev : x = .int (fs[j].fo.length : Nat) := by
        rw [List.getElem?_map, hE] at hx
        exact (Option.some.inj hx).symm
      have sm := ok.prod j
      rw [et]
      generalize fs[j].fo.length = m at ev ⊢
      generalize ((fs.take j).map fun f => f.fo.length).foldr (· * ·) 1 = q at sm ⊢
      subst ev
      walk_at "so"
      exact ⟨.inl ⟨by omega, by omega⟩, _, ⟨(Int.natCast_mul ..).symm, rfl⟩, x2⟩
    · subst es
      rw [List.length_map, List.take_of_length_le (Nat.le_refl _)]
      walk_at "so"
      exact z H2 (x1.trans x2)
theorem ok_tower_of (T : TX K mg base) : FnOk P w K mg base CX0 9 (He.ga K "tower_of") (fdK K "tower_of") ["group", "first"] (spTowerOf K) := by
  refine FunD.okN T.F_tower_of sctower_of (fun vs H Q E h => ?_) (fun cdv A outer s H vs Q E hr h => ?_)
  · obtain ⟨a, b, n, gs, pre, rfl, _⟩ := h
    rfl
  · obtain ⟨a, b, n, gs, pre, rfl, hG, ipm, lg, n12, hb, nd, bd, z⟩ := h
    refine ⟨_, (pss_cons (ps_asg (pv 0) (pg_tup rfl (pgs_cons (pg_name (i := 3) sctower_of.nd rfl (.inl rfl)) (pgs_cons (pg_name (i := 4) sctower_of.nd rfl (.inl rfl)) pgs_nil))))
      (pss_cons (ps_setLc (i := 2) (own := [("point", 5)]) (g := gName 5)  rfl sctower_of.nd rfl rfl (sw_true rfl rfl rfl (by decide +kernel)) (pi_range1 (by rfl) T.n_range (pa_cons (pv 3) pa_nil)) (blkOk_by (N := ["group", "first", "others", "degree", "generators", "point"]) (sc := defScope stower_of) (by decide +kernel)) (fun _ _ _ _ _ => (pg_name (i := 5) sctower_of.nd rfl (.inl rfl))) (fun _ _ _ _ _ => (pts_one (pt_cmpR (ninS (K := K) rfl) (pv 5) (pv 1) (by rfl)))) (fun _ _ _ _ _ => (pv 5)))
      (pss_one (ps_ret (pe_make T.M_Tower (ok_Tower___init__ T) hr (by rfl) T.G_Tower T.b_Tower___init__ .nil pass0 (pa_cons (pv 3) (pa_cons (pv 4) (pa_cons (pe_lst (StX.pa_star (pv 1) (StX.pa_star (pv 2) pa_nil))) pa_nil)))))))), ?_⟩
    walk_at "so"
    obtain ⟨g, As, ha, hg, R0⟩ := hG
    have line : (1000 : Nat) ≤ sizeLine := by decide
    refine ⟨_, .inl (.inl ha), rfl, _, _, rfl, _, _, rfl, rfl, .int n, rfl, n, rfl, by omega, by omega, fun D nD => ?_⟩
    rw [show ((n : Int)).toNat = n by omega]
    refine lc_it walk_range (fun j H1 => Ex H H1 ∧ H1 D = some (.lst (((List.range j).filter fun x => decide (x ∉ pre)).map fun x : Nat => V.int x))) ⟨Ex.new nD, upd_same⟩ (fun _ _ _ _ => trivial) (fun j v H1 H2 hj ⟨x1, hD⟩ ⟨e, hv⟩ => ?_) (fun H1 ⟨x1, hD⟩ => ?_)
    · subst e hv
      refine ⟨rfl, ?_⟩
      walk_at "so"
      simp only [Int.zero_add]
      have ld : (((List.range j).filter fun x => decide (x ∉ pre)).map fun x : Nat => V.int x).length ≤ j := by
        rw [List.length_map]
        exact Nat.le_trans (List.length_filter_le ..) (by rw [List.length_range]; exact Nat.le_refl _)
      have er : ((List.range (j + 1)).filter fun x => decide (x ∉ pre)) = ((List.range j).filter fun x => decide (x ∉ pre)) ++ (if j ∈ pre then [] else [j]) := by
        rw [List.range_succ, List.filter_append]
        congr 1
        by_cases c : j ∈ pre
        · rw [if_pos c, List.filter_cons_of_neg (by simp [c]), List.filter_nil]
        · rw [if_neg c, List.filter_cons_of_pos (by simp [c]), List.filter_nil]
      rw [er]
      refine ⟨b, _, rfl, .inr (x1.t hb), rfl, flat_nat pre, ?_⟩
      rw [if_pos rfl, inV_nat]
      refine ⟨_, rfl, ite2 (fun c => ?_) (fun c => ?_)⟩
      · have c : j ∉ pre := fun m => by rw [decide_eq_true m] at c; cases c
        rw [if_neg c]
        refine ⟨_, hD, by omega, x1.own nD, ?_⟩
        rw [upd_same, List.map_append]
        rfl
      · have c : j ∈ pre := by
          by_cases m : j ∈ pre
          · exact m
          · exact absurd (by rw [decide_eq_false m]; rfl) c
        rw [if_pos c, List.append_nil]
        exact ⟨x1, hD⟩
    · have hD : H1 D = some (.lst ((othersP n pre).map fun x : Nat => V.int x)) := hD
      have ol := others_len nd bd
      refine ⟨_, rfl, b, _, rfl, .inl (x1.t hb), ⟨_, rfl, D, _, rfl, .inr (sl_at hD), ?_⟩⟩
      refine ⟨?_, fun q nq x dx nx ndx ndd => ?_⟩
      · rw [List.append_nil, List.length_append, List.length_map, List.length_map, ← List.length_append]
        omega
      have eall : (pre.map (fun x : Nat => V.int x)) ++ ((othersP n pre).map (fun x : Nat => V.int x) ++ []) = (pre ++ othersP n pre).map fun x : Nat => V.int x := by rw [List.append_nil, List.map_append]
      rw [eall] at nx ndx ⊢
      have xq := Ex.new (o := .lst ((pre ++ othersP n pre).map fun x : Nat => V.int x)) nq
      have hq : upd H1 q (.lst ((pre ++ othersP n pre).map fun x : Nat => V.int x)) q = some (.lst ((pre ++ othersP n pre).map fun x : Nat => V.int x)) := upd_same
      have x2 := x1.trans xq
      generalize upd H1 q (.lst ((pre ++ othersP n pre).map fun x : Nat => V.int x)) = H2 at nx ndx hq x2 ⊢
      have xG : Ex H2 (upd (upd H2 dx (.own x)) x (.ins (He.ga K "Tower") dx [])) := (Ex.new ndx).trans (Ex.new (by rw [upd_ne ndd.symm]; exact nx))
      have hx : upd (upd H2 dx (.own x)) x (.ins (He.ga K "Tower") dx []) x = some (.ins (He.ga K "Tower") dx []) := upd_same
      generalize upd (upd H2 dx (.own x)) x (.ins (He.ga K "Tower") dx []) = H3 at xG hx ⊢
      have x3 := x2.trans xG
      refine ⟨x, dx, g, q, n, As, gs, pre ++ othersP n pre, rfl, hx, x3.st _ _ hg trivial, R0.ex x3, ipm, lg, n12, xG.st _ _ hq nat_norow, fun y hy => ?_, covers_others n pre, by omega, fun W H4 L fs ew x4 W4 ok4 st4 pt4 wd4 mu => ⟨rfl, ?_⟩⟩
      · rcases List.mem_append.mp hy with hy | hy
        · exact bd y hy
        · exact List.mem_range.mp (List.mem_filter.mp hy).1
      · subst ew
        exact z W H4 fs (x2.trans (x4.base xG fun y hy => by rw [List.mem_singleton.mp hy]; exact nx)) ⟨⟨L, W4, ok4⟩, st4, wd4⟩ pt4 fun y hy => (List.mem_cons.mp hy).elim (fun e => by rw [e]; exact x2.no _ nx) fun hy => x3.no y (mu y hy)
theorem ok_listed (T : TX K mg base) : FnOk P w K mg base CX0 10 (He.ga K "listed") (fdK K "listed") ["group", "most"] (spListed K) := by
  refine T.F_listed.ok sclisted (fun vs H Q E h => ?_) (fun cdv A outer s H vs Q E hr h => ?_)
  · obtain ⟨a, n, most, gs, C, rfl, _⟩ := h
    rfl
  · obtain ⟨a, n, most, gs, C, rfl, hG, ipm, cl, lC, lm, n1, n12, lg, hT, z⟩ := h
    refine ⟨_, (pss_cons (ps_expr (pe_call (ok_check_group T) (hr.mono (by decide)) (by rfl) T.g_check_group T.F_check_group.kp T.b_check_group .nil pass0 (pa_cons (pv 0) pa_nil)))
      (pss_cons (ps_set (i := 2) sclisted.nd rfl (.inl rfl) (pe_call (ok_tower_of T) hr (by rfl) T.g_tower_of T.F_tower_of.kp T.b_tower_of.choose_spec.2 T.b_tower_of.choose_spec.1 pass0 (pa_cons (pv 0) pa_nil)))
      (pss_cons (ps_if (pt_cmpR op_gt (pe_meth0 (pv 2) T.k_Tower T.m_Tower_order (ok_Tower_order T) (hr.mono (by decide)) T.b_Tower_order .nil pass0) (pv 1) (nomark _)) pss_never pss_nil)
      (pss_cons (ps_set (i := 3) sclisted.nd rfl (.inl rfl) (pe_lst (pa_cons (pe_fld (pv 2) rfl) pa_nil)))
      (pss_cons (ps_for PassesOwn.never rfl (RT.pi_revA (by rfl) T.n_reversed (pe_fld (pv 2) rfl)) (pg_name (i := 4) sclisted.nd rfl (.inr rfl)) (pss_one (ps_lock (ps_setLc2 (i := 3) (own := [("p", 5), ("carry", 6)]) (vs1 := [6]) (g := gName 5) (g1 := gName 6) (tt := tYes) (tt1 := tYes) rfl sclisted.nd rfl rfl (sw_true rfl rfl rfl (by decide +kernel)) (piL (K := K) rfl (pv 3)) (blkOk_by (N := ["group", "most", "tower", "rows", "floor", "p", "carry"]) (sc := defScope slisted) (by decide +kernel)) (by decide) (fun _ _ _ _ _ => (pg_name (i := 5) sclisted.nd rfl (.inl rfl))) (fun _ _ _ _ _ => pts_nil) (fun _ _ _ _ _ => (pi_values (pe_fldK (K := K) rfl (pv 4) rfl))) (fun _ _ _ _ _ => (pg_name (i := 6) sclisted.nd rfl (.inl rfl))) (fun _ _ _ _ _ => pts_nil) (fun _ _ _ _ _ => (pe_call (ok_compose T) (hr.mono (by decide)) (by rfl) T.g_compose T.F_compose.kp T.b_compose .nil pass0 (pa_cons (pv 5) (pa_cons (pv 6) pa_nil))))))))
      (pss_one (ps_ret (pe_tupK (K := K) rfl (by rfl) T.n_tuple (pe_callB (srtTO (K := K) rfl) (by rfl) T.n_sorted (by decide +kernel) (pa_cons (pv 3) pa_nil)))))))))), ?_⟩
    walk_at "so"
    refine ⟨a, n, gs, rfl, hG, ipm, n1, n12, lg, hT, fun H1 x1 => ?_⟩
    obtain ⟨g, As, ha, hg, R0⟩ := hG
    refine ⟨a, He.dflAt ("tower_of", none) 0 K, n, gs, [], rfl, ⟨g, As, x1.st _ _ ha trivial, x1.st _ _ hg trivial, R0.ex x1⟩, ipm, by omega, n12, T.e_tower_of _, List.nodup_nil, (fun _ h => by cases h), fun W H2 fs x2 W2 pt2 mut2 => ?_⟩
    obtain ⟨L, W0, ok⟩ := id W2.st
    have lF := W0.len
    have line : (1000000 : Nat) ≤ sizeLine := by decide
    have eo := W2.order cl
    refine ⟨W.tw, rfl, _, _, W0.ins, twF_order W, W, n, gs, fs, rfl, W2, fun H3 x3 => ⟨_, rfl, ?_⟩⟩
    rw [if_neg (by rw [eo, decide_eq_true_iff]; omega)]
    have W03 := W0.ex x3
    refine ⟨W.tw, rfl, _, _, _, W03.ins, T.k_Tower, T.a_Tower_one, _, twF_one W, by show 1 ≤ sizeLine; omega, fun D0 nD0 => ?_⟩
    have xD := Ex.new (o := .lst [.ref W.one]) nD0
    have hD0 : upd H3 D0 (.lst [.ref W.one]) D0 = some (.lst ([W.one].map V.ref)) := upd_same
    have W04 := W03.ex xD
    have x14 := x1.trans (x2.trans (x3.trans xD))
    generalize upd H3 D0 (.lst [.ref W.one]) = H4 at xD hD0 W04 x14 ⊢
    have ne : ∀ f ∈ fs, f.fo ≠ [] := fun f hf e => by
      obtain ⟨i, hi, ei⟩ := List.getElem_of_mem hf
      obtain ⟨_, _, F⟩ := ok.inv.at_ i f (by rw [List.getElem?_eq_getElem hi, ei])
      have := F.one
      rw [e] at this
      cases this
    have lall : ∀ k, (TL n (fs.drop k)).length ≤ 100000 := fun k => by
      have h1 := TL_drop (n := n) fs k ne
      have h2 := (W2.perm cl).length_eq
      omega
    have pms : ∀ k, ∀ p ∈ TL n (fs.drop k), IsPm n p := fun k p hp => by
      have hi := ok.inv
      rw [← List.take_append_drop k fs] at hi
      exact TL_pm (TInv_app.mp hi).2 hp
    refine ⟨_, rfl, W.tw, _, _, _, _, rfl, W04.ins, T.k_Tower, T.a_Tower_floors, twF_floors W, W.lf, _, rfl, .inl ⟨sl_at W04.lf, ?_⟩⟩
    refine for_it (walk_rev (xs := (W.Fs.map FA.fl).map V.ref)) (fun j σ H5 => ∃ (D : Addr) (Cs : List Addr) (y4 y5 y6 : Option V), σ = [some (.ref a), some (.int most), some (.ref W.tw), some (.ref D), y4, y5, y6] ∧ Ex H4 H5 ∧ H5 D = some (.lst (Cs.map V.ref)) ∧ RowsAt H5 Cs (TL n (fs.drop (fs.length - j)))) ⟨D0, [W.one], none, none, none, rfl, .refl _, hD0, ?_⟩ (fun j σ H5 _ ⟨_, _, _, _, _, _, x5, _⟩ => sl_at (x5.st _ _ W04.lf refsM)) (fun j x σ H5 H6 hj ⟨D, Cs, y4, y5, y6, es, x5, hD, RC⟩ ⟨e, hx⟩ => ?_) (fun σ H5 ⟨D, Cs, y4, y5, y6, es, x5, hD, RC⟩ => ?_)
    · rw [Nat.sub_zero, List.drop_length]
      exact RowsAt.nil.more W04.one_
    · subst es e
      rw [List.length_map, List.length_map, lF] at hj hx
      have hj2 : fs.length - 1 - j < fs.length := by omega
      have hfi : fs[fs.length - 1 - j]? = some fs[fs.length - 1 - j] := List.getElem?_eq_getElem hj2
      have dr : fs.drop (fs.length - (j + 1)) = fs[fs.length - 1 - j] :: fs.drop (fs.length - j) := by
        rw [show fs.length - (j + 1) = fs.length - 1 - j by omega, List.drop_eq_getElem_cons hj2, show fs.length - 1 - j + 1 = fs.length - j by omega]
      obtain ⟨fa, hfa⟩ : ∃ fa, W.Fs[fs.length - 1 - j]? = some fa := ⟨_, List.getElem?_eq_getElem (by omega)⟩
      obtain ⟨bs', up, FI⟩ := ok.inv.at_ _ _ hfi
      have F6 := (W04.ex x5).fl _ _ _ hfa hfi
      have ev : x = .ref fa.fl := by
        rw [List.getElem?_map, List.getElem?_map, hfa] at hx
        exact (Option.some.inj hx).symm
      have la := lall (fs.length - (j + 1))
      have pm0 := pms (fs.length - j)
      rw [dr] at la ⊢
      generalize fs[fs.length - 1 - j] = f at FI F6 la ⊢
      generalize fs.drop (fs.length - j) = fr at RC la pm0 ⊢
      rw [TL_build] at la ⊢
      generalize TL n fr = R at RC la pm0 ⊢
      subst ev
      walk_at "so"
      obtain ⟨A2, e2, r2⟩ := F6.fo
      have lA2 : A2.length = f.fo.length := by rw [r2.len, List.length_map]
      have lk : (kvs (f.fo.map Prod.fst) A2).length = f.fo.length := by rw [kvs_len (by rw [r2.len, List.length_map, List.length_map]), List.length_map]
      refine ⟨fa.fo, _, e2, trivial, fun od => ?_⟩
      have fom : fa.fo ∈ [fa.fo] := List.mem_singleton.mpr rfl
      have x7 : ExM [fa.fo] H6 (upd H6 fa.fo (.frz od (.dK (kvs (f.fo.map Prod.fst) A2)))) := ExM.refl.up fom
      have f7 : upd H6 fa.fo (.frz od (.dK (kvs (f.fo.map Prod.fst) A2))) fa.fo = some (.frz od (.dK (kvs (f.fo.map Prod.fst) A2))) := upd_same
      have t7 : ∀ y xs, H6 y = some (.tup xs) → upd H6 fa.fo (.frz od (.dK (kvs (f.fo.map Prod.fst) A2))) y = some (.tup xs) := fun y xs e => by rw [upd_ne (fun q => by rw [q, e2] at e; cases e)]; exact e
      have i7 : upd H6 fa.fo (.frz od (.dK (kvs (f.fo.map Prod.fst) A2))) fa.fl = some (.ins (He.ga K "Floor") fa.dx (flF fa f.pt)) := by rw [upd_ne (fun q => by rw [← q, F6.ins] at e2; cases e2)]; exact F6.ins
      have D7 : upd H6 fa.fo (.frz od (.dK (kvs (f.fo.map Prod.fst) A2))) D = some (.lst (Cs.map V.ref)) := by rw [upd_ne (fun q => by rw [q, e2] at hD; cases hD)]; exact hD
      have RC7 := RC.kept t7
      have r7 := r2.kept t7
      generalize upd H6 fa.fo (.frz od (.dK (kvs (f.fo.map Prod.fst) A2))) = G at x7 f7 i7 D7 RC7 r7 ⊢
      have lCs := RC7.len
      refine ⟨_, rfl, D, rfl, ⟨_, sl_at D7⟩, fun D2 nD => ?_⟩
      have fD : fa.fo ≠ D2 := ne_of_none f7 nD
      have total : ∀ i, i < R.length → ∀ j, j ≤ f.fo.length → ((R.take i).flatMap (fun t => f.fo.map fun c => mulL t c.2) ++ (f.fo.take j).map fun c => mulL (R.getD i []) c.2).length ≤ (R.flatMap fun t => f.fo.map fun c => mulL t c.2).length := fun i hi j hj => by
        have e : (R.flatMap fun t => f.fo.map fun c => mulL t c.2).length = ((R.take i ++ R[i] :: R.drop (i + 1)).flatMap fun t => f.fo.map fun c => mulL t c.2).length := by
          rw [← List.drop_eq_getElem_cons hi, List.take_append_drop]
        rw [e, List.flatMap_append, List.flatMap_cons, List.length_append, List.length_append, List.length_append, List.length_map, List.length_map, List.length_take]
        omega
      refine out_it (walk_list (xs := Cs.map V.ref)) (fun i H7 => Ex G H7 ∧ ∃ Ds : List Addr, H7 D2 = some (.lst (Ds.map V.ref)) ∧ RowsAt H7 Ds ((R.take i).flatMap fun t => f.fo.map fun c => mulL t c.2)) ⟨Ex.new nD, [], upd_same, .nil⟩ (fun i H7 _ h => sl_at (h.1.st _ _ D7 refsM)) (fun i v H7 H8 hi ⟨x8, Ds, hD2, RD⟩ ⟨e, hx⟩ => ?_) (fun H8 ⟨x8, Ds, hD2, RD⟩ => ?_)
      · subst e
        rw [List.length_map, lCs] at hi
        have hR : R[i]? = some R[i] := List.getElem?_eq_getElem hi
        have gd : R.getD i [] = R[i] := by rw [List.getD_eq_getElem?_getD, hR]; rfl
        have et : (R.take (i + 1)).flatMap (fun t => f.fo.map fun c => mulL t c.2) = (R.take i).flatMap (fun t => f.fo.map fun c => mulL t c.2) ++ f.fo.map fun c => mulL R[i] c.2 := by
          rw [List.take_add_one, hR, List.flatMap_append]
          show _ = _
          simp
        have tot := total i hi
        rw [gd] at tot
        rw [et]
        obtain ⟨b, hb, hb2⟩ := RC7.at_ i _ hR
        have pb := pm0 _ (List.getElem_mem hi)
        generalize (R.take i).flatMap (fun t => f.fo.map fun c => mulL t c.2) = Y at RD tot ⊢
        generalize R[i] = t0 at hb2 pb tot ⊢
        have ev : v = .ref b := by
          rw [List.getElem?_map, hb] at hx
          exact (Option.some.inj hx).symm
        subst ev
        refine ⟨rfl, yesI ?_⟩
        refine ⟨_, rfl, fa.fl, _, _, _, _, rfl, x8.st _ _ i7 trivial, T.k_Floor, T.a_Floor_forth, flF_fo fa _, fa.fo, od, _, rfl, x8.st _ _ f7 trivial, ?_⟩
        refine in_it walk_values (fun j H9 => Ex G H9 ∧ ∃ Ds : List Addr, H9 D2 = some (.lst (Ds.map V.ref)) ∧ RowsAt H9 Ds (Y ++ (f.fo.take j).map fun c => mulL t0 c.2)) ⟨x8, Ds, hD2, by rw [List.take_zero, List.map_nil, List.append_nil]; exact RD⟩ (fun j H9 _ h => h.1.st _ _ f7 trivial) (fun j v H9 H10 hj ⟨x9, Es, hE2, RE⟩ ⟨e, k, hk⟩ => ?_) (fun H9 ⟨x9, Es, hE2, RE⟩ => ?_)
        · subst e
          rw [lk] at hj
          have hE : f.fo[j]? = some f.fo[j] := List.getElem?_eq_getElem hj
          obtain ⟨c, hc, hc2⟩ := r7.at_ j f.fo[j].2 (by rw [List.getElem?_map, hE]; rfl)
          have ev : v = .ref c := by
            unfold kvs at hk
            rw [List.getElem?_map, show ((f.fo.map Prod.fst).zip A2)[j]? = some (f.fo[j].1, c) from List.getElem?_zip_eq_some.mpr ⟨by rw [List.getElem?_map, hE]; rfl, hc⟩] at hk
            exact (congrArg Prod.snd (Option.some.inj hk)).symm
          have pc := (FI.fo _ (List.getElem_mem hj)).2.1
          have et : Y ++ (f.fo.take (j + 1)).map (fun c => mulL t0 c.2) = (Y ++ (f.fo.take j).map fun c => mulL t0 c.2) ++ [mulL t0 f.fo[j].2] := by
            rw [List.take_add_one, hE, List.map_append, List.append_assoc]
            rfl
          have tj := tot j (Nat.le_of_lt hj)
          rw [et]
          generalize (Y ++ (f.fo.take j).map fun c => mulL t0 c.2) = Z at RE tj ⊢
          generalize f.fo[j].2 = c0 at hc2 pc ⊢
          subst ev
          refine ⟨rfl, yesI ⟨_, rfl, _, rfl, b, c, n, t0, c0, rfl, ⟨x9.st _ _ hb2 trivial, pb⟩, ⟨x9.st _ _ hc2 trivial, pc⟩, by omega, fun d H11 x11 hd => ?_⟩⟩
          have hD11 := x11.st _ _ hE2 refsM
          exact ⟨_, hD11, by rw [List.length_map, RE.len]; omega, (x9.trans x11).own nD, Es ++ [d], by rw [upd_same, List.map_append]; rfl, ((RE.ex x11).more hd).upd hD11 fun _ z => by cases z⟩
        · rw [lk, List.take_of_length_le (Nat.le_refl _)] at RE
          exact ⟨x9, Es, hE2, RE⟩
      · rw [List.length_map, lCs, List.take_of_length_le (Nat.le_refl _)] at RD
        have f8 := x8.st _ _ f7 trivial
        have x9 : ExM [fa.fo] H6 (upd H8 fa.fo (.dK (kvs (f.fo.map Prod.fst) A2))) := (x7.trans (.of x8)).up fom
        have f9 : upd H8 fa.fo (.dK (kvs (f.fo.map Prod.fst) A2)) fa.fo = some (.dK (kvs (f.fo.map Prod.fst) A2)) := upd_same
        have hD9 : upd H8 fa.fo (.dK (kvs (f.fo.map Prod.fst) A2)) D2 = some (.lst (Ds.map V.ref)) := by rw [upd_ne (Ne.symm fD)]; exact hD2
        exact ⟨f8, D2, Ds, _, _, _, rfl, x5.trans (Ex.relock x9 e2 f9), hD9, RD.upd f8 fun _ z => by cases z⟩
    · subst es
      rw [List.length_map, List.length_map, lF, Nat.sub_self, List.drop_zero] at RC
      walk_at "so"
      obtain ⟨k, hk⟩ := rows_key RC
      refine ⟨D, Cs.map V.ref, k, n, rfl, sl_at hD, n1, fun x hx => ?_, fun ys p hs hp np => .inl ?_⟩
      · obtain ⟨t, e, ht, h1, h2⟩ := hk x hx
        have pmx := cl.pm _ ((W2.perm cl).mem_iff.mp h2)
        exact ⟨t, e, h1, pmx.len, fun y hy => by have := pmx.bd y hy; omega⟩
      · obtain ⟨As2, S, e, RS, pS, wS⟩ := rows_sorted RC hk hs hp
        subst e
        have xp := Ex.new (o := .lst (As2.map V.ref)) np
        have hp : upd H5 p (.lst (As2.map V.ref)) p = some (.lst (As2.map V.ref)) := upd_same
        have RS2 := RS.ex xp
        generalize upd H5 p (.lst (As2.map V.ref)) = H6 at xp hp RS2 ⊢
        refine ⟨p, rfl, _, sl_at hp, fun q nq => ?_⟩
        have xq := Ex.new (o := .tup (As2.map V.ref)) nq
        exact z q _ As2 S ((x14.trans x5).trans (xp.trans xq)) upd_same (RS2.ex xq) (pS.trans (W2.perm cl)) wS
theorem ok__floors (T : TX K mg base) : FnOk P w K mg base CX0 10 (He.ga K "_floors") (fdK K "_floors") ["group", "prefix"] (spFloors K) := by
  refine T.F__floors.ok sc_floors (fun vs H Q E h => ?_) (fun cdv A outer s H vs Q E hr h => ?_)
  · obtain ⟨a, b, n, gs, pre, rfl, _⟩ := h
    rfl
  · obtain ⟨a, b, n, gs, pre, rfl, hG, ipm, n1, n12, lg, hb, nd, bd, hT, z⟩ := h
    refine ⟨_, (pss_cons (ps_expr (pe_call (ok_check_group T) (hr.mono (by decide)) (by rfl) T.g_check_group T.F_check_group.kp T.b_check_group .nil pass0 (pa_cons (pv 0) pa_nil)))
      (pss_cons (ps_expr (pe_call (ok_check_prefix T) (hr.mono (by decide)) (by rfl) T.g_check_prefix T.F_check_prefix.kp T.b_check_prefix .nil pass0 (pa_cons (pe_ix (ixT (K := K) rfl) (pv 0) pe_int (fun _ _ => rfl)) (pa_cons (pv 1) pa_nil))))
      (pss_cons (ps_set (i := 2) sc_floors.nd rfl (.inl rfl) (pe_call (ok_tower_of T) hr (by rfl) T.g_tower_of T.F_tower_of.kp T.f_tower_of.choose_spec.2 T.f_tower_of.choose_spec.1 pass0 (pa_cons (pv 0) (pa_cons (pv 1) pa_nil))))
      (pss_cons (ps_expr (pe_meth (pv 2) T.k_Tower T.m_Tower_trim (ok_Tower_trim T) (hr.mono (by decide)) T.b_Tower_trim .nil pass0 (pa_cons (pe_callB (lenS (K := K) rfl) (by rfl) T.n_len PySem.boot_len (pa_cons (pv 1) pa_nil)) pa_nil)))
      (pss_one (ps_ret (pe_fld (pv 2) rfl))))))), ?_⟩
    walk_at "so"
    have lp : pre.length ≤ n := by
      have := llen_le_subN nd (ns := List.range n) fun k hk => List.mem_range.mpr (bd k hk)
      rw [List.length_range] at this
      exact this
    refine ⟨a, n, gs, rfl, hG, ipm, n1, n12, lg, hT, fun H1 x1 => ?_⟩
    obtain ⟨g, As, ha, hg, R0⟩ := hG
    refine ⟨_, .inl (.inl (x1.st _ _ ha trivial)), .int n, rfl, n, b, pre, rfl, x1.t hb, nd, bd, by omega, fun H2 x2 => ?_⟩
    have x02 := x1.trans x2
    refine ⟨a, b, n, gs, pre, rfl, ⟨g, As, x02.st _ _ ha trivial, x02.st _ _ hg trivial, R0.ex x02⟩, ipm, by omega, n12, x02.t hb, nd, bd, fun W H3 fs x3 W3 pt3 mut3 => ?_⟩
    obtain ⟨L, W0, ok⟩ := id W3.st
    have x03 := x02.trans x3
    have lfs : pre.length ≤ fs.length := by
      have := congrArg List.length pt3
      rw [List.length_map, List.length_append] at this
      omega
    refine ⟨W.tw, rfl, _, _, W0.ins, twF_trim W, _, .inr (x03.t hb), W, n, gs, fs, pre.length, ?_, W3, lfs, fun lf As H4 x4 hW hl FA4 => ⟨W.tw, rfl, _, _, _, hW, T.k_Tower, T.a_Tower_floors, _, twF_floors _, ?_⟩⟩
    · rw [List.length_map]
    · have x04 : Ex H H4 := x4.base x03 fun y hy => by rw [List.mem_singleton.mp hy]; exact x02.no _ (mut3 _ (List.mem_cons_self ..))
      exact z W H3 fs x03 W3 pt3 lf As H4 x04 hl FA4
theorem ok_base_points (T : TX K mg base) : FnOk P w K mg base CX0 11 (He.ga K "base_points") (fdK K "base_points") ["group", "prefix"] (spPoints2 K Flr.pt) := by
  refine FunD.okK T.F_base_points scbase_points (fun vs H Q E h => ?_) (fun cdv A outer s H vs Q E hr h => ?_)
  · obtain ⟨a, b, n, gs, pre, rfl, _⟩ := h
    rfl
  · obtain ⟨a, b, n, gs, pre, rfl, hG, ipm, n1, n12, lg, hb, nd, bd, hT, z⟩ := h
    refine ⟨_, (pss_one (ps_ret (pe_tupK (K := K) rfl (by rfl) T.n_tuple (pe_lc (own := [("floor", 2)]) (g := gName 2) (tt := tYes) rfl scbase_points.nd (piL (K := K) rfl (pe_call (ok__floors T) hr (by rfl) T.g__floors T.F__floors.kp T.b__floors .nil pass0 (pa_cons (pv 0) (pa_cons (pv 1) pa_nil)))) (blkOk_by (N := ["group", "prefix", "floor"]) (sc := defScope sbase_points) (by decide +kernel)) (fun _ _ _ _ _ => (pg_name (i := 2) scbase_points.nd rfl (.inl rfl))) (fun _ _ _ _ _ => pts_nil) (fun _ _ _ _ _ => (pe_fldK (K := K) rfl (pv 2) rfl)))))), ?_⟩
    walk_at "so"
    have line : (1000 : Nat) ≤ sizeLine := by decide
    refine ⟨_, rfl, _, rfl, a, b, n, gs, pre, rfl, hG, ipm, n1, n12, lg, hb, nd, bd, hT, fun W H1 fs x1 W1 pt1 lf As H2 x2 hl FA2 => ?_⟩
    have l12 : (trimF pre.length fs).length ≤ 12 := by
      obtain ⟨L, _, ok⟩ := id W1.st
      have l := ok.len
      have := List.length_filter_le (fun f : Flr => decide (1 < f.fo.length)) (fs.drop pre.length)
      unfold trimF
      rw [List.length_append, List.length_take]
      rw [List.length_drop] at this
      omega
    have z := z W H1 fs x1 W1 pt1
    generalize trimF pre.length fs = ts at FA2 l12 z
    refine ⟨lf, rfl, ⟨_, sl_at hl⟩, fun D nD => ?_⟩
    refine lc_it (walk_list (xs := As.map fun a : FA => V.ref a.fl)) (fun j H6 => Ex H2 H6 ∧ H6 D = some (.lst (((ts.take j).map fun f => ((f.pt : Nat) : Int)).map V.int))) ⟨Ex.new nD, upd_same⟩ (fun j H6 _ h => sl_at (h.1.st _ _ hl (FlsAt.norow (As := As)))) (fun j v H6 H7 hj ⟨x6, hD⟩ ⟨e, hx⟩ => ?_) (fun H6 ⟨x6, hD⟩ => ?_)
    · subst e
      rw [List.length_map, FA2.len] at hj
      have hE : ts[j]? = some ts[j] := List.getElem?_eq_getElem hj
      obtain ⟨fa, hfa, F2⟩ := FA2.at_ j _ hE
      have F6 := F2.ex x6
      have et : (ts.take (j + 1)).map (fun f => ((f.pt : Nat) : Int)) = (ts.take j).map (fun f => ((f.pt : Nat) : Int)) ++ [((ts[j].pt : Nat) : Int)] := by
        rw [List.take_add_one, hE, List.map_append]
        rfl
      have ltt : ((ts.take j).map fun f => ((f.pt : Nat) : Int)).length ≤ 12 := by rw [List.length_map, List.length_take]; omega
      rw [et]
      have ev : v = .ref fa.fl := by
        rw [List.getElem?_map, hfa] at hx
        exact (Option.some.inj hx).symm
      generalize ts[j] = f at F6 ⊢
      generalize (ts.take j).map (fun f => ((f.pt : Nat) : Int)) = Y at hD ltt ⊢
      subst ev
      refine ⟨rfl, yesI ?_⟩
      walk_at "so"
      exact ⟨_, _, _, F6.ins, T.k_Floor, T.a_Floor_point, _, flF_pt fa _, _, hD, by rw [List.length_map]; omega, x6.own nD, by rw [upd_same, List.map_append]; rfl⟩
    · rw [List.length_map, FA2.len, List.take_of_length_le (Nat.le_refl _)] at hD
      refine .inl ⟨D, rfl, _, sl_at hD, fun q nq => ?_⟩
      exact z q _ (x2.trans (x6.trans (Ex.new nq))) upd_same
theorem ok_orbit_sizes (T : TX K mg base) : FnOk P w K mg base CX0 11 (He.ga K "orbit_sizes") (fdK K "orbit_sizes") ["group", "prefix"] (spPoints2 K (fun f : Flr => f.fo.length)) := by
  refine FunD.okK T.F_orbit_sizes scorbit_sizes (fun vs H Q E h => ?_) (fun cdv A outer s H vs Q E hr h => ?_)
  · obtain ⟨a, b, n, gs, pre, rfl, _⟩ := h
    rfl
  · obtain ⟨a, b, n, gs, pre, rfl, hG, ipm, n1, n12, lg, hb, nd, bd, hT, z⟩ := h
    refine ⟨_, (pss_one (ps_ret (pe_tupK (K := K) rfl (by rfl) T.n_tuple (pe_lc (own := [("floor", 2)]) (g := gName 2) (tt := tYes) rfl scorbit_sizes.nd (piL (K := K) rfl (pe_call (ok__floors T) hr (by rfl) T.g__floors T.F__floors.kp T.b__floors .nil pass0 (pa_cons (pv 0) (pa_cons (pv 1) pa_nil)))) (blkOk_by (N := ["group", "prefix", "floor"]) (sc := defScope sorbit_sizes) (by decide +kernel)) (fun _ _ _ _ _ => (pg_name (i := 2) scorbit_sizes.nd rfl (.inl rfl))) (fun _ _ _ _ _ => pts_nil) (fun _ _ _ _ _ => (pe_callB call_lenD (by rfl) T.n_len PySem.boot_len (pa_cons (pe_fldK (K := K) rfl (pv 2) rfl) pa_nil))))))), ?_⟩
    walk_at "so"
    have line : (1000 : Nat) ≤ sizeLine := by decide
    refine ⟨_, rfl, _, rfl, a, b, n, gs, pre, rfl, hG, ipm, n1, n12, lg, hb, nd, bd, hT, fun W H1 fs x1 W1 pt1 lf As H2 x2 hl FA2 => ?_⟩
    have l12 : (trimF pre.length fs).length ≤ 12 := by
      obtain ⟨L, _, ok⟩ := id W1.st
      have l := ok.len
      have := List.length_filter_le (fun f : Flr => decide (1 < f.fo.length)) (fs.drop pre.length)
      unfold trimF
      rw [List.length_append, List.length_take]
      rw [List.length_drop] at this
      omega
    have z := z W H1 fs x1 W1 pt1
    generalize trimF pre.length fs = ts at FA2 l12 z
    refine ⟨lf, rfl, ⟨_, sl_at hl⟩, fun D nD => ?_⟩
    refine lc_it (walk_list (xs := As.map fun a : FA => V.ref a.fl)) (fun j H6 => Ex H2 H6 ∧ H6 D = some (.lst (((ts.take j).map fun f => ((f.fo.length : Nat) : Int)).map V.int))) ⟨Ex.new nD, upd_same⟩ (fun j H6 _ h => sl_at (h.1.st _ _ hl (FlsAt.norow (As := As)))) (fun j v H6 H7 hj ⟨x6, hD⟩ ⟨e, hx⟩ => ?_) (fun H6 ⟨x6, hD⟩ => ?_)
    · subst e
      rw [List.length_map, FA2.len] at hj
      have hE : ts[j]? = some ts[j] := List.getElem?_eq_getElem hj
      obtain ⟨fa, hfa, F2⟩ := FA2.at_ j _ hE
      have F6 := F2.ex x6
      have et : (ts.take (j + 1)).map (fun f => ((f.fo.length : Nat) : Int)) = (ts.take j).map (fun f => ((f.fo.length : Nat) : Int)) ++ [((ts[j].fo.length : Nat) : Int)] := by
        rw [List.take_add_one, hE, List.map_append]
        rfl
      have ltt : ((ts.take j).map fun f => ((f.fo.length : Nat) : Int)).length ≤ 12 := by rw [List.length_map, List.length_take]; omega
      rw [et]
      have ev : v = .ref fa.fl := by
        rw [List.getElem?_map, hfa] at hx
        exact (Option.some.inj hx).symm
      generalize ts[j] = f at F6 ⊢
      generalize (ts.take j).map (fun f => ((f.fo.length : Nat) : Int)) = Y at hD ltt ⊢
      subst ev
      refine ⟨rfl, yesI ?_⟩
      walk_at "so"
      obtain ⟨A2, e2, r2⟩ := F6.fo
      have lk : (kvs (f.fo.map Prod.fst) A2).length = f.fo.length := by rw [kvs_len (by rw [r2.len, List.length_map, List.length_map]), List.length_map]
      refine ⟨_, _, _, F6.ins, T.k_Floor, T.a_Floor_forth, _, flF_fo fa _, fa.fo, rfl, _, e2, _, hD, by rw [List.length_map]; omega, x6.own nD, ?_⟩
      rw [upd_same, List.map_append, lk]
      rfl
    · rw [List.length_map, FA2.len, List.take_of_length_le (Nat.le_refl _)] at hD
      refine .inl ⟨D, rfl, _, sl_at hD, fun q nq => ?_⟩
      exact z q _ (x2.trans (x6.trans (Ex.new nq))) upd_same
theorem ok_order (T : TX K mg base) : FnOk P w K mg base CX0 10 (He.ga K "order") (fdK K "order") ["group"] (spOrderG K) := by
  refine T.F_order.ok scorder (fun vs H Q E h => ?_) (fun cdv A outer s H vs Q E hr h => ?_)
  · obtain ⟨a, n, gs, C, rfl, _⟩ := h
    rfl
  · obtain ⟨a, n, gs, C, rfl, hG, ipm, cl, n1, n12, lg, hT, z⟩ := h
    refine ⟨_, (pss_cons (ps_expr (pe_call (ok_check_group T) (hr.mono (by decide)) (by rfl) T.g_check_group T.F_check_group.kp T.b_check_group .nil pass0 (pa_cons (pv 0) pa_nil)))
      (pss_one (ps_ret (pe_meth0 (pe_call (ok_tower_of T) hr (by rfl) T.g_tower_of T.F_tower_of.kp T.b_tower_of.choose_spec.2 T.b_tower_of.choose_spec.1 pass0 (pa_cons (pv 0) pa_nil)) T.k_Tower T.m_Tower_order (ok_Tower_order T) (hr.mono (by decide)) T.b_Tower_order .nil pass0)))), ?_⟩
    walk_at "so"
    refine ⟨a, n, gs, rfl, hG, ipm, n1, n12, lg, hT, fun H1 x1 => ?_⟩
    obtain ⟨g, As, ha, hg, R0⟩ := hG
    refine ⟨a, He.dflAt ("tower_of", none) 0 K, n, gs, [], rfl, ⟨g, As, x1.st _ _ ha trivial, x1.st _ _ hg trivial, R0.ex x1⟩, ipm, by omega, n12, T.e_tower_of _, List.nodup_nil, (fun _ h => by cases h), fun W H2 fs x2 W2 pt2 mut2 => ?_⟩
    obtain ⟨L, W0, ok⟩ := id W2.st
    have eo := W2.order cl
    refine ⟨W.tw, rfl, _, _, W0.ins, twF_order W, W, n, gs, fs, rfl, W2, fun H3 x3 => ?_⟩
    rw [eo]
    exact z H3 (x1.trans (x2.trans x3))
theorem ok_all_elements (T : TX K mg base) : FnOk P w K mg base CX0 11 (He.ga K "all_elements") (fdK K "all_elements") ["group"] (spAllEls K) := by
  refine T.F_all_elements.ok scall_elements (fun vs H Q E h => ?_) (fun cdv A outer s H vs Q E hr h => ?_)
  · obtain ⟨a, n, gs, C, rfl, _⟩ := h
    rfl
  · obtain ⟨a, n, gs, C, rfl, hG, ipm, cl, lC, n1, n12, lg, hT, z⟩ := h
    refine ⟨_, (pss_one (ps_ret (pe_call (ok_listed T) hr (by rfl) T.g_listed T.F_listed.kp T.b_listed .nil pass0 (pa_cons (pv 0) (pa_cons (C8.pe_gc rfl T.c_MOST_LISTED) pa_nil))))), ?_⟩
    walk_at "so"
    exact ⟨a, n, 2000, gs, C, rfl, hG, ipm, cl, lC, by omega, n1, n12, lg, hT, z⟩
theorem ok__law_taken (T : TX K mg base) : FnOk P w K mg base CX0 1 (He.ga K "_law_taken") (fdK K "_law_taken") ["row", "many"] (spTaken K) := by
  refine T.F__law_taken.ok sc_law_taken (fun vs H Q E h => ?_) (fun cdv A outer s H vs Q E hr h => ?_)
  · obtain ⟨r, s, m, ns, rfl, _⟩ := h
    rfl
  · obtain ⟨r, s0, m, ns, rfl, hR, hS, h1, h2, q⟩ := h
    obtain ⟨i, j, k, hrow, hi, hj, hj2, hk⟩ := id hR
    refine ⟨_, (pss_cons (ps_if (pt_cmpR op_gt (pe_ix (ixL (K := K) rfl) (pv 0) pe_int (fun _ _ => rfl)) pe_int (nomark _)) (pss_cons (ps_set (i := 3) sc_law_taken.nd rfl (.inl rfl) (pe_op op_mod (pe_callTy call_int1 (by rfl) T.n_int boot_int (pa_cons (pe_ix (ixL (K := K) rfl) (pv 0) pe_int (fun _ _ => rfl)) pa_nil)) (pv 1)))
      (pss_cons (ps_asg (pe_op op_fdivW (pe_ix (ixL (K := K) rfl) (pv 0) pe_int (fun _ _ => rfl)) (pv 1)) (pg_sub (pv 0) pe_int set_list (by intro _; rfl)))
      (pss_one (ps_ret (pv 3))))) pss_nil)
      (pss_cons (ps_asg (pe_op op_add (pe_ix (ixL (K := K) rfl) (pv 0) pe_int (fun _ _ => rfl)) pe_int) (pg_sub (pv 0) pe_int set_list (by intro _; rfl)))
      (pss_cons (ps_if (pt_cmpR op_gt (pe_ix (ixL (K := K) rfl) (pv 0) pe_int (fun _ _ => rfl)) (pe_callB (lenS (K := K) rfl) (by rfl) T.n_len PySem.boot_len (pa_cons (pe_ix (ixL (K := K) rfl) (pv 0) pe_int (fun _ _ => rfl)) pa_nil)) (nomark _)) (pss_cons (ps_asg (pe_op op_mod (pe_callTy call_int1 (by rfl) T.n_int boot_int (pa_cons (pe_op op_add (pe_op op_mul (pe_ix (ixL (K := K) rfl) (pv 0) pe_int (fun _ _ => rfl)) pe_int) pe_int) pa_nil)) pe_int) (pg_sub (pv 0) pe_int set_list (by intro _; rfl)))
      (pss_one (ps_ret (pe_op op_mod (pe_callTy call_int1 (by rfl) T.n_int boot_int (pa_cons (pe_op op_fdivW (pe_ix (ixL (K := K) rfl) (pv 0) pe_int (fun _ _ => rfl)) pe_int) pa_nil)) (pv 1))))) pss_nil)
      (pss_cons (ps_set (i := 2) sc_law_taken.nd rfl (.inl rfl) (pe_ix (ixL (K := K) rfl) (pe_ix (ixL (K := K) rfl) (pv 0) pe_int (fun _ _ => rfl)) (pe_op op_sub (pe_ix (ixL (K := K) rfl) (pv 0) pe_int (fun _ _ => rfl)) pe_int) (fun _ _ => rfl)))
      (pss_cons (ps_asg (pe_op op_mod (pe_callTy call_int1 (by rfl) T.n_int boot_int (pa_cons (pe_op op_add (pe_op op_add (pe_op op_mul (pe_ix (ixL (K := K) rfl) (pv 0) pe_int (fun _ _ => rfl)) pe_int) (pv 2)) pe_int) pa_nil)) pe_int) (pg_sub (pv 0) pe_int set_list (by intro _; rfl)))
      (pss_cons (ps_if (pt_cmpR op_ge (pv 2) (pe_op op_pow pe_int pe_int) (nomark _)) (pss_one (ps_asg (pe_op op_fdivW (pv 2) (pv 1)) (pg_sub (pv 0) pe_int set_list (by intro _; rfl)))) pss_nil)
      (pss_one (ps_ret (pe_op op_mod (pe_callTy call_int1 (by rfl) T.n_int boot_int (pa_cons (pv 2) pa_nil)) (pv 1)))))))))), ?_⟩
    have nat : ∀ (x : Int) (H' : Hp), Ex H H' → 0 ≤ x → x < m → Q (.int x) H' := fun x H' e g0 g1 => by
      have := q x.toNat H' e (by omega)
      rwa [Int.toNat_of_nonneg g0] at this
    have md : ∀ x : Int, 0 ≤ x % (m : Int) ∧ x % (m : Int) < m := fun x => ⟨Int.emod_nonneg _ (by omega), Int.emod_lt_of_pos _ (by omega)⟩
    have m31 : ∀ x : Int, 0 ≤ x % 2147483647 ∧ x % 2147483647 < 2147483648 := fun x => ⟨Int.emod_nonneg _ (by omega), by have := Int.emod_lt_of_pos x (show (0 : Int) < 2147483647 by omega); omega⟩
    have dm : ∀ x : Int, CDivW x (m : Int) := fun x => wide_div (b := 64) (by omega) (by omega) (by omega) (by omega)
    have lt10 : (4 : Nat) ≤ sizeLine := by decide
    walk_at "sx"
    refine ⟨_, sl_at hrow, _, rfl, k, rfl, ite2 (fun c => ?_) (fun c => ?_)⟩
    · have c := of_decide_eq_true c
      exact ⟨_, sl_at hrow, _, rfl, .inl ⟨k, rfl, by omega, _, sl_at hrow, _, rfl, k, rfl, dm k, _, hrow, 3, rfl, nat _ _ (Ex.draw hR hi hj hj2 (Int.ediv_nonneg hk (by omega))) (md k).1 (md k).2⟩⟩
    · refine ⟨_, sl_at hrow, _, rfl, i, rfl, _, hrow, 1, rfl, ?_⟩
      have x1 : Ex H (upd H r (.lst [.ref s0, .int (i + 1), .int j, .int k])) := Ex.draw hR (by omega) hj hj2 hk
      have e1 : (upd H r (.lst [.ref s0, .int (i + 1), .int j, .int k])) r = some (.lst [.ref s0, .int (i + 1), .int j, .int k]) := upd_same
      have R1 : RowAt (upd H r (.lst [.ref s0, .int (i + 1), .int j, .int k])) r s0 := ⟨_, _, _, e1, by omega, hj, hj2, hk⟩
      have hS1 := x1.l ints_norow hS
      refine ⟨_, sl_at e1, _, rfl, _, sl_at e1, _, rfl, s0, rfl, ns.map V.int, .inl hS1, i + 1, rfl, ite2 (fun c2 => ?_) (fun c2 => ?_)⟩
      · have e2 : (upd (upd H r (.lst [.ref s0, .int (i + 1), .int j, .int k])) r (.lst [.ref s0, .int (i + 1), .int ((j * 48271 + 11) % 2147483647), .int k])) r = some (.lst [.ref s0, .int (i + 1), .int ((j * 48271 + 11) % 2147483647), .int k]) := upd_same
        have x2 := x1.trans (Ex.draw R1 (show 0 ≤ i + 1 by omega) (m31 (j * 48271 + 11)).1 (m31 (j * 48271 + 11)).2 hk)
        refine ⟨_, sl_at e1, _, rfl, j, rfl, .inl ⟨by omega, by omega⟩, by omega, _, e1, 2, rfl, _, sl_at e2, _, rfl, _, rfl, ⟨by omega, by decide⟩, by omega, ?_⟩
        exact nat _ _ x2 (md _).1 (md _).2
      · have c2 : ¬ (((ns.map V.int).length : Int) < i + 1) := fun z => c2 (decide_eq_true z)
        have hil : i.toNat < ns.length := by rw [List.length_map] at c2; omega
        obtain ⟨cell, hc⟩ : ∃ cell, ns[i.toNat]? = some cell := ⟨_, List.getElem?_eq_getElem hil⟩
        refine ⟨_, sl_at e1, _, rfl, _, sl_at e1, _, rfl, i + 1, rfl, s0, rfl, ns.map V.int, hS1, .int cell, ?_, ?_⟩
        · rw [Int.add_sub_cancel]
          exact at_int hi hc
        have x2 := x1.trans (Ex.draw R1 (show 0 ≤ i + 1 by omega) (m31 (j * 48271 + cell + 11)).1 (m31 (j * 48271 + cell + 11)).2 hk)
        have e2 : (upd (upd H r (.lst [.ref s0, .int (i + 1), .int j, .int k])) r (.lst [.ref s0, .int (i + 1), .int ((j * 48271 + cell + 11) % 2147483647), .int k])) r = some (.lst [.ref s0, .int (i + 1), .int ((j * 48271 + cell + 11) % 2147483647), .int k]) := upd_same
        refine ⟨_, sl_at e1, _, rfl, j, rfl, .inl ⟨by omega, by omega⟩, ?_⟩
        have R2 : RowAt (upd (upd H r (.lst [.ref s0, .int (i + 1), .int j, .int k])) r (.lst [.ref s0, .int (i + 1), .int ((j * 48271 + cell + 11) % 2147483647), .int k])) r s0 := ⟨_, _, _, e2, by omega, (m31 _).1, (m31 _).2, hk⟩
        refine ⟨cell, rfl, by omega, _, e1, 2, rfl, ⟨by omega, by omega, by decide⟩, cell, rfl, ite2 (fun c3 => ?_) (fun c3 => ?_)⟩
        · have c3 := of_decide_eq_true c3
          have c0 : 0 ≤ cell := Int.le_trans (by decide) c3
          exact ⟨cell, rfl, dm _, _, e2, 3, rfl, .inl ⟨cell, rfl, by omega, nat _ _ (x2.trans (Ex.draw R2 (by omega) (m31 _).1 (m31 _).2 (Int.ediv_nonneg c0 (by omega)))) (md _).1 (md _).2⟩⟩
        · exact .inl ⟨cell, rfl, by omega, nat _ _ x2 (md _).1 (md _).2⟩
theorem ok__law_small (T : TX K mg base) : FnOk P w K mg base CX0 1 (He.ga K "_law_small") (fdK K "_law_small") [] (spLawSmall kSmall) := by
  refine T.F__law_small.ok sc_law_small (fun vs H Q E h => ?_) (fun cdv A outer s H vs Q E hr h => ?_)
  · obtain ⟨rfl, _⟩ := h
    rfl
  · obtain ⟨rfl, z⟩ := h
    refine ⟨_, (pss_cons (ps_set (i := 0) sc_law_small.nd rfl (.inl rfl) (pe_lst pa_lits))
      (pss_cons (ps_set (i := 0) sc_law_small.nd rfl (.inl rfl) (pe_op op_cat (pv 0) (pe_lst pa_lits)))
      (pss_cons (ps_set (i := 0) sc_law_small.nd rfl (.inl rfl) (pe_op op_cat (pv 0) (pe_lst pa_lits)))
      (pss_cons (ps_set (i := 0) sc_law_small.nd rfl (.inl rfl) (pe_op op_cat (pv 0) (pe_lst pa_lits)))
      (pss_cons (ps_set (i := 0) sc_law_small.nd rfl (.inl rfl) (pe_op op_cat (pv 0) (pe_lst pa_lits)))
      (pss_cons (ps_set (i := 0) sc_law_small.nd rfl (.inl rfl) (pe_op op_cat (pv 0) (pe_lst pa_lits)))
      (pss_cons (ps_set (i := 0) sc_law_small.nd rfl (.inl rfl) (pe_op op_cat (pv 0) (pe_lst pa_lits)))
      (pss_cons (ps_set (i := 0) sc_law_small.nd rfl (.inl rfl) (pe_op op_cat (pv 0) (pe_lst pa_lits)))
      (pss_cons (ps_expr (pe_bm PySem.F.plainAttrs_list PySem.F.slot_list_append PySem.F.type_list_append mt_append (pv 0) (pa_cons pe_lit pa_nil)))
      (pss_cons (ps_expr (pe_bm PySem.F.plainAttrs_list PySem.F.slot_list_append PySem.F.type_list_append mt_append (pv 0) (pa_cons pe_lit pa_nil)))
      (pss_cons (ps_expr (pe_bm PySem.F.plainAttrs_list PySem.F.slot_list_append PySem.F.type_list_append mt_append (pv 0) (pa_cons pe_lit pa_nil)))
      (pss_one (ps_ret (pv 0)))))))))))))), ?_⟩
    walk_at "sx"
    have line : (1000 : Nat) ≤ sizeLine := by decide
    refine fun vs0 H0 x0 l0 => ⟨by rw [l0.len]; exact Nat.le_trans (by decide) line, fun q0 m0 => ?_⟩
    have L0 := Ls.first x0 l0 rfl m0
    generalize upd H0 q0 (.lst vs0) = G0 at L0 ⊢
    refine fun ws H1 x l => ⟨by rw [l.len]; exact Nat.le_trans (by decide) line, fun p n => ⟨q0, p, _, _, rfl, rfl, L0.cat1 x n, upd_same, by rw [L0.lit.len, l.len]; exact Nat.le_trans (by decide) line, fun q1 m => ?_⟩⟩
    have L1 := L0.cat2 x l rfl n m
    generalize upd (upd H1 p _) q1 _ = G1 at L1 ⊢
    clear x l n m L0
    clear H1 p
    rename List V => w_1
    refine fun ws H1 x l => ⟨by rw [l.len]; exact Nat.le_trans (by decide) line, fun p n => ⟨q1, p, _, _, rfl, rfl, L1.cat1 x n, upd_same, by rw [L1.lit.len, l.len]; exact Nat.le_trans (by decide) line, fun q2 m => ?_⟩⟩
    have L2 := L1.cat2 x l rfl n m
    generalize upd (upd H1 p _) q2 _ = G2 at L2 ⊢
    clear x l n m L1
    clear H1 p
    rename List V => w_2
    refine fun ws H1 x l => ⟨by rw [l.len]; exact Nat.le_trans (by decide) line, fun p n => ⟨q2, p, _, _, rfl, rfl, L2.cat1 x n, upd_same, by rw [L2.lit.len, l.len]; exact Nat.le_trans (by decide) line, fun q3 m => ?_⟩⟩
    have L3 := L2.cat2 x l rfl n m
    generalize upd (upd H1 p _) q3 _ = G3 at L3 ⊢
    clear x l n m L2
    clear H1 p
    rename List V => w_3
    refine fun ws H1 x l => ⟨by rw [l.len]; exact Nat.le_trans (by decide) line, fun p n => ⟨q3, p, _, _, rfl, rfl, L3.cat1 x n, upd_same, by rw [L3.lit.len, l.len]; exact Nat.le_trans (by decide) line, fun q4 m => ?_⟩⟩
    have L4 := L3.cat2 x l rfl n m
    generalize upd (upd H1 p _) q4 _ = G4 at L4 ⊢
    clear x l n m L3
    clear H1 p
    rename List V => w_4
    refine fun ws H1 x l => ⟨by rw [l.len]; exact Nat.le_trans (by decide) line, fun p n => ⟨q4, p, _, _, rfl, rfl, L4.cat1 x n, upd_same, by rw [L4.lit.len, l.len]; exact Nat.le_trans (by decide) line, fun q5 m => ?_⟩⟩
    have L5 := L4.cat2 x l rfl n m
    generalize upd (upd H1 p _) q5 _ = G5 at L5 ⊢
    clear x l n m L4
    clear H1 p
    rename List V => w_5
    refine fun ws H1 x l => ⟨by rw [l.len]; exact Nat.le_trans (by decide) line, fun p n => ⟨q5, p, _, _, rfl, rfl, L5.cat1 x n, upd_same, by rw [L5.lit.len, l.len]; exact Nat.le_trans (by decide) line, fun q6 m => ?_⟩⟩
    have L6 := L5.cat2 x l rfl n m
    generalize upd (upd H1 p _) q6 _ = G6 at L6 ⊢
    clear x l n m L5
    clear H1 p
    rename List V => w_6
    refine fun ws H1 x l => ⟨by rw [l.len]; exact Nat.le_trans (by decide) line, fun p n => ⟨q6, p, _, _, rfl, rfl, L6.cat1 x n, upd_same, by rw [L6.lit.len, l.len]; exact Nat.le_trans (by decide) line, fun q7 m => ?_⟩⟩
    have L7 := L6.cat2 x l rfl n m
    generalize upd (upd H1 p _) q7 _ = G7 at L7 ⊢
    clear x l n m L6
    clear H1 p
    rename List V => w_7
    walk_at "sx"
    refine ⟨.ref q7, rfl, .inl ⟨rfl, _, sl_at L7.at_⟩, fun v H1 x l => ⟨q7, _, v, rfl, rfl, L7.push1 x, by rw [L7.lit.len]; exact Nat.lt_of_lt_of_le (by decide) line, ?_⟩⟩
    have L8 := L7.push2 x l rfl
    generalize upd H1 q7 _ = G8 at L8 ⊢
    clear x l L7
    clear H1
    rename V => v_8
    refine ⟨.ref q7, rfl, .inl ⟨rfl, _, sl_at L8.at_⟩, fun v H1 x l => ⟨q7, _, v, rfl, rfl, L8.push1 x, by rw [L8.lit.len]; exact Nat.lt_of_lt_of_le (by decide) line, ?_⟩⟩
    have L9 := L8.push2 x l rfl
    generalize upd H1 q7 _ = G9 at L9 ⊢
    clear x l L8
    clear H1
    rename V => v_9
    refine ⟨.ref q7, rfl, .inl ⟨rfl, _, sl_at L9.at_⟩, fun v H1 x l => ⟨q7, _, v, rfl, rfl, L9.push1 x, by rw [L9.lit.len]; exact Nat.lt_of_lt_of_le (by decide) line, ?_⟩⟩
    have L10 := L9.push2 x l rfl
    generalize upd H1 q7 _ = G10 at L10 ⊢
    clear x l L9
    clear H1
    rename V => v_10
    exact z q7 _ G10 L10.x L10.at_ L10.lit
theorem ok__law_large (T : TX K mg base) : FnOk P w K mg base CX0 1 (He.ga K "_law_large") (fdK K "_law_large") [] (spLawSmall kLarge) := by
  refine T.F__law_large.ok sc_law_large (fun vs H Q E h => ?_) (fun cdv A outer s H vs Q E hr h => ?_)
  · obtain ⟨rfl, _⟩ := h
    rfl
  · obtain ⟨rfl, z⟩ := h
    refine ⟨_, (pss_cons (ps_set (i := 0) sc_law_large.nd rfl (.inl rfl) (pe_lst pa_lits))
      (pss_cons (ps_set (i := 0) sc_law_large.nd rfl (.inl rfl) (pe_op op_cat (pv 0) (pe_lst pa_lits)))
      (pss_cons (ps_set (i := 0) sc_law_large.nd rfl (.inl rfl) (pe_op op_cat (pv 0) (pe_lst pa_lits)))
      (pss_cons (ps_set (i := 0) sc_law_large.nd rfl (.inl rfl) (pe_op op_cat (pv 0) (pe_lst pa_lits)))
      (pss_cons (ps_set (i := 0) sc_law_large.nd rfl (.inl rfl) (pe_op op_cat (pv 0) (pe_lst pa_lits)))
      (pss_cons (ps_set (i := 0) sc_law_large.nd rfl (.inl rfl) (pe_op op_cat (pv 0) (pe_lst pa_lits)))
      (pss_cons (ps_set (i := 0) sc_law_large.nd rfl (.inl rfl) (pe_op op_cat (pv 0) (pe_lst pa_lits)))
      (pss_cons (ps_set (i := 0) sc_law_large.nd rfl (.inl rfl) (pe_op op_cat (pv 0) (pe_lst pa_lits)))
      (pss_cons (ps_set (i := 0) sc_law_large.nd rfl (.inl rfl) (pe_op op_cat (pv 0) (pe_lst pa_lits)))
      (pss_cons (ps_set (i := 0) sc_law_large.nd rfl (.inl rfl) (pe_op op_cat (pv 0) (pe_lst pa_lits)))
      (pss_cons (ps_set (i := 1) sc_law_large.nd rfl (.inl rfl) pe_lit)
      (pss_cons (ps_set (i := 0) sc_law_large.nd rfl (.inl rfl) (pe_op op_cat (pv 0) (pe_lst (pa_cons (pe_tup (pa_cons pe_int (pa_cons pe_int (pa_cons (pe_op (catA (K := K) rfl) (pv 1) pe_lit) pa_nil)))) pa_nil))))
      (pss_cons (ps_set (i := 0) sc_law_large.nd rfl (.inl rfl) (pe_op op_cat (pv 0) (pe_lst (pa_cons (pe_tup (pa_cons pe_int (pa_cons pe_int (pa_cons (pe_op (catA (K := K) rfl) (pv 1) pe_lit) pa_nil)))) pa_nil))))
      (pss_cons (ps_set (i := 0) sc_law_large.nd rfl (.inl rfl) (pe_op op_cat (pv 0) (pe_lst pa_lits)))
      (pss_cons (ps_set (i := 0) sc_law_large.nd rfl (.inl rfl) (pe_op op_cat (pv 0) (pe_lst pa_lits)))
      (pss_cons (ps_set (i := 0) sc_law_large.nd rfl (.inl rfl) (pe_op op_cat (pv 0) (pe_lst pa_lits)))
      (pss_cons (ps_set (i := 0) sc_law_large.nd rfl (.inl rfl) (pe_op op_cat (pv 0) (pe_lst pa_lits)))
      (pss_one (ps_ret (pe_op op_cat (pv 0) (pe_lst pa_lits))))))))))))))))))))), ?_⟩
    walk_at "sx"
    have line : (1000 : Nat) ≤ sizeLine := by decide
    refine fun vs0 H0 x0 l0 => ⟨by rw [l0.len]; exact Nat.le_trans (by decide) line, fun q0 m0 => ?_⟩
    have L0 := Ls.first x0 l0 rfl m0
    generalize upd H0 q0 (.lst vs0) = G0 at L0 ⊢
    refine fun ws H1 x l => ⟨by rw [l.len]; exact Nat.le_trans (by decide) line, fun p n => ⟨q0, p, _, _, rfl, rfl, L0.cat1 x n, upd_same, by rw [L0.lit.len, l.len]; exact Nat.le_trans (by decide) line, fun q1 m => ?_⟩⟩
    have L1 := L0.cat2 x l rfl n m
    generalize upd (upd H1 p _) q1 _ = G1 at L1 ⊢
    clear x l n m L0
    clear H1 p
    rename List V => w_1
    refine fun ws H1 x l => ⟨by rw [l.len]; exact Nat.le_trans (by decide) line, fun p n => ⟨q1, p, _, _, rfl, rfl, L1.cat1 x n, upd_same, by rw [L1.lit.len, l.len]; exact Nat.le_trans (by decide) line, fun q2 m => ?_⟩⟩
    have L2 := L1.cat2 x l rfl n m
    generalize upd (upd H1 p _) q2 _ = G2 at L2 ⊢
    clear x l n m L1
    clear H1 p
    rename List V => w_2
    refine fun ws H1 x l => ⟨by rw [l.len]; exact Nat.le_trans (by decide) line, fun p n => ⟨q2, p, _, _, rfl, rfl, L2.cat1 x n, upd_same, by rw [L2.lit.len, l.len]; exact Nat.le_trans (by decide) line, fun q3 m => ?_⟩⟩
    have L3 := L2.cat2 x l rfl n m
    generalize upd (upd H1 p _) q3 _ = G3 at L3 ⊢
    clear x l n m L2
    clear H1 p
    rename List V => w_3
    refine fun ws H1 x l => ⟨by rw [l.len]; exact Nat.le_trans (by decide) line, fun p n => ⟨q3, p, _, _, rfl, rfl, L3.cat1 x n, upd_same, by rw [L3.lit.len, l.len]; exact Nat.le_trans (by decide) line, fun q4 m => ?_⟩⟩
    have L4 := L3.cat2 x l rfl n m
    generalize upd (upd H1 p _) q4 _ = G4 at L4 ⊢
    clear x l n m L3
    clear H1 p
    rename List V => w_4
    refine fun ws H1 x l => ⟨by rw [l.len]; exact Nat.le_trans (by decide) line, fun p n => ⟨q4, p, _, _, rfl, rfl, L4.cat1 x n, upd_same, by rw [L4.lit.len, l.len]; exact Nat.le_trans (by decide) line, fun q5 m => ?_⟩⟩
    have L5 := L4.cat2 x l rfl n m
    generalize upd (upd H1 p _) q5 _ = G5 at L5 ⊢
    clear x l n m L4
    clear H1 p
    rename List V => w_5
    refine fun ws H1 x l => ⟨by rw [l.len]; exact Nat.le_trans (by decide) line, fun p n => ⟨q5, p, _, _, rfl, rfl, L5.cat1 x n, upd_same, by rw [L5.lit.len, l.len]; exact Nat.le_trans (by decide) line, fun q6 m => ?_⟩⟩
    have L6 := L5.cat2 x l rfl n m
    generalize upd (upd H1 p _) q6 _ = G6 at L6 ⊢
    clear x l n m L5
    clear H1 p
    rename List V => w_6
    refine fun ws H1 x l => ⟨by rw [l.len]; exact Nat.le_trans (by decide) line, fun p n => ⟨q6, p, _, _, rfl, rfl, L6.cat1 x n, upd_same, by rw [L6.lit.len, l.len]; exact Nat.le_trans (by decide) line, fun q7 m => ?_⟩⟩
    have L7 := L6.cat2 x l rfl n m
    generalize upd (upd H1 p _) q7 _ = G7 at L7 ⊢
    clear x l n m L6
    clear H1 p
    rename List V => w_7
    refine fun ws H1 x l => ⟨by rw [l.len]; exact Nat.le_trans (by decide) line, fun p n => ⟨q7, p, _, _, rfl, rfl, L7.cat1 x n, upd_same, by rw [L7.lit.len, l.len]; exact Nat.le_trans (by decide) line, fun q8 m => ?_⟩⟩
    have L8 := L7.cat2 x l rfl n m
    generalize upd (upd H1 p _) q8 _ = G8 at L8 ⊢
    clear x l n m L7
    clear H1 p
    rename List V => w_8
    refine fun ws H1 x l => ⟨by rw [l.len]; exact Nat.le_trans (by decide) line, fun p n => ⟨q8, p, _, _, rfl, rfl, L8.cat1 x n, upd_same, by rw [L8.lit.len, l.len]; exact Nat.le_trans (by decide) line, fun q9 m => ?_⟩⟩
    have L9 := L8.cat2 x l rfl n m
    generalize upd (upd H1 p _) q9 _ = G9 at L9 ⊢
    clear x l n m L8
    clear H1 p
    rename List V => w_9
    refine fun tv T0 x lT => ?_
    have L9 := L9.mono x
    have xT := Ex.refl T0
    clear x
    obtain ⟨ta, tx, rfl, ht, lt⟩ := lT.tupE
    refine fun y H1 x l => ?_
    obtain ⟨ya, yx, rfl, hy, ly⟩ := l.tupE
    have ht1 := (xT.trans x).st _ _ ht trivial
    have lt1 := lt.ex (xT.trans x)
    have et := lt.len
    have ey := ly.len
    refine ⟨ta, ya, tx, yx, rfl, rfl, .inl (.inl ht1), .inl (.inl hy), by rw [et, ey]; exact Nat.le_trans (by decide) line, (fun h => by rw [h] at et; cases et), (fun _ h => by rw [h] at ey; cases ey), fun _ _ r nr => ⟨Nat.le_trans (by decide) line, fun p np => ⟨Nat.le_trans (by decide) line, fun b nb => ?_⟩⟩⟩
    have xr := Ex.new (o := .tup (tx ++ yx)) nr
    have kr : LitAll (upd H1 r (.tup (tx ++ yx))) _ (tx ++ yx) := (lt1.app ly).ex xr
    have hr1 : upd H1 r (.tup (tx ++ yx)) r = some (.tup (tx ++ yx)) := upd_same
    generalize upd H1 r (.tup (tx ++ yx)) = H2 at xr kr hr1 np nb ⊢
    have xp := Ex.new (o := .tup [V.int 36, V.int 6, V.ref r]) np
    have kp : Lit (upd H2 p (.tup [V.int 36, V.int 6, V.ref r])) (.tup [.int 36, .int 6, .tup _]) (.ref p) := .tup upd_same (.cons (.int _) (.cons (.int _) (.cons (.tup (xp.st _ _ hr1 trivial) (kr.ex xp)) .nil)))
    generalize upd H2 p (.tup [V.int 36, V.int 6, V.ref r]) = H3 at xp kp nb ⊢
    have x3 := (x.trans xr).trans xp
    refine ⟨q9, b, _, [.ref p], rfl, rfl, L9.cat1 x3 nb, upd_same, by rw [L9.lit.len]; show _ + 1 ≤ _; exact Nat.le_trans (by decide) line, fun q10 m => ?_⟩
    have L10 := L9.cat2 x3 (.cons kp .nil) rfl nb m
    have xT := (xT.trans x3).trans (L9.catx (ws := [.ref p]) nb m)
    generalize upd (upd H3 b _) q10 _ = G10 at L10 xT ⊢
    clear x l xr kr hr1 xp kp x3 nr np nb m ht1 lt1 et ey hy ly
    clear H1 H2 H3 L9
    rename List V => w_10
    refine fun y H1 x l => ?_
    obtain ⟨ya, yx, rfl, hy, ly⟩ := l.tupE
    have ht1 := (xT.trans x).st _ _ ht trivial
    have lt1 := lt.ex (xT.trans x)
    have et := lt.len
    have ey := ly.len
    refine ⟨ta, ya, tx, yx, rfl, rfl, .inl (.inl ht1), .inl (.inl hy), by rw [et, ey]; exact Nat.le_trans (by decide) line, (fun h => by rw [h] at et; cases et), (fun _ h => by rw [h] at ey; cases ey), fun _ _ r nr => ⟨Nat.le_trans (by decide) line, fun p np => ⟨Nat.le_trans (by decide) line, fun b nb => ?_⟩⟩⟩
    have xr := Ex.new (o := .tup (tx ++ yx)) nr
    have kr : LitAll (upd H1 r (.tup (tx ++ yx))) _ (tx ++ yx) := (lt1.app ly).ex xr
    have hr1 : upd H1 r (.tup (tx ++ yx)) r = some (.tup (tx ++ yx)) := upd_same
    generalize upd H1 r (.tup (tx ++ yx)) = H2 at xr kr hr1 np nb ⊢
    have xp := Ex.new (o := .tup [V.int 72, V.int 6, V.ref r]) np
    have kp : Lit (upd H2 p (.tup [V.int 72, V.int 6, V.ref r])) (.tup [.int 72, .int 6, .tup _]) (.ref p) := .tup upd_same (.cons (.int _) (.cons (.int _) (.cons (.tup (xp.st _ _ hr1 trivial) (kr.ex xp)) .nil)))
    generalize upd H2 p (.tup [V.int 72, V.int 6, V.ref r]) = H3 at xp kp nb ⊢
    have x3 := (x.trans xr).trans xp
    refine ⟨q10, b, _, [.ref p], rfl, rfl, L10.cat1 x3 nb, upd_same, by rw [L10.lit.len]; show _ + 1 ≤ _; exact Nat.le_trans (by decide) line, fun q11 m => ?_⟩
    have L11 := L10.cat2 x3 (.cons kp .nil) rfl nb m
    have xT := (xT.trans x3).trans (L10.catx (ws := [.ref p]) nb m)
    generalize upd (upd H3 b _) q11 _ = G11 at L11 xT ⊢
    clear x l xr kr hr1 xp kp x3 nr np nb m ht1 lt1 et ey hy ly
    clear H1 H2 H3 L10
    rename List V => w_11
    refine fun ws H1 x l => ⟨by rw [l.len]; exact Nat.le_trans (by decide) line, fun p n => ⟨q11, p, _, _, rfl, rfl, L11.cat1 x n, upd_same, by rw [L11.lit.len, l.len]; exact Nat.le_trans (by decide) line, fun q12 m => ?_⟩⟩
    have L12 := L11.cat2 x l rfl n m
    generalize upd (upd H1 p _) q12 _ = G12 at L12 ⊢
    clear x l n m L11
    clear H1 p
    rename List V => w_12
    refine fun ws H1 x l => ⟨by rw [l.len]; exact Nat.le_trans (by decide) line, fun p n => ⟨q12, p, _, _, rfl, rfl, L12.cat1 x n, upd_same, by rw [L12.lit.len, l.len]; exact Nat.le_trans (by decide) line, fun q13 m => ?_⟩⟩
    have L13 := L12.cat2 x l rfl n m
    generalize upd (upd H1 p _) q13 _ = G13 at L13 ⊢
    clear x l n m L12
    clear H1 p
    rename List V => w_13
    refine fun ws H1 x l => ⟨by rw [l.len]; exact Nat.le_trans (by decide) line, fun p n => ⟨q13, p, _, _, rfl, rfl, L13.cat1 x n, upd_same, by rw [L13.lit.len, l.len]; exact Nat.le_trans (by decide) line, fun q14 m => ?_⟩⟩
    have L14 := L13.cat2 x l rfl n m
    generalize upd (upd H1 p _) q14 _ = G14 at L14 ⊢
    clear x l n m L13
    clear H1 p
    rename List V => w_14
    refine fun ws H1 x l => ⟨by rw [l.len]; exact Nat.le_trans (by decide) line, fun p n => ⟨q14, p, _, _, rfl, rfl, L14.cat1 x n, upd_same, by rw [L14.lit.len, l.len]; exact Nat.le_trans (by decide) line, fun q15 m => ?_⟩⟩
    have L15 := L14.cat2 x l rfl n m
    generalize upd (upd H1 p _) q15 _ = G15 at L15 ⊢
    clear x l n m L14
    clear H1 p
    rename List V => w_15
    refine fun ws H1 x l => ⟨by rw [l.len]; exact Nat.le_trans (by decide) line, fun p n => ⟨q15, p, _, _, rfl, rfl, L15.cat1 x n, upd_same, by rw [L15.lit.len, l.len]; exact Nat.le_trans (by decide) line, fun q16 m => ?_⟩⟩
    have L16 := L15.cat2 x l rfl n m
    exact z q16 _ _ L16.x L16.at_ L16.lit
theorem ok__law_pick (T : TX K mg base) : FnOk P w K mg base CX0 2 (He.ga K "_law_pick") (fdK K "_law_pick") ["row", "things"] (spPick K) := by
  refine T.F__law_pick.ok sc_law_pick (fun vs H Q E h => ?_) (fun cdv A outer s H vs Q E hr h => ?_)
  · obtain ⟨r, s, t, ns, ts, rfl, _⟩ := h
    rfl
  · obtain ⟨r, s0, t, ns, ts, rfl, hR, hS, hT, h1, h2, z⟩ := h
    refine ⟨_, (pss_one (ps_ret (pe_ix (ixL (K := K) rfl) (pv 1) (pe_call (ok__law_taken T) hr (by rfl) T.g__law_taken T.F__law_taken.kp T.b__law_taken .nil pass0 (pa_cons (pv 0) (pa_cons (pe_callB (lenS (K := K) rfl) (by rfl) T.n_len PySem.boot_len (pa_cons (pv 1) pa_nil)) pa_nil))) (fun _ _ => rfl)))), ?_⟩
    walk_at "sx"
    refine ⟨ts.map V.int, .inl (sl_at hT), r, s0, ts.length, ns, by rw [List.length_map], hR, hS, h1, by omega, fun j H1 x1 hj => ?_⟩
    have hv : ts[j]? = some ts[j] := List.getElem?_eq_getElem hj
    exact ⟨ts.map V.int, j, rfl, sl_at (x1.i hT), .int ts[j], at_int (by omega) (by rw [show ((j : Nat) : Int).toNat = j by omega]; exact hv), z _ H1 x1 (List.getElem_mem hj)⟩
theorem ok__law_pickR (T : TX K mg base) : FnOk P w K mg base CX0 2 (He.ga K "_law_pick") (fdK K "_law_pick") ["row", "things"] (spPickR K) := by
  refine T.F__law_pick.ok sc_law_pick (fun vs H Q E h => ?_) (fun cdv A outer s H vs Q E hr h => ?_)
  · obtain ⟨r, s, t, ns, ts, rfl, _⟩ := h
    rfl
  · obtain ⟨r, s0, t, ns, ts, rfl, hR, hS, hT, h1, h2, z⟩ := h
    refine ⟨_, (pss_one (ps_ret (pe_ix (ixL (K := K) rfl) (pv 1) (pe_call (ok__law_taken T) hr (by rfl) T.g__law_taken T.F__law_taken.kp T.b__law_taken .nil pass0 (pa_cons (pv 0) (pa_cons (pe_callB (lenS (K := K) rfl) (by rfl) T.n_len PySem.boot_len (pa_cons (pv 1) pa_nil)) pa_nil))) (fun _ _ => rfl)))), ?_⟩
    walk_at "sx"
    refine ⟨ts.map V.ref, .inl (sl_at hT), r, s0, ts.length, ns, by rw [List.length_map], hR, hS, h1, by omega, fun j H1 x1 hj => ?_⟩
    have hv : ts[j]? = some ts[j] := List.getElem?_eq_getElem hj
    exact ⟨ts.map V.ref, j, rfl, sl_at (x1.st _ _ hT refs_norow), .ref ts[j], atI_nat (by rw [List.getElem?_map, hv]; rfl), z _ H1 x1 (List.getElem_mem hj)⟩
theorem ok__law_perm (T : TX K mg base) : FnOk P w K mg base CX0 2 (He.ga K "_law_perm") (fdK K "_law_perm") ["row", "degree"] (spLawPerm K) := by
  refine T.F__law_perm.ok sc_law_perm (fun vs H Q E h => ?_) (fun cdv A outer s H vs Q E hr h => ?_)
  · obtain ⟨r, s, m, ns, rfl, _⟩ := h
    rfl
  · obtain ⟨r, s0, n, ns, rfl, hR, hS, h1, h2, z⟩ := h
    refine ⟨_, (pss_cons (ps_set (i := 2) sc_law_perm.nd rfl (.inl rfl) (pe_listRg rfl (by rfl) T.n_list (prg_1 (by rfl) T.n_range (pv 1))))
      (pss_cons (ps_for PassesOwn.never rfl (pi_range1 (by rfl) T.n_range (pa_cons (pe_op op_sub (pv 1) pe_int) pa_nil)) (pg_name (i := 3) sc_law_perm.nd rfl (.inl rfl)) (pss_cons (ps_set (i := 4) sc_law_perm.nd rfl (.inl rfl) (pe_op op_add (pv 3) (pe_call (ok__law_taken T) hr (by rfl) T.g__law_taken T.F__law_taken.kp T.b__law_taken .nil pass0 (pa_cons (pv 0) (pa_cons (pe_op op_sub (pv 1) (pv 3)) pa_nil)))))
      (pss_one (ps_asg (pe_tup (pa_cons (pe_ix (ixL (K := K) rfl) (pv 2) (pv 4) (fun _ _ => rfl)) (pa_cons (pe_ix (ixL (K := K) rfl) (pv 2) (pv 3) (fun _ _ => rfl)) pa_nil))) (pg_tup rfl (pgs_cons (pg_sub (pv 2) (pv 3) set_list (by intro _; rfl)) (pgs_cons (pg_sub (pv 2) (pv 4) set_list (by intro _; rfl)) pgs_nil)))))))
      (pss_one (ps_ret (pe_tupK (K := K) rfl (by rfl) T.n_tuple (pv 2)))))), ?_⟩
    walk_at "sx"
    refine ⟨.of_le (by omega) (by omega) (by omega) (by omega), fun l nl => ?_⟩
    rw [rg_ints]
    have xl : Ex H (upd H l (.lst ((unitL n).map V.int))) := Ex.new nl
    refine ⟨.int n, rfl, n, 1, rfl, rfl, (n : Int) - 1, rfl, by omega, by omega, for_it walk_range (fun i σ H1 => ∃ y3 y4 L, σ = [some (.ref r), some (.int n), some (.ref l), y3, y4] ∧ Ex H H1 ∧ H1 l = some (.lst (L.map V.int)) ∧ IsPm n L)
      ⟨none, none, unitL n, rfl, xl, upd_same, unit_pm n⟩ (fun _ _ _ _ _ => trivial) (fun i x σ H1 H2 hi ⟨y3, y4, L, es, x1, hL, hP⟩ ⟨e, ex⟩ => ?_) (fun σ H1 ⟨y3, y4, L, es, x1, hL, hP⟩ => ?_)⟩
    · subst es e ex
      have hi' : i + 1 < n := by omega
      obtain ⟨u, hu, _⟩ := hP.get (i := i) (by omega)
      walk_at "sx"
      refine ⟨r, s0, n - i, ns, ?_, x1.row _ _ hR, x1.l ints_norow hS, by omega, by omega, fun j H3 x3 hj => ?_⟩
      · simp only [List.cons.injEq, V.int.injEq, and_true, true_and]
        omega
      have hL3 := x3.i hL
      obtain ⟨v, hv, _⟩ := hP.get (i := i + j) (by omega)
      have eij : (0 + (i : Int) + (j : Int)).toNat = i + j := by omega
      have ei : (0 + (i : Int)).toNat = i := by omega
      have x4 := x1.trans x3
      refine ⟨j, rfl, _, sl_at hL3, .int v, at_int (by omega) (by rw [eij]; exact hv), _, sl_at hL3, .int u, at_int (by omega) (by rw [ei]; exact hu), by decide, fun T nT => ?_⟩
      have hL4 : (upd H3 T (.tup [.int v, .int u])) l = some (.lst (L.map V.int)) := by
        rw [upd_ne (ne_of_none hL3 nT)]
        exact hL3
      refine ⟨[.int v, .int u], sq_new, rfl, .int v, [.int u], rfl, _, hL4, i, ?_, .int u, [], rfl, _, upd_same, i + j, ?_, rfl, some (.int (0 + (i : Int))), some (.int (0 + (i : Int) + j)), ⟨rfl, rfl⟩, ((x4.trans (Ex.new nT)).own nl).own nl, (L.set i v).set (i + j) u, ?_, hP.swap hu hv⟩
      · rw [ixN_of (by omega) (by rw [List.length_map, hP.len]; omega), ei]
      · rw [ixN_of (by omega) (by rw [List.length_set, List.length_map, hP.len]; omega), eij]
      · rw [upd_same, set_map, set_map]
    · subst es
      exact ⟨.ref l, rfl, .inl ⟨l, _, rfl, sl_at hL, fun c nc => z c _ L (x1.trans (Ex.new nc)) ⟨upd_same, hP⟩⟩⟩
theorem ok__law_mul (T : TX K mg base) : FnOk P w K mg base CX0 1 (He.ga K "_law_mul") (fdK K "_law_mul") ["p", "q"] spLawMul := by
  refine T.F__law_mul.ok sc_law_mul (fun vs H Q E h => ?_) (fun cdv A outer s H vs Q E hr h => ?_)
  · obtain ⟨a, b, n, p, q, rfl, _⟩ := h
    rfl
  · obtain ⟨a, b, n, p, q, rfl, hp, hq, hn, z⟩ := h
    refine ⟨_, (pss_one (ps_ret (pe_tupK (K := K) rfl (by rfl) T.n_tuple (pe_lc (own := [("image", 2)]) (g := gName 2) (tt := tYes) rfl sc_law_mul.nd (piT (K := K) rfl (pv 0)) (blkOk_by (N := ["p", "q", "image"]) (sc := defScope s_law_mul) (by decide +kernel)) (fun _ _ _ _ _ => (pg_name (i := 2) sc_law_mul.nd rfl (.inl rfl))) (fun _ _ _ _ _ => pts_nil) (fun _ _ _ _ _ => (pe_ix (ixT (K := K) rfl) (pv 1) (pv 2) (fun _ _ => rfl))))))), ?_⟩
    walk_at "sx"
    refine ⟨.ref a, rfl, a, rfl, ⟨_, .inl (.inl hp.at_)⟩, fun D nD => ?_⟩
    have hl : (p.map V.int).length = n := by rw [List.length_map, hp.is.len]
    refine lc_it (walk_tup (xs := p.map V.int)) (fun i H1 => Ex H H1 ∧ H1 D = some (.lst (((mulL p q).take i).map V.int))) ⟨Ex.new nD, upd_same⟩ (fun i H1 _ h => h.1.t (.inl (.inl hp.at_))) (fun i x H1 H2 hi ⟨x1, hD⟩ ⟨e, hx⟩ => ?_) (fun H1 ⟨x1, hD⟩ => ?_)
    · subst e
      rw [hl] at hi
      obtain ⟨y, hy, h0, hb⟩ := hp.is.get hi
      have ex : x = .int y := by
        rw [List.getElem?_map, hy] at hx
        exact (Option.some.inj hx).symm
      subst ex
      obtain ⟨u, hu, _⟩ := hq.is.get (i := y.toNat) (by omega)
      refine ⟨rfl, yesI ⟨.ref b, rfl, .int y, rfl, b, _, y, .int u, rfl, rfl, x1.t (.inl (.inl hq.at_)), at_int h0 hu, _, hD, ?_, x1.own nD, ?_⟩⟩
      · rw [List.length_map, List.length_take]
        have : (mulL p q).length = n := by unfold mulL; rw [List.length_map, hp.is.len]
        exact small1000 (by omega)
      · rw [upd_same, mul_take hy, getD_of hu, List.map_append]
        rfl
    · have hml : (mulL p q).length = n := by unfold mulL; rw [List.length_map, hp.is.len]
      rw [hl, List.take_of_length_le (by omega)] at hD
      refine .inl ⟨D, rfl, _, sl_at hD, fun c nc => z c _ (x1.trans (Ex.new nc)) ⟨upd_same, mulL_pm hp.is hq.is⟩⟩
theorem ok__law_inv (T : TX K mg base) : FnOk P w K mg base CX0 1 (He.ga K "_law_inv") (fdK K "_law_inv") ["p"] spLawInv := by
  refine T.F__law_inv.ok sc_law_inv (fun vs H Q E h => ?_) (fun cdv A outer s H vs Q E hr h => ?_)
  · obtain ⟨a, n, p, rfl, _⟩ := h
    rfl
  · obtain ⟨a, n, p, rfl, hp, hn, z⟩ := h
    refine ⟨_, (pss_cons (ps_set (i := 1) sc_law_inv.nd rfl (.inl rfl) (pe_op op_rep (pe_lst (pa_cons pe_int pa_nil)) (pe_callB (lenS (K := K) rfl) (by rfl) T.n_len PySem.boot_len (pa_cons (pv 0) pa_nil))))
      (pss_cons (ps_for PassesOwn.never rfl (pi_range1 (by rfl) T.n_range (pa_cons (pe_callB (lenS (K := K) rfl) (by rfl) T.n_len PySem.boot_len (pa_cons (pv 0) pa_nil)) pa_nil)) (pg_name (i := 2) sc_law_inv.nd rfl (.inl rfl)) (pss_one (ps_asg (pv 2) (pg_sub (pv 1) (pe_ix (ixT (K := K) rfl) (pv 0) (pv 2) (fun _ _ => rfl)) set_list (by intro _; rfl)))))
      (pss_one (ps_ret (pe_tupK (K := K) rfl (by rfl) T.n_tuple (pv 1)))))), ?_⟩
    walk_at "sx"
    have hlp : (p.map V.int).length = n := by rw [List.length_map, hp.is.len]
    refine ⟨by show 1 ≤ sizeLine; decide, fun l nl => ?_⟩
    have xl : Ex H (upd H l (.lst [V.int 0])) := Ex.new nl
    have hA : SqT K (upd H l (.lst [V.int 0])) a (p.map V.int) := xl.t (.inl (.inl hp.at_))
    refine ⟨p.map V.int, .inr hA, [V.int 0], upd_same, by omega, by omega, by rw [hlp]; exact Nat.le_of_lt (small1000 (by show 1 * ((n : Nat) : Int).toNat ≤ 1000; omega)), fun o no => ?_⟩
    have no0 := xl.no _ no
    have xo : Ex H (upd (upd H l (.lst [V.int 0])) o (.lst (List.replicate ((p.map V.int).length : Int).toNat [V.int 0]).flatten)) := xl.trans (Ex.new no)
    have en : ((n : Nat) : Int).toNat = n := by omega
    refine ⟨.ref a, rfl, a, rfl, p.map V.int, .inr (xo.t (.inl (.inl hp.at_))), (n : Int), by rw [hlp], by omega, by omega, for_it walk_range (fun i σ H1 => ∃ y2 L, σ = [some (.ref a), some (.ref o), y2] ∧ Ex H H1 ∧ H1 o = some (.lst (L.map V.int)) ∧ Filled n p (fun j => (j : Int)) i L)
      ⟨none, List.replicate n 0, rfl, xo, ?_, Filled.start⟩ (fun _ _ _ _ _ => trivial) (fun i x σ H1 H2 hi ⟨y2, L, es, x1, hO, hF⟩ ⟨e, ex⟩ => ?_) (fun σ H1 ⟨y2, L, es, x1, hO, hF⟩ => ?_)⟩
    · rw [upd_same, hlp, en, rep_flat]
    · subst es e ex
      rw [en] at hi
      obtain ⟨y, hy, h0, hb⟩ := hp.is.get hi
      have ei : (0 + (i : Int)).toNat = i := by omega
      refine ⟨.int (0 + (i : Int)), rfl, .ref o, rfl, .ref a, rfl, .int (0 + (i : Int)), rfl, a, _, _, .int y, rfl, rfl, x1.t (.inl (.inl hp.at_)), at_int (by omega) (by rw [ei]; exact hy), o, _, y, y.toNat, rfl, rfl, hO, ixN_of h0 (by rw [List.length_map, hF.len]; exact hb), ?_⟩
      refine ⟨some (.int (0 + (i : Int))), L.set y.toNat i, rfl, x1.own no0, ?_, hF.step hp.is hy⟩
      rw [upd_same, Int.zero_add, set_map]
    · subst es
      rw [en] at hF
      have eL : L = invL p := hF.uniq hp.is (invL_filled hp.is)
      subst eL
      exact ⟨.ref o, rfl, .inl ⟨o, _, rfl, sl_at hO, fun c nc => z c _ (x1.trans (Ex.new nc)) ⟨upd_same, invL_pm hp.is⟩⟩⟩
theorem ok__law_conj (T : TX K mg base) : FnOk P w K mg base CX0 2 (He.ga K "_law_conj") (fdK K "_law_conj") ["p", "g"] spLawConj := by
  refine T.F__law_conj.ok sc_law_conj (fun vs H Q E h => ?_) (fun cdv A outer s H vs Q E hr h => ?_)
  · obtain ⟨a, b, n, p, q, rfl, _⟩ := h
    rfl
  · obtain ⟨a, b, n, p, g, rfl, hp, hg, hn, z⟩ := h
    refine ⟨_, (pss_one (ps_ret (pe_call (ok__law_mul T) hr (by rfl) T.g__law_mul T.F__law_mul.kp T.b__law_mul .nil pass0 (pa_cons (pe_call (ok__law_mul T) hr (by rfl) T.g__law_mul T.F__law_mul.kp T.b__law_mul .nil pass0 (pa_cons (pe_call (ok__law_inv T) hr (by rfl) T.g__law_inv T.F__law_inv.kp T.b__law_inv .nil pass0 (pa_cons (pv 1) pa_nil)) (pa_cons (pv 0) pa_nil))) (pa_cons (pv 1) pa_nil))))), ?_⟩
    walk_at "sx"
    refine ⟨b, n, g, rfl, hg, hn, fun c H1 x1 e1 => ?_⟩
    refine ⟨c, a, n, _, p, rfl, e1, hp.ex x1, hn, fun d H2 x2 e2 => ?_⟩
    exact ⟨d, b, n, _, g, rfl, e2, hg.ex (x1.trans x2), hn, fun f H3 x3 e3 => z f H3 _ ((x1.trans x2).trans x3) e3 rfl⟩
theorem ok__law_unit (T : TX K mg base) : FnOk P w K mg base CX0 1 (He.ga K "_law_unit") (fdK K "_law_unit") ["degree"] spLawUnit := by
  refine T.F__law_unit.ok sc_law_unit (fun vs H Q E h => ?_) (fun cdv A outer s H vs Q E hr h => ?_)
  · obtain ⟨n, rfl, _⟩ := h
    rfl
  · obtain ⟨n, rfl, hn, q⟩ := h
    refine ⟨_, (pss_one (ps_ret (pe_tupRg rfl (by rfl) T.n_tuple (prg_1 (by rfl) T.n_range (pv 0))))), ?_⟩
    walk_at "sx"
    refine ⟨.of_le (by omega) (by omega) (by omega) (by omega), fun a na => ?_⟩
    exact q a _ (Ex.new na) ⟨by rw [upd_same, rg_ints]; rfl, unit_pm n⟩
theorem twoK {G : Addr → Hp → Prop} {A : Prop} {H : Hp} {n m b : Nat} (rest : ∀ (l : Addr) (H2 : Hp) (gs : List (List Int)), Ex H H2 → GenL H2 l n gs m → gs.length ≤ b → G l H2) (k : (∀ (l : Addr) (H2 : Hp) (gs : List (List Int)), Ex H H2 → GenL H2 l n gs m → gs.length ≤ b → G l H2) → A) : A := k rest
theorem itFalse0 {A B : Prop} (h : B) : if False then A else B := by rw [if_neg id]; exact h
theorem ok__law_known (T : TX K mg base) : FnOk P w K mg base CX0 3 (He.ga K "_law_known") (fdK K "_law_known") ["row", "degree", "most"] (spLawKnown K) := by
  refine T.F__law_known.ok sc_law_known (fun vs H Q E h => ?_) (fun cdv A outer s H vs Q E hr h => ?_)
  · obtain ⟨r, s, ns, d, most, rfl, _⟩ := h
    rfl
  · obtain ⟨r, s0, ns, d, most, rfl, hR, hS, d1, m1, d2, m2, z⟩ := h
    refine ⟨_, (pss_cons (ps_setLc (i := 3) (own := [("told", 4)]) (g := gName 4)  rfl sc_law_known.nd rfl rfl (sw_true rfl rfl rfl (by decide +kernel)) (piL (K := K) rfl (pe_op op_cat (pe_call0 (ok__law_small T) (hr.mono (by decide)) (by rfl) T.g__law_small T.F__law_small.kp T.b__law_small .nil pass0) (pe_call0 (ok__law_large T) (hr.mono (by decide)) (by rfl) T.g__law_large T.F__law_large.kp T.b__law_large .nil pass0))) (blkOk_by (N := ["row", "degree", "most", "some", "told", "moved", "gens", "p"]) (sc := defScope s_law_known) (by decide +kernel)) (fun _ _ _ _ _ => (pg_name (i := 4) sc_law_known.nd rfl (.inl rfl))) (fun _ _ _ _ _ => (pts_one (PW.pt (pw_and (pt_cmpR op_le (pe_ix (ixT (K := K) rfl) (pv 4) pe_int (fun _ _ => rfl)) (pv 2) (nomark _)) (pw_and1 (pt_cmpR op_le (pe_ix (ixT (K := K) rfl) (pv 4) pe_int (fun _ _ => rfl)) (pv 1) (nomark _))))))) (fun _ _ _ _ _ => (pv 4)))
      (pss_cons (ps_set (i := 4) sc_law_known.nd rfl (.inl rfl) (pe_call (ok__law_pickR T) hr (by rfl) T.g__law_pick T.F__law_pick.kp T.b__law_pick .nil pass0 (pa_cons (pv 0) (pa_cons (pv 3) pa_nil))))
      (pss_cons (ps_set (i := 5) sc_law_known.nd rfl (.inr rfl) (pe_call (ok__law_perm T) hr (by rfl) T.g__law_perm T.F__law_perm.kp T.b__law_perm .nil pass0 (pa_cons (pv 0) (pa_cons (pe_ix (ixT (K := K) rfl) (pv 4) pe_int (fun _ _ => rfl)) pa_nil))))
      (pss_cons (ps_setLc (i := 6) (own := [("p", 7)]) (g := gName 7) (tt := tYes) rfl sc_law_known.nd rfl rfl (sw_true rfl rfl rfl (by decide +kernel)) (piT (K := K) rfl (pe_ix (ixT (K := K) rfl) (pv 4) pe_int (fun _ _ => rfl))) (blkOk_by (N := ["row", "degree", "most", "some", "told", "moved", "gens", "p"]) (sc := defScope s_law_known) (by decide +kernel)) (fun _ _ _ _ _ => (pg_name (i := 7) sc_law_known.nd rfl (.inl rfl))) (fun _ _ _ _ _ => pts_nil) (fun _ _ _ _ _ => (pe_call (ok__law_conj T) hr (by rfl) T.g__law_conj T.F__law_conj.kp T.b__law_conj .nil pass0 (pa_cons (pv 7) (pa_cons (pv 5) pa_nil)))))
      (pss_cons (ps_if (PW.pt (pw_and (pt_cmpR (neD (K := K) rfl hr) (pv 6) (pe_lst pa_nil) (nomark _)) (pw_and1 (pt_cmpR op_eq (pe_call (ok__law_taken T) (hr.mono (by decide)) (by rfl) T.g__law_taken T.F__law_taken.kp T.b__law_taken .nil pass0 (pa_cons (pv 0) (pa_cons pe_int pa_nil))) pe_int (nomark _))))) (pss_one (ps_set (i := 6) sc_law_known.nd rfl (.inl rfl) (pe_op op_cat (pv 6) (pe_lst (pa_cons (pe_call (ok__law_mul T) (hr.mono (by decide)) (by rfl) T.g__law_mul T.F__law_mul.kp T.b__law_mul .nil pass0 (pa_cons (pe_call (ok__law_pickR T) hr (by rfl) T.g__law_pick T.F__law_pick.kp T.b__law_pick .nil pass0 (pa_cons (pv 0) (pa_cons (pv 6) pa_nil))) (pa_cons (pe_call (ok__law_pickR T) hr (by rfl) T.g__law_pick T.F__law_pick.kp T.b__law_pick .nil pass0 (pa_cons (pv 0) (pa_cons (pv 6) pa_nil))) pa_nil))) pa_nil))))) pss_nil)
      (pss_cons (ps_if (pt_cmpR op_eq (pe_call (ok__law_taken T) (hr.mono (by decide)) (by rfl) T.g__law_taken T.F__law_taken.kp T.b__law_taken .nil pass0 (pa_cons (pv 0) (pa_cons pe_int pa_nil))) pe_int (nomark _)) (pss_one (ps_set (i := 6) sc_law_known.nd rfl (.inl rfl) (pe_op op_cat (pe_lst (pa_cons (pe_call (ok__law_unit T) (hr.mono (by decide)) (by rfl) T.g__law_unit T.F__law_unit.kp T.b__law_unit .nil pass0 (pa_cons (pe_ix (ixT (K := K) rfl) (pv 4) pe_int (fun _ _ => rfl)) pa_nil)) pa_nil)) (pv 6)))) pss_nil)
      (pss_one (ps_ret (pe_tup (pa_cons (pe_ix (ixT (K := K) rfl) (pv 4) pe_int (fun _ _ => rfl)) (pa_cons (pe_tupK (K := K) rfl (by rfl) T.n_tuple (pv 6)) pa_nil))))))))))), ?_⟩
    walk_at "sx"
    have line : (1000 : Nat) ≤ sizeLine := by decide
    refine ⟨rfl, fun a1 ws1 H1 x1 e1 l1 => ⟨rfl, fun a2 ws2 H2 x2 e2 l2 => ?_⟩⟩
    have t1 : tupsD (kSmall.map dtK) = true := rfl
    have e1b := x2.st _ _ e1 (lits_norow l1 t1)
    have lA := (l1.ex x2).app l2
    rw [← List.map_append] at lA
    have lAl := lA.len
    rw [List.length_map] at lAl
    have l39 : (kSmall ++ kLarge).length = 39 := rfl
    refine ⟨a1, a2, ws1, ws2, rfl, rfl, e1b, e2, by rw [← List.length_append, lAl, l39]; omega, fun b nb => ⟨b, rfl, ⟨_, sl_new⟩, fun D nD => ?_⟩⟩
    have xb := (x1.trans x2).trans (Ex.new (o := .lst (ws1 ++ ws2)) nb)
    have hb : upd H2 b (.lst (ws1 ++ ws2)) b = some (.lst (ws1 ++ ws2)) := upd_same
    have lB := lA.ex (Ex.new (o := .lst (ws1 ++ ws2)) nb)
    generalize upd H2 b (.lst (ws1 ++ ws2)) = H3 at xb hb lB nD ⊢
    generalize ws1 ++ ws2 = ws at hb lB lAl ⊢
    have nrw : ¬ RowO (.lst ws) := lits_norow lB rfl
    refine lc_it (walk_list (xs := ws)) (fun i H4 => Ex H3 H4 ∧ ∃ (As : List Addr) (ks : List (Nat × Nat × List (List Int))), H4 D = some (.lst (As.map V.ref)) ∧ LitAll H4 (ks.map dtK) (As.map V.ref) ∧ (∀ k ∈ ks, k ∈ kSmall ++ kLarge ∧ k.1 ≤ most ∧ k.2.1 ≤ d) ∧ ks.length ≤ i ∧ (1 < i → 1 ≤ ks.length)) ⟨Ex.new nD, [], [], upd_same, .nil, (fun _ h => by cases h), Nat.le_refl _, fun h => by omega⟩ (fun i H4 _ h => sl_at (h.1.st _ _ hb nrw)) (fun i x H4 H5 hi ⟨x4, As, ks, hD, lD, pk, lk, nk⟩ ⟨e, hx⟩ => ?_) (fun H4 ⟨x4, As, ks, hD, lD, pk, lk, nk⟩ => ?_)
    · subst e
      have hi39 : i < 39 := by omega
      obtain ⟨k, hk⟩ : ∃ k, (kSmall ++ kLarge)[i]? = some k := ⟨_, List.getElem?_eq_getElem (by omega)⟩
      obtain ⟨v, hv, lv⟩ := (lB.ex x4).get i (dtK k) (by rw [List.getElem?_map, hk]; rfl)
      rw [hx] at hv
      cases hv
      obtain ⟨ka, kg, kAs, rfl, hka, hkg, kR⟩ := kn_of lv
      refine ⟨rfl, ?_⟩
      walk_at "sx"
      have d5 : H5 D = some (.lst (As.map V.ref)) := hD
      have keep : ¬ (k.1 ≤ most ∧ k.2.1 ≤ d) → 1 < i + 1 → 1 ≤ ks.length := fun nf h => by
        by_cases h1 : i = 1
        · subst h1
          cases hk
          exact absurd ⟨m1, d1⟩ nf
        · exact nk (by omega)
      have drop : ¬ (k.1 ≤ most ∧ k.2.1 ≤ d) → Ex H3 H5 ∧ ∃ As : List Addr, H5 D = some (.lst (As.map V.ref)) ∧ ∃ ks : List (Nat × Nat × List (List Int)), LitAll H5 (ks.map dtK) (As.map V.ref) ∧ (∀ k ∈ ks, k ∈ kSmall ++ kLarge ∧ k.1 ≤ most ∧ k.2.1 ≤ d) ∧ ks.length ≤ i + 1 ∧ (1 < i + 1 → 1 ≤ ks.length) := fun nf => ⟨x4, As, hD, ks, lD, pk, by omega, keep nf⟩
      refine ⟨_, .inl (.inl hka), .int k.1, rfl, k.1, rfl, ite2 (fun c1 => ⟨_, .inl (.inl hka), .int k.2.1, rfl, k.2.1, rfl, ite2 (fun c2 => ?_) (fun c2 => ?_)⟩) (fun c1 => itFalse0 ?_)⟩
      · have c1 := of_decide_eq_true c1
        have c2 := of_decide_eq_true c2
        have lAs := lD.len
        rw [List.length_map] at lAs
        have k1 : LitAll H5 ((ks ++ [k]).map dtK) ((As ++ [ka]).map V.ref) := by
          rw [List.map_append, List.map_append]
          exact lD.app (.cons lv .nil)
        refine ⟨_, hD, by rw [List.length_map, lAs, List.length_map]; omega, x4.own nD, As ++ [ka], by rw [upd_same, List.map_append]; rfl, ks ++ [k], litAll_upd (fun b xs e z => by rw [z, hD] at e; cases e) k1, fun q hq => ?_, by rw [List.length_append]; show ks.length + 1 ≤ i + 1; omega, fun _ => by rw [List.length_append]; show 1 ≤ ks.length + 1; omega⟩
        rcases List.mem_append.mp hq with hq | hq
        · exact pk q hq
        · rw [List.mem_singleton.mp hq]
          exact ⟨List.mem_of_getElem? hk, by omega, by omega⟩
      · exact drop fun f => c2 (decide_eq_true (by omega))
      · exact drop fun f => c1 (decide_eq_true (by omega))
    · have nk1 : 1 ≤ ks.length := nk (by omega)
      have lAs : As.length = ks.length := by have := lD.len; rw [List.length_map, List.length_map] at this; exact this
      have xb4 := xb.trans x4
      refine ⟨r, s0, D, ns, As, rfl, xb4.row _ _ hR, xb4.l ints_norow hS, hD, by omega, by omega, fun ka H5 x5 hka => ?_⟩
      obtain ⟨dd, hdd, lv⟩ := lits_get lD hka
      obtain ⟨k, hk, rfl⟩ := List.mem_map.mp hdd
      obtain ⟨hk1, hk2, hk3⟩ := pk k hk
      obtain ⟨ka', kg, kAs, e, hka, hkg, kR⟩ := kn_of (lv.ex x5)
      cases e
      obtain ⟨G0, n1, n8, o168, g4⟩ := known_lim hk1
      generalize k.2.1 = n at hk3 hka G0 n1 n8
      generalize k.2.2 = gs at kR G0 g4
      generalize k.1 = m at hk2 hka G0 o168
      have x05 := xb4.trans x5
      refine ⟨ka, rfl, _, .inl (.inl hka), .int n, rfl, r, s0, n, ns, rfl, x05.row _ _ hR, x05.l ints_norow hS, n1, by omega, fun mv H6 h x6 hmv => ?_⟩
      have x06 := x05.trans x6
      have hka6 := x6.st _ _ hka trivial
      have hkg6 := x6.st _ _ hkg trivial
      have kR6 := kR.ex x6
      refine ⟨.ref ka, rfl, ka, _, 2, .ref kg, rfl, rfl, .inl (.inl hka6), rfl, kg, rfl, ⟨_, .inl (.inl hkg6)⟩, fun D2 nD2 => ?_⟩
      refine lc_it (walk_tup (xs := kAs.map V.ref)) (fun i H7 => Ex H6 H7 ∧ ∃ Bs : List Addr, H7 D2 = some (.lst (Bs.map V.ref)) ∧ RowsAt H7 Bs ((gs.take i).map (cjL h))) ⟨Ex.new nD2, [], upd_same, .nil⟩ (fun i H7 _ h => .inl (.inl (h.1.st _ _ hkg6 trivial))) (fun i x H7 H8 hi ⟨x7, Bs, hD2, RB⟩ ⟨e, hx⟩ => ?_) (fun H7 ⟨x7, Bs, hD2, RB⟩ => ?_)
      · subst e
        rw [List.length_map, kR.len] at hi
        have hg : gs[i]? = some gs[i] := List.getElem?_eq_getElem hi
        obtain ⟨c, hc, hc2⟩ := kR6.at_ i _ hg
        have hm : gs[i] ∈ gs := List.getElem_mem hi
        generalize gs[i] = g at hg hc2 hm
        have ex : x = .ref c := by
          rw [List.getElem?_map, hc] at hx
          exact (Option.some.inj hx).symm
        subst ex
        refine ⟨rfl, ?_⟩
        walk_at "sx"
        refine ⟨c, mv, n, g, h, rfl, ⟨x7.st _ _ hc2 trivial, G0.pm g hm⟩, hmv.ex x7, by omega, fun f H9 q x9 hf eq => ?_⟩
        have h9 := x9.st _ _ hD2 refs_norow
        have lB := RB.len
        rw [List.length_map, List.length_take] at lB
        have et : (gs.take (i + 1)).map (cjL h) = (gs.take i).map (cjL h) ++ [q] := by
          rw [List.take_add_one, hg, List.map_append, eq]
          rfl
        rw [et]
        refine ⟨_, h9, by rw [List.length_map]; omega, (x7.trans x9).own nD2, Bs ++ [f], by rw [upd_same, List.map_append]; rfl, ?_⟩
        exact ((RB.ex x9).more hf.at_).upd h9 (fun _ z => by cases z)
      · have eL : (kAs.map V.ref).length = gs.length := by rw [List.length_map, kR.len]
        rw [eL, List.take_of_length_le (Nat.le_refl _)] at RB
        have G1 := G0.conj hmv.is
        have l1 : (gs.map (cjL h)).length ≤ 4 := by rw [List.length_map]; exact g4
        generalize gs.map (cjL h) = gs1 at RB G1 l1
        have x07 := x06.trans x7
        have hka7 := x7.st _ _ hka6 trivial
        have fin : ∀ (l : Addr) (H8 : Hp) (Bs : List Addr) (gs2 : List (List Int)), Ex H7 H8 → H8 l = some (.lst (Bs.map V.ref)) → RowsAt H8 Bs gs2 → GrpL n gs2 m → gs2.length ≤ 6 → ∀ q, H8 q = none → 2 ≤ sizeLine ∧ ∀ p, upd H8 q (.tup (Bs.map V.ref)) p = none → Q (.ref p) (upd (upd H8 q (.tup (Bs.map V.ref))) p (.tup [.int n, .ref q])) := fun l H8 Bs gs2 x8 hl R8 G8 l6 q nq => by
          refine ⟨by omega, fun p np => ?_⟩
          have xq := Ex.new (o := .tup (Bs.map V.ref)) nq
          have xp := Ex.new (o := .tup [.int n, .ref q]) np
          exact z p _ n m gs2 ((x07.trans x8).trans (xq.trans xp)) ⟨q, Bs, upd_same, xp.st _ _ upd_same trivial, R8.ex (xq.trans xp)⟩ G8 hk2 o168 n1 hk3 n8 l6
        refine ⟨by omega, fun p np => ?_⟩
        have xp := Ex.new (o := .lst []) np
        have hDp := xp.st _ _ hD2 refs_norow
        refine ⟨_, _, .lst (sl_at hDp) (dpAll_rows (RB.ex xp)), dp_nil upd_same, shaped_rows _, rfl, _, rfl, ?_⟩
        rw [eqv_rows0]
        generalize upd H7 p (.lst []) = H8 at xp hDp ⊢
        have RB8 := RB.ex xp
        have x08 := x07.trans xp
        have hka8 := xp.st _ _ hka7 trivial
        refine twoK (G := ?G) (H := H8) (n := n) (m := m) (b := 5) ?rest (fun rest => ?main)
        case main =>
          have lBs := RB8.len
          refine ite2 (fun c => ?_) (fun c => itFalse0 ?_)
          · have gne : 1 ≤ Bs.length := by
              cases gs1 with
              | nil => cases c
              | cons _ _ => rw [lBs, List.length_cons]; omega
            refine ⟨r, s0, 3, ns, rfl, x08.row _ _ hR, x08.l ints_norow hS, by omega, by omega, fun j H9 x9 hj => ⟨rfl, ite2 (fun c3 => ?_) (fun c3 => ?_)⟩⟩
            · have x09 := x08.trans x9
              have hD9 := x9.st _ _ hDp refs_norow
              refine ⟨r, s0, D2, ns, Bs, rfl, x09.row _ _ hR, x09.l ints_norow hS, hD9, by omega, by omega, fun b1 H10 x10 hb1 => ?_⟩
              have x010 := x09.trans x10
              have hD10 := x10.st _ _ hD9 refs_norow
              refine ⟨r, s0, D2, ns, Bs, rfl, x010.row _ _ hR, x010.l ints_norow hS, hD10, by omega, by omega, fun b2 H11 x11 hb2 => ?_⟩
              have x8b := (x9.trans x10).trans x11
              have RB11 := RB8.ex x8b
              obtain ⟨g1, hg1, eg1⟩ := rows_get RB11 hb1
              obtain ⟨g2, hg2, eg2⟩ := rows_get RB11 hb2
              refine ⟨b1, b2, n, g1, g2, rfl, ⟨eg1, G1.pm g1 hg1⟩, ⟨eg2, G1.pm g2 hg2⟩, by omega, fun c4 H12 x12 hc4 => ⟨by omega, fun t nt => ?_⟩⟩
              have xt := Ex.new (o := .lst [V.ref c4]) nt
              have hDt := (x12.trans xt).st _ _ (x8b.st _ _ hDp refs_norow) refs_norow
              refine ⟨D2, t, _, _, rfl, rfl, hDt, upd_same, by rw [List.length_map]; show Bs.length + 1 ≤ sizeLine; omega, fun u nu => ?_⟩
              have eB : Bs.map V.ref ++ [V.ref c4] = (Bs ++ [c4]).map V.ref := by rw [List.map_append]; rfl
              rw [eB]
              have xu := Ex.new (o := .lst ((Bs ++ [c4]).map V.ref)) nu
              have hu : upd (upd H12 t (.lst [V.ref c4])) u (.lst ((Bs ++ [c4]).map V.ref)) u = some (.lst ((Bs ++ [c4]).map V.ref)) := upd_same
              have xx := ((x8b.trans x12).trans xt).trans xu
              have Ru := (RB8.ex xx).more ((xt.trans xu).st _ _ hc4.at_ trivial)
              generalize upd (upd H12 t (.lst [V.ref c4])) u (.lst ((Bs ++ [c4]).map V.ref)) = H13 at xx hu Ru ⊢
              exact rest u H13 _ xx ⟨⟨_, hu, Ru⟩, G1.more hg1 hg2⟩ (by rw [List.length_append]; show gs1.length + 1 ≤ 5; omega)
            · exact rest D2 H9 gs1 x9 ⟨⟨Bs, x9.st _ _ hDp refs_norow, RB8.ex x9⟩, G1⟩ (by omega)
          · exact rest D2 H8 gs1 (.refl _) ⟨⟨Bs, hDp, RB8⟩, G1⟩ (by omega)
        case rest =>
          intro l H9 gs2 x9 gl l5
          have x09 := x08.trans x9
          have x79 := xp.trans x9
          have hka9 := x9.st _ _ hka8 trivial
          refine ⟨r, s0, 8, ns, rfl, x09.row _ _ hR, x09.l ints_norow hS, by omega, by omega, fun j H10 x10 hj => ⟨rfl, ite2 (fun c8 => ?_) (fun c8 => ?_)⟩⟩
          · have hka10 := x10.st _ _ hka9 trivial
            refine ⟨ka, rfl, _, .inl (.inl hka10), .int n, rfl, n, rfl, by omega, fun u H11 x11 hu => ⟨by omega, fun t nt => ?_⟩⟩
            have xt := Ex.new (o := .lst [V.ref u]) nt
            obtain ⟨⟨Cs, hl, RC⟩, G2⟩ := (gl.ex (x10.trans x11)).ex xt
            have lC := RC.len
            refine ⟨t, l, _, _, rfl, rfl, upd_same, hl, by rw [List.length_map]; show 1 + Cs.length ≤ sizeLine; omega, fun v nv => ?_⟩
            have xv := Ex.new (o := .lst ([V.ref u] ++ Cs.map V.ref)) nv
            have hv : upd (upd H11 t (.lst [V.ref u])) v (.lst ([V.ref u] ++ Cs.map V.ref)) v = some (.lst ((u :: Cs).map V.ref)) := upd_same
            have Rv : RowsAt (upd (upd H11 t (.lst [V.ref u])) v (.lst ([V.ref u] ++ Cs.map V.ref))) (u :: Cs) (unitL n :: gs2) := rows_cons ((xt.trans xv).st _ _ hu.at_ trivial) (RC.ex xv)
            have xx := ((x79.trans x10).trans x11).trans (xt.trans xv)
            have hka11 := (x11.trans (xt.trans xv)).st _ _ hka10 trivial
            generalize upd (upd H11 t (.lst [V.ref u])) v (.lst ([V.ref u] ++ Cs.map V.ref)) = H12 at hv Rv xx hka11 ⊢
            exact ⟨ka, rfl, _, .inl (.inl hka11), .int n, rfl, .inl ⟨v, rfl, _, sl_at hv, fin v H12 _ _ xx hv Rv G2.unit (by rw [List.length_cons]; omega)⟩⟩
          · obtain ⟨⟨Cs, hl, RC⟩, G2⟩ := gl.ex x10
            have hka10 := x10.st _ _ hka9 trivial
            exact ⟨ka, rfl, _, .inl (.inl hka10), .int n, rfl, .inl ⟨l, rfl, _, sl_at hl, fin l H10 _ _ (x79.trans x10) hl RC G2 (by omega)⟩⟩
theorem twoC {G : Nat → Prop} {A : Prop} {b : Nat} (rest : ∀ c, c ≤ b → G c) (k : (∀ c, c ≤ b → G c) → A) : A := k rest
theorem itTrue0 {A B : Prop} (h : A) : if True then A else B := by rw [if_pos trivial]; exact h
theorem itFalse1 {A B : Prop} (h : B) : if False then A else B := by rw [if_neg id]; exact h
theorem ok__law_group (T : TX K mg base) : FnOk P w K mg base CX0 4 (He.ga K "_law_group") (fdK K "_law_group") ["row", "degree", "most"] (spLawGroup K) := by
  refine T.F__law_group.ok sc_law_group (fun vs H Q E h => ?_) (fun cdv A outer s H vs Q E hr h => ?_)
  · obtain ⟨r, s, ns, d, most, rfl, _⟩ := h
    rfl
  · obtain ⟨r, s0, ns, d, most, rfl, hR, hS, d1, m1, d2, m2, z⟩ := h
    refine ⟨_, (pss_cons (ps_if (PW.pt (pw_or (pt_cmpR op_eq (pe_call (ok__law_taken T) (hr.mono (by decide)) (by rfl) T.g__law_taken T.F__law_taken.kp T.b__law_taken .nil pass0 (pa_cons (pv 0) (pa_cons pe_int pa_nil))) pe_int (nomark _)) (pw_or1 (pt_cmpR op_lt (pv 2) pe_int (nomark _))))) (pss_one (ps_ret (pe_call (ok__law_known T) hr (by rfl) T.g__law_known T.F__law_known.kp T.b__law_known .nil pass0 (pa_cons (pv 0) (pa_cons (pv 1) (pa_cons (pv 2) pa_nil)))))) pss_nil)
      (pss_cons (ps_set (i := 3) sc_law_group.nd rfl (.inl rfl) (pe_callB (call_min2 rfl) (by rfl) T.n_min (by decide +kernel) (pa_cons (pv 1) (pa_cons (pe_ifExp (pt_cmpR op_ge (pv 2) pe_int (nomark _)) pe_int pe_int) pa_nil))))
      (pss_cons (ps_set (i := 4) sc_law_group.nd rfl (.inr rfl) (pe_op op_add pe_int (pe_call (ok__law_taken T) (hr.mono (by decide)) (by rfl) T.g__law_taken T.F__law_taken.kp T.b__law_taken .nil pass0 (pa_cons (pv 0) (pa_cons (pe_op op_sub (pv 3) pe_int) pa_nil)))))
      (pss_one (ps_ret (pe_tup (pa_cons (pv 4) (pa_cons (pe_tupK (K := K) rfl (by rfl) T.n_tuple (pe_lc (own := [("at", 5)]) (g := gName 5) (tt := tYes) rfl sc_law_group.nd (pi_range1 (by rfl) T.n_range (pa_cons (pe_op op_add (pe_call (ok__law_taken T) (hr.mono (by decide)) (by rfl) T.g__law_taken T.F__law_taken.kp T.b__law_taken .nil pass0 (pa_cons (pv 0) (pa_cons pe_int pa_nil))) (pe_ifExp (pt_cmpR op_gt (pv 4) pe_int (nomark _)) pe_int pe_int)) pa_nil)) (blkOk_by (N := ["row", "degree", "most", "few", "size", "at"]) (sc := defScope s_law_group) (by decide +kernel)) (fun _ _ _ _ _ => (pg_name (i := 5) sc_law_group.nd rfl (.inl rfl))) (fun _ _ _ _ _ => pts_nil) (fun _ _ _ _ _ => (pe_call (ok__law_perm T) (hr.mono (by decide)) (by rfl) T.g__law_perm T.F__law_perm.kp T.b__law_perm .nil pass0 (pa_cons (pv 0) (pa_cons (pv 4) pa_nil)))))) pa_nil)))))))), ?_⟩
    walk_at "sx"
    have line : (1000 : Nat) ≤ sizeLine := by decide
    refine ⟨r, s0, 2, ns, rfl, hR, hS, by omega, by omega, fun i H1 x1 hi => ⟨rfl, ?_⟩⟩
    have known : spLawKnown K [.ref r, .int d, .int most] H1 Q E0 := ⟨r, s0, ns, d, most, rfl, x1.row _ _ hR, x1.l ints_norow hS, by omega, m1, d2, m2, fun a H2 n m gs x2 g G => z a H2 n m gs (x1.trans x2) g G⟩
    refine ite2 (fun _ => itTrue0 known) (fun _ => ite2 (fun _ => known) (fun c24 => ?_))
    have c24 : 24 ≤ most := by
      by_cases h : 24 ≤ most
      · exact h
      · exact absurd (decide_eq_true (by omega)) c24
    refine ite2 (fun c120 => ?_) (fun c120 => ?_)
    · have c120 : 120 ≤ most := by
        have := of_decide_eq_true c120
        omega
      refine ⟨_, _, ⟨rfl, rfl⟩, ?_⟩
      obtain ⟨few, ef, f2, fc, fd⟩ : ∃ few : Nat, (if (5 : Int) < (d : Int) then (5 : Int) else (d : Int)) = few ∧ 2 ≤ few ∧ few ≤ 5 ∧ few ≤ d := by
        by_cases c : (5 : Int) < (d : Int)
        · exact ⟨5, by rw [if_pos c]; rfl, by omega, by omega, by omega⟩
        · exact ⟨d, by rw [if_neg c], by omega, by omega, by omega⟩
      rw [ef]
      refine ⟨r, s0, few - 1, ns, by rw [show ((few : Int) - 1) = ((few - 1 : Nat) : Int) by omega], x1.row _ _ hR, x1.l ints_norow hS, by omega, by omega, fun j H2 x2 hj => ⟨j, rfl, ?_⟩⟩
      obtain ⟨n, en, n2, nf⟩ : ∃ n : Nat, (2 + (j : Int)) = n ∧ 2 ≤ n ∧ n ≤ few := ⟨2 + j, by omega, by omega, by omega⟩
      rw [en]
      have x02 := x1.trans x2
      refine ⟨.ref r, rfl, r, s0, 3, ns, rfl, x02.row _ _ hR, x02.l ints_norow hS, by omega, by omega, fun k H3 x3 hk => ⟨.int n, rfl, n, 2, rfl, rfl, decide ((2 : Int) < n), rfl, ?_⟩⟩
      have x03 := x02.trans x3
      refine twoC (G := ?G5) (b := 4) ?rest5 (fun rest => ?main5)
      case main5 =>
        refine ite2 (fun _ => ⟨k, 1, rfl, rfl, (k : Int) + 1, rfl, by omega, by omega, ?_⟩) (fun _ => ⟨k, 0, rfl, rfl, (k : Int) + 0, rfl, by omega, by omega, ?_⟩)
        · obtain ⟨c, ec, hc⟩ : ∃ c : Nat, ((k : Int) + 1).toNat = c ∧ c ≤ 4 := ⟨k + 1, by omega, by omega⟩
          rw [ec]
          exact rest c hc
        · obtain ⟨c, ec, hc⟩ : ∃ c : Nat, ((k : Int) + 0).toNat = c ∧ c ≤ 4 := ⟨k, by omega, by omega⟩
          rw [ec]
          exact rest c hc
      case rest5 =>
        intro c c4
        refine fun D nD => ?_
        refine lc_it walk_range (fun i H4 => Ex H3 H4 ∧ ∃ (Bs : List Addr) (gs : List (List Int)), H4 D = some (.lst (Bs.map V.ref)) ∧ RowsAt H4 Bs gs ∧ (∀ g ∈ gs, IsPm n g) ∧ gs.length ≤ i) ⟨Ex.new nD, [], [], upd_same, .nil, (fun _ h => by cases h), Nat.le_refl _⟩ (fun _ _ _ _ => trivial) (fun i x H4 H5 hi ⟨x4, Bs, gs, hD, RB, pm, lg⟩ ⟨e, hx⟩ => ?_) (fun H4 ⟨x4, Bs, gs, hD, RB, pm, lg⟩ => ?_)
        · subst e hx
          refine ⟨rfl, ?_⟩
          walk_at "sx"
          have x04 := x03.trans x4
          refine ⟨r, s0, n, ns, rfl, x04.row _ _ hR, x04.l ints_norow hS, by omega, by omega, fun f H6 g x6 hf => ?_⟩
          have h6 := x6.st _ _ hD refs_norow
          have lB := RB.len
          refine ⟨_, h6, by rw [List.length_map]; omega, (x4.trans x6).own nD, Bs ++ [f], by rw [upd_same, List.map_append]; rfl, gs ++ [g], ((RB.ex x6).more hf.at_).upd h6 (fun _ z => by cases z), fun q hq => ?_, by rw [List.length_append]; show gs.length + 1 ≤ i + 1; omega⟩
          rcases List.mem_append.mp hq with hq | hq
          · exact pm q hq
          · rw [List.mem_singleton.mp hq]
            exact hf.is
        · have x04 := x03.trans x4
          refine .inl ⟨D, rfl, _, sl_at hD, fun q nq => ⟨by omega, fun p np => ?_⟩⟩
          have xq := Ex.new (o := .tup (Bs.map V.ref)) nq
          have xp := Ex.new (o := .tup [.int n, .ref q]) np
          have G := GrpL.few (by omega) (by omega) pm
          by_cases h4 : n ≤ 4
          · rw [if_pos h4] at G
            exact z p _ n 24 gs (x04.trans (xq.trans xp)) ⟨q, Bs, upd_same, xp.st _ _ upd_same trivial, RB.ex (xq.trans xp)⟩ G (by omega) (by omega) (by omega) (by omega) (by omega) (by omega)
          · rw [if_neg h4] at G
            exact z p _ n 120 gs (x04.trans (xq.trans xp)) ⟨q, Bs, upd_same, xp.st _ _ upd_same trivial, RB.ex (xq.trans xp)⟩ G (by omega) (by omega) (by omega) (by omega) (by omega) (by omega)
    · have c120 : ¬ 120 ≤ most := fun h => c120 (decide_eq_true (by omega))
      refine ⟨_, _, ⟨rfl, rfl⟩, ?_⟩
      obtain ⟨few, ef, f2, fc, fd⟩ : ∃ few : Nat, (if (4 : Int) < (d : Int) then (4 : Int) else (d : Int)) = few ∧ 2 ≤ few ∧ few ≤ 4 ∧ few ≤ d := by
        by_cases c : (4 : Int) < (d : Int)
        · exact ⟨4, by rw [if_pos c]; rfl, by omega, by omega, by omega⟩
        · exact ⟨d, by rw [if_neg c], by omega, by omega, by omega⟩
      rw [ef]
      refine ⟨r, s0, few - 1, ns, by rw [show ((few : Int) - 1) = ((few - 1 : Nat) : Int) by omega], x1.row _ _ hR, x1.l ints_norow hS, by omega, by omega, fun j H2 x2 hj => ⟨j, rfl, ?_⟩⟩
      obtain ⟨n, en, n2, nf⟩ : ∃ n : Nat, (2 + (j : Int)) = n ∧ 2 ≤ n ∧ n ≤ few := ⟨2 + j, by omega, by omega, by omega⟩
      rw [en]
      have x02 := x1.trans x2
      refine ⟨.ref r, rfl, r, s0, 3, ns, rfl, x02.row _ _ hR, x02.l ints_norow hS, by omega, by omega, fun k H3 x3 hk => ⟨.int n, rfl, n, 2, rfl, rfl, decide ((2 : Int) < n), rfl, ?_⟩⟩
      have x03 := x02.trans x3
      refine twoC (G := ?G4) (b := 4) ?rest4 (fun rest => ?main4)
      case main4 =>
        refine ite2 (fun _ => ⟨k, 1, rfl, rfl, (k : Int) + 1, rfl, by omega, by omega, ?_⟩) (fun _ => ⟨k, 0, rfl, rfl, (k : Int) + 0, rfl, by omega, by omega, ?_⟩)
        · obtain ⟨c, ec, hc⟩ : ∃ c : Nat, ((k : Int) + 1).toNat = c ∧ c ≤ 4 := ⟨k + 1, by omega, by omega⟩
          rw [ec]
          exact rest c hc
        · obtain ⟨c, ec, hc⟩ : ∃ c : Nat, ((k : Int) + 0).toNat = c ∧ c ≤ 4 := ⟨k, by omega, by omega⟩
          rw [ec]
          exact rest c hc
      case rest4 =>
        intro c c4
        refine fun D nD => ?_
        refine lc_it walk_range (fun i H4 => Ex H3 H4 ∧ ∃ (Bs : List Addr) (gs : List (List Int)), H4 D = some (.lst (Bs.map V.ref)) ∧ RowsAt H4 Bs gs ∧ (∀ g ∈ gs, IsPm n g) ∧ gs.length ≤ i) ⟨Ex.new nD, [], [], upd_same, .nil, (fun _ h => by cases h), Nat.le_refl _⟩ (fun _ _ _ _ => trivial) (fun i x H4 H5 hi ⟨x4, Bs, gs, hD, RB, pm, lg⟩ ⟨e, hx⟩ => ?_) (fun H4 ⟨x4, Bs, gs, hD, RB, pm, lg⟩ => ?_)
        · subst e hx
          refine ⟨rfl, ?_⟩
          walk_at "sx"
          have x04 := x03.trans x4
          refine ⟨r, s0, n, ns, rfl, x04.row _ _ hR, x04.l ints_norow hS, by omega, by omega, fun f H6 g x6 hf => ?_⟩
          have h6 := x6.st _ _ hD refs_norow
          have lB := RB.len
          refine ⟨_, h6, by rw [List.length_map]; omega, (x4.trans x6).own nD, Bs ++ [f], by rw [upd_same, List.map_append]; rfl, gs ++ [g], ((RB.ex x6).more hf.at_).upd h6 (fun _ z => by cases z), fun q hq => ?_, by rw [List.length_append]; show gs.length + 1 ≤ i + 1; omega⟩
          rcases List.mem_append.mp hq with hq | hq
          · exact pm q hq
          · rw [List.mem_singleton.mp hq]
            exact hf.is
        · have x04 := x03.trans x4
          refine .inl ⟨D, rfl, _, sl_at hD, fun q nq => ⟨by omega, fun p np => ?_⟩⟩
          have xq := Ex.new (o := .tup (Bs.map V.ref)) nq
          have xp := Ex.new (o := .tup [.int n, .ref q]) np
          have G := GrpL.few (by omega) (by omega) pm
          by_cases h4 : n ≤ 4
          · rw [if_pos h4] at G
            exact z p _ n 24 gs (x04.trans (xq.trans xp)) ⟨q, Bs, upd_same, xp.st _ _ upd_same trivial, RB.ex (xq.trans xp)⟩ G (by omega) (by omega) (by omega) (by omega) (by omega) (by omega)
          · rw [if_neg h4] at G
            exact z p _ n 120 gs (x04.trans (xq.trans xp)) ⟨q, Bs, upd_same, xp.st _ _ upd_same trivial, RB.ex (xq.trans xp)⟩ G (by omega) (by omega) (by omega) (by omega) (by omega) (by omega)
theorem ok__law_closure (T : TX K mg base) : FnOk P w K mg base CX0 2 (He.ga K "_law_closure") (fdK K "_law_closure") ["degree", "gens"] spClosureG := by
  refine T.F__law_closure.ok sc_law_closure (fun vs H Q E h => ?_) (fun cdv A outer s H vs Q E hr h => ?_)
  · obtain ⟨t, As0, n, m, gs, rfl, _⟩ := h
    rfl
  · obtain ⟨t, As0, n, m, gs, rfl, hT, hR0, hG, hm, h1, h12, lg, z⟩ := h
    refine ⟨_, (pss_cons (ps_par3 (i := 3) (j := 4) (l := 5) rfl sc_law_closure.nd rfl rfl rfl (by decide) (by decide) (by decide) rfl rfl rfl (pa_cons (pe_lst (pa_cons (pe_call (ok__law_unit T) hr (by rfl) T.g__law_unit T.F__law_unit.kp T.b__law_unit .nil pass0 (pa_cons (pv 0) pa_nil)) pa_nil)) (pa_cons (pe_dispT (hu_of hr) (pe_call (ok__law_unit T) hr (by rfl) T.g__law_unit T.F__law_unit.kp T.b__law_unit .nil pass0 (pa_cons (pv 0) pa_nil)) pe_int) (pa_cons pe_int pa_nil))) (by with_unfolding_all rfl))
      (pss_cons (ps_for PassesOwn.never rfl (pi_range1 (by rfl) T.n_range (pa_cons pe_int pa_nil)) (pg_name (i := 2) sc_law_closure.nd rfl (.inl rfl)) (pss_cons (ps_if (pt_cmpR op_eq (pv 5) (pe_callB (lenS (K := K) rfl) (by rfl) T.n_len PySem.boot_len (pa_cons (pv 3) pa_nil)) (nomark _)) (pss_one (ps_ret (pv 3))) pss_nil)
      (pss_cons (ps_for PassesOwn.never rfl (piT (K := K) rfl (pv 1)) (pg_name (i := 6) sc_law_closure.nd rfl (.inl rfl)) (pss_cons (ps_set (i := 7) sc_law_closure.nd rfl (.inl rfl) (pe_call (ok__law_mul T) hr (by rfl) T.g__law_mul T.F__law_mul.kp T.b__law_mul .nil pass0 (pa_cons (pe_ix (ixL (K := K) rfl) (pv 3) (pv 5) (fun _ _ => rfl)) (pa_cons (pv 6) pa_nil))))
      (pss_one (ps_if (pt_cmp (pc_dnotin (hu_of hr) (pv 7) (pv 4))) (pss_cons (ps_dput (hu_of hr) (pv 4) (pv 7) (pe_callB (lenS (K := K) rfl) (by rfl) T.n_len PySem.boot_len (pa_cons (pv 3) pa_nil)) rfl)
      (pss_one (ps_expr (pe_bm PySem.F.plainAttrs_list PySem.F.slot_list_append PySem.F.type_list_append mt_append (pv 3) (pa_cons (pv 7) pa_nil))))) pss_nil))))
      (pss_one (ps_set (i := 5) sc_law_closure.nd rfl (.inl rfl) (pe_op op_add (pv 5) pe_int))))))
      (pss_one (ps_ret (pv 3))))), ?_⟩
    simp only [tPar3, tDispT]
    walk_at "sx"
    refine ⟨.int n, rfl, n, rfl, by omega, fun u1 H1 x1 e1 => ⟨by show 1 ≤ sizeLine; decide, fun l nl => fun d nd => ?_⟩⟩
    have xl : Ex H1 (upd H1 l (.lst [.ref u1])) := Ex.new nl
    have xd := xl.trans (Ex.new (o := .dT []) nd)
    refine ⟨.int n, rfl, n, rfl, by omega, fun u2 H2 x2 e2 => ⟨x2.st _ _ upd_same trivial, u2, keyI (unitL n), rfl, by rw [keyI_at]; exact e2.at_, ?_⟩⟩
    walk_at "sx"
    refine ⟨_, _, _, ⟨rfl, rfl, rfl⟩, ?_⟩
    obtain ⟨H3, e3⟩ : ∃ H3, upd H2 d (.dT [(keyI (unitL n), .int 0)]) = H3 := ⟨_, rfl⟩
    rw [e3]
    have nl0' : H l = none := x1.no _ nl
    have nd0 := (x1.trans xl).no _ nd
    have nld : d ≠ l := fun z => by rw [z, upd_same] at nd; cases nd
    have l2 : H2 l = some (.lst ([u1].map V.ref)) := by
      refine x2.st _ _ ?_ (refs_norow (As := [u1]))
      rw [upd_ne (Ne.symm nld)]
      exact upd_same
    have x3 : Ex H H3 := by rw [← e3]; exact ((x1.trans xd).trans x2).own nd0
    have u1d : H2 u1 = some (.tup ((unitL n).map V.int)) := (xd.trans x2).st _ _ e1.at_ trivial
    have CS0 : CS H H3 l d n [u1] [unitL n] := by
      rw [← e3]
      have d2 : H2 d = some (.dT []) := x2.st _ _ upd_same trivial
      refine ⟨e3 ▸ x3, kp l2 d2 (fun z => by cases z), (RowsAt.nil.more (H := H2) (a := u1) u1d).upd d2 (fun _ z => by cases z), ⟨_, upd_same, rfl⟩, fun r hr => ?_⟩
      rw [List.mem_singleton.mp hr]
      exact unit_pm n
    refine ⟨2000, rfl, by omega, by omega, for_it walk_range (fun i σ H4 => ∃ y2 y6 y7 As L, σ = [some (.int n), some (.ref t), y2, some (.ref l), some (.ref d), some (.int (i : Nat)), y6, y7] ∧ CS H H4 l d n As L ∧ Cl' n gs L i)
      ⟨none, none, none, [u1], [unitL n], rfl, CS0, .start n gs⟩ (fun _ _ _ _ _ => trivial) (fun i x σ H4 H5 hi ⟨y2, y6, y7, As, L, es, C, cl⟩ ⟨e, ex⟩ => ?_) (fun σ H4 ⟨y2, y6, y7, As, L, es, C, cl⟩ => ?_)⟩
    · subst es e ex
      have hi : i < 2000 := hi
      have hAl : (As.map V.ref).length = L.length := by rw [List.length_map, C.rows.len]
      have rm := cl.room hG
      walk_at "sx"
      refine ⟨_, .inl (sl_at C.hl), rfl, ?_⟩
      rw [hAl]
      refine ite2 (fun c => ?_) (fun c => ?_)
      · have c := of_decide_eq_true c
        have c : i = L.length := by omega
        subst c
        exact z l H5 As L C.ex C.hl C.rows cl.done rm
      · have c : i ≠ L.length := fun h => c (by rw [h]; exact decide_eq_true rfl)
        have il := cl.le
        have lt : i < L.length := by omega
        obtain ⟨r, hr⟩ : ∃ r, L[i]? = some r := ⟨_, List.getElem?_eq_getElem lt⟩
        have tT : H5 t = some (.tup (As0.map V.ref)) := C.ex.st _ _ hT trivial
        have part := cl.part hG (List.mem_of_getElem? hr)
        refine ⟨.ref t, rfl, t, rfl, ⟨_, .inl (.inl tT)⟩, for_it (walk_tup (xs := As0.map V.ref)) (fun j σ H6 => ∃ y6 y7 As', σ = [some (.int n), some (.ref t), some (.int (0 + (i : Int))), some (.ref l), some (.ref d), some (.int (i : Nat)), y6, y7] ∧ CS H H6 l d n As' (addG r (gs.take j) L))
          ⟨y6, y7, As, rfl, C⟩ (fun j σ H6 _ ⟨_, _, _, _, C6⟩ => .inl (.inl (C6.ex.st _ _ hT trivial))) (fun j x σ H6 H7 hj ⟨y6, y7, As', es, C6⟩ ⟨e, hx⟩ => ?_) (fun σ H6 ⟨y6, y7, As', es, C6⟩ => ?_)⟩
        · subst es e
          rw [List.length_map, hR0.len] at hj
          obtain ⟨q, gq, eq, hq, tk⟩ : ∃ q gq, x = .ref q ∧ Pm H q n gq ∧ gs.take (j + 1) = gs.take j ++ [gq] := by
            have hg : gs[j]? = some gs[j] := List.getElem?_eq_getElem hj
            obtain ⟨q, hq, hq2⟩ := hR0.at_ j _ hg
            refine ⟨q, gs[j], ?_, ⟨hq2, hG.pm _ (List.getElem_mem hj)⟩, by rw [List.take_add_one, hg]; rfl⟩
            rw [List.getElem?_map, hq] at hx
            exact (Option.some.inj hx).symm
          subst eq
          rw [tk, addG_snoc]
          have lG := part j
          have hM := addG_get (x := r) (G := gs.take j) hr
          generalize addG r (gs.take j) L = M at C6 lG hM ⊢
          obtain ⟨ra, hra, rat⟩ := C6.rows.at_ i r hM
          have rp : IsPm n r := C6.pm r (List.mem_of_getElem? hM)
          walk_at "sx"
          refine ⟨_, sl_at C6.hl, .ref ra, atI_nat (by rw [List.getElem?_map, hra]; rfl), ra, q, n, r, gq, rfl, ⟨rat, rp⟩, hq.ex C6.ex, by omega, fun c H8 x8 hc => ?_⟩
          have C8 := C6.exx x8
          obtain ⟨kvs, hkv, hks⟩ := C8.hd
          have hcK : H8 c = some (.tup ((keyI (mulL r gq)).map kV)) := by rw [keyI_at]; exact hc.at_
          have has : (valV kvs (keyI (mulL r gq))).isSome = decide (mulL r gq ∈ M) := by
            rw [Bool.eq_iff_iff, decide_eq_true_iff, valV_mem, hks, mem_keys]
          refine ⟨.ref c, rfl, .ref d, rfl, d, _, rfl, DGet.t hkv hcK, _, rfl, ?_⟩
          rw [has]
          refine ite2 (fun cc => ?_) (fun cc => ?_)
          · have nm : mulL r gq ∉ M := fun z => by
              rw [decide_eq_true z] at cc
              cases cc
            have ea : addL M (mulL r gq) = M ++ [mulL r gq] := by
              unfold addL
              rw [if_neg nm]
            have nk : keyI (mulL r gq) ∉ kvs.map Prod.fst := by rw [hks, mem_keys]; exact nm
            have lk : kvs.length = M.length := by
              have z := congrArg List.length hks
              rwa [List.length_map, List.length_map] at z
            have hAl8 : (As'.map V.ref).length = M.length := by rw [List.length_map, C8.rows.len]
            have l4000 : M.length ≤ 4003 := by omega
            refine ⟨.ref l, rfl, l, rfl, _, .inl (sl_at C8.hl), .ref d, rfl, .ref c, rfl, d, _, rfl, DPut.t hkv hcK (by rw [lk]; exact Nat.lt_of_le_of_lt l4000 (by decide)), ?_⟩
            rw [putK_new _ nk]
            simp only [tBM, rAppend]
            walk_at "sx"
            simp only [tBM, rAppend]
            walk_at "sx"
            obtain ⟨H9, e9⟩ : ∃ H9, upd H8 d (.dT (kvs ++ [(keyI (mulL r gq), .int ((As'.map V.ref).length : Nat))])) = H9 := ⟨_, rfl⟩
            rw [e9]
            have l9 : H9 l = some (.lst (As'.map V.ref)) := by rw [← e9]; exact kp C8.hl hkv (fun z => by cases z)
            have d9 : H9 d = some (.dT (kvs ++ [(keyI (mulL r gq), .int ((As'.map V.ref).length : Nat))])) := by rw [← e9]; exact upd_same
            have x9 : Ex H H9 := by rw [← e9]; exact C8.ex.own nd0
            have c9 : H9 c = some (.tup ((mulL r gq).map V.int)) := by rw [← e9]; exact kp hc.at_ hkv (fun z => by cases z)
            have r9 : RowsAt H9 As' M := by rw [← e9]; exact C8.rows.upd hkv (fun _ z => by cases z)
            refine ⟨.inl ⟨rfl, _, sl_at l9⟩, _, l9, by rw [hAl8]; exact Nat.lt_of_le_of_lt l4000 (by decide), _, _, ⟨rfl, rfl⟩, As' ++ [c], ?_⟩
            rw [ea]
            refine ⟨x9.own nl0', by rw [upd_same, List.map_append]; rfl, (r9.upd l9 (fun _ z => by cases z)).more (kp c9 l9 (fun z => by cases z)), ⟨_, kp d9 l9 (fun z => by cases z), ?_⟩, fun s hs => ?_⟩
            · rw [List.map_append, hks, List.map_append]
              rfl
            · rcases List.mem_append.mp hs with z | z
              · exact C8.pm s z
              · rw [List.mem_singleton.mp z]; exact hc.is
          · have ym : mulL r gq ∈ M := by
              apply Classical.byContradiction
              intro z
              exact cc (by rw [decide_eq_false z]; rfl)
            have ea : addL M (mulL r gq) = M := by
              unfold addL
              rw [if_pos ym]
            rw [ea]
            exact ⟨_, _, ⟨rfl, rfl⟩, As', C8⟩
        · subst es
          walk_at "sx"
          have eT : gs.take (As0.map V.ref).length = gs := by rw [List.length_map, hR0.len, List.take_of_length_le (Nat.le_refl _)]
          rw [eT] at C6
          exact ⟨_, _, _, ⟨rfl, rfl, rfl, rfl⟩, As', addG r gs L, C6, cl.step hG.pm hr⟩
    · subst es
      have rm := cl.room hG
      have := cl.le
      have h2000 : (2000 : Int).toNat = 2000 := rfl
      omega
theorem ok__law_base (T : TX K mg base) : FnOk P w K mg base CX0 1 (He.ga K "_law_base") (fdK K "_law_base") ["every", "degree", "prefix"] (spLawBase K) := by
  refine T.F__law_base.ok sc_law_base (fun vs H Q E h => ?_) (fun cdv A outer s H vs Q E hr h => ?_)
  · obtain ⟨c, b, n, As, C, pre, rfl, _⟩ := h
    rfl
  · obtain ⟨c, b, n, As, C, pre, rfl, hc, hC, pmC, one, lC, hb, nd, bd, n12, z⟩ := h
    refine ⟨_, (pss_cons (ps_asg (pe_tup (pa_cons (pe_lst pa_nil) (pa_cons (pe_lst pa_nil) (pa_cons (pv 0) pa_nil)))) (pg_tup rfl (pgs_cons (pg_name (i := 4) sc_law_base.nd rfl (.inr rfl)) (pgs_cons (pg_name (i := 5) sc_law_base.nd rfl (.inl rfl)) (pgs_cons (pg_name (i := 6) sc_law_base.nd rfl (.inr rfl)) pgs_nil)))))
      (pss_cons (ps_for PassesOwn.never rfl (pi_range1 (by rfl) T.n_range (pa_cons (pe_op op_mul pe_int (pv 1)) pa_nil)) (pg_name (i := 3) sc_law_base.nd rfl (.inl rfl)) (pss_cons (ps_setLc (i := 7) (own := [("x", 8)]) (g := gName 8)  rfl sc_law_base.nd rfl rfl (sw_true rfl rfl rfl (by decide +kernel)) (pi_range1 (by rfl) T.n_range (pa_cons (pv 1) pa_nil)) (blkOk_by (N := ["every", "degree", "prefix", "turn", "points", "sizes", "left", "moved", "x", "p"]) (sc := defScope s_law_base) (by decide +kernel)) (fun _ _ _ _ _ => (pg_name (i := 8) sc_law_base.nd rfl (.inr rfl))) (fun _ _ _ _ _ => (pts_one (pt_cmpR (neD (K := K) rfl hr) (pe_lc (own := [("p", 9)]) (g := gName 9)  rfl sc_law_base.nd (piL (K := K) rfl (pv 6)) (blkOk_f (N := ["every", "degree", "prefix", "turn", "points", "sizes", "left", "moved", "x", "p"]) ["x"] (by decide +kernel) (List.forall_mem_cons.mpr ⟨by first | exact .inl rfl | exact .inr rfl, (fun _ h => by cases h)⟩)) (fun _ _ _ _ _ => (pg_name (i := 9) sc_law_base.nd rfl (.inl rfl))) (fun _ _ _ _ _ => (pts_one (pt_cmpR op_ne (pe_ix (ixT (K := K) rfl) (pv 9) (pv 8) (fun _ _ => rfl)) (pv 8) (nomark _)))) (fun _ _ _ _ _ => (pv 9))) (pe_lst pa_nil) (nomark _)))) (fun _ _ _ _ _ => (pv 8)))
      (pss_one (ps_if (PW.pt (pw_or (pt_cmpR op_lt (pv 3) (pe_callB (lenS (K := K) rfl) (by rfl) T.n_len PySem.boot_len (pa_cons (pv 2) pa_nil)) (nomark _)) (pw_or1 (pt_cmpR (neD (K := K) rfl hr) (pv 7) (pe_lst pa_nil) (nomark _))))) (pss_cons (ps_expr (pe_bm PySem.F.plainAttrs_list PySem.F.slot_list_append PySem.F.type_list_append mt_append (pv 4) (pa_cons (pe_ifExp (pt_cmpR op_lt (pv 3) (pe_callB (lenS (K := K) rfl) (by rfl) T.n_len PySem.boot_len (pa_cons (pv 2) pa_nil)) (nomark _)) (pe_ix (ixT (K := K) rfl) (pv 2) (pv 3) (fun _ _ => rfl)) (pe_ix (ixL (K := K) rfl) (pv 7) pe_int (fun _ _ => rfl))) pa_nil)))
      (pss_cons (ps_expr (pe_bm PySem.F.plainAttrs_list PySem.F.slot_list_append PySem.F.type_list_append mt_append (pv 5) (pa_cons (pe_lenSetL (by rfl) T.n_len (by rfl) T.n_set (pe_lc (own := [("p", 9)]) (g := gName 9) (tt := tYes) rfl sc_law_base.nd (piL (K := K) rfl (pv 6)) (blkOk_by (N := ["every", "degree", "prefix", "turn", "points", "sizes", "left", "moved", "x", "p"]) (sc := defScope s_law_base) (by decide +kernel)) (fun _ _ _ _ _ => (pg_name (i := 9) sc_law_base.nd rfl (.inl rfl))) (fun _ _ _ _ _ => pts_nil) (fun _ _ _ _ _ => (pe_ix (ixT (K := K) rfl) (pv 9) (pe_ix (ixL (K := K) rfl) (pv 4) (pe_un un_neg pe_int) (fun _ _ => rfl)) (fun _ _ => rfl))))) pa_nil)))
      (pss_one (ps_set (i := 6) sc_law_base.nd rfl (.inr rfl) (pe_lc (own := [("p", 9)]) (g := gName 9)  rfl sc_law_base.nd (piL (K := K) rfl (pv 6)) (blkOk_by (N := ["every", "degree", "prefix", "turn", "points", "sizes", "left", "moved", "x", "p"]) (sc := defScope s_law_base) (by decide +kernel)) (fun _ _ _ _ _ => (pg_name (i := 9) sc_law_base.nd rfl (.inl rfl))) (fun _ _ _ _ _ => (pts_one (pt_cmpR op_eq (pe_ix (ixT (K := K) rfl) (pv 9) (pe_ix (ixL (K := K) rfl) (pv 4) (pe_un un_neg pe_int) (fun _ _ => rfl)) (fun _ _ => rfl)) (pe_ix (ixL (K := K) rfl) (pv 4) (pe_un un_neg pe_int) (fun _ _ => rfl)) (nomark _)))) (fun _ _ _ _ _ => (pv 9))))))) pss_nil))))
      (pss_one (ps_ret (pe_tup (pa_cons (pe_tupK (K := K) rfl (by rfl) T.n_tuple (pv 4)) (pa_cons (pe_tupK (K := K) rfl (by rfl) T.n_tuple (pv 5)) pa_nil))))))), ?_⟩
    walk_at "so"
    have line : (1000 : Nat) ≤ sizeLine := by decide
    refine ⟨Nat.zero_le _, fun LP nP => ⟨Nat.zero_le _, fun LS nS => ⟨by show 3 ≤ sizeLine; omega, fun t0 nt => ?_⟩⟩⟩
    refine ⟨_, sq_new, rfl, _, _, rfl, _, _, rfl, _, _, rfl, rfl, ?_⟩
    have xP := Ex.new (o := .lst []) nP
    have hP0 : upd H LP (.lst []) LP = some (.lst []) := upd_same
    have xS := Ex.new (o := .lst []) nS
    have nS0 : H LS = none := xP.no _ nS
    have hP1 : upd (upd H LP (.lst [])) LS (.lst []) LP = some (.lst []) := by rw [upd_ne (ne_of_none hP0 nS)]; exact hP0
    have hS1 : upd (upd H LP (.lst [])) LS (.lst []) LS = some (.lst []) := upd_same
    have x1 := xP.trans xS
    have dPS : LP ≠ LS := ne_of_none hP0 nS
    generalize upd (upd H LP (.lst [])) LS (.lst []) = H1 at nt xS hP1 hS1 x1 ⊢
    have xt := Ex.new (o := .tup [.ref LP, .ref LS, .ref c]) nt
    have hP2 : upd H1 t0 (.tup [.ref LP, .ref LS, .ref c]) LP = some (.lst []) := by rw [upd_ne (fun q => by rw [q, nt] at hP1; cases hP1)]; exact hP1
    have hS2 : upd H1 t0 (.tup [.ref LP, .ref LS, .ref c]) LS = some (.lst []) := by rw [upd_ne (fun q => by rw [q, nt] at hS1; cases hS1)]; exact hS1
    have x2 := x1.trans xt
    generalize upd H1 t0 (.tup [.ref LP, .ref LS, .ref c]) = H2 at xt hP2 hS2 x2 ⊢
    have hm : pre.length ≤ (pre ++ othersP n pre).length := by rw [List.length_append]; omega
    have lpn := others_len nd bd
    have bdA : ∀ x ∈ pre ++ othersP n pre, x < n := fun x hx => (List.mem_append.mp hx).elim (bd x) fun h => List.mem_range.mp (List.mem_filter.mp h).1
    have asc : ((pre ++ othersP n pre).drop pre.length).Pairwise (· < ·) := by
      rw [List.drop_left]
      exact List.Pairwise.filter _ List.pairwise_lt_range
    have cov := covers_others n pre
    have pmU : unitL n ∈ C := one
    have zero : ∀ k, k < pre.length → (pre ++ othersP n pre)[k]? = pre[k]? := fun k hk => List.getElem?_append_left hk
    generalize pre ++ othersP n pre = pts at hm lpn bdA asc cov zero z
    refine ⟨_, rfl, 2, n, rfl, rfl, .inl ⟨by omega, by omega⟩, 2 * n, rfl, by omega, by omega, ?_⟩
    have e2n : (2 * (n : Int)).toNat = 2 * n := by omega
    refine for_it walk_range (fun j σ H3 => ∃ (LL : Addr) (y3 y7 y8 y9 : Option V) (P : List (Nat × Nat)) (L : List (List Int)) (Bs : List Addr), σ = [some (.ref c), some (.int n), some (.ref b), y3, some (.ref LP), some (.ref LS), some (.ref LL), y7, y8, y9] ∧ Ex H H3 ∧
        H3 LP = some (.lst ((P.map fun q => (q.1 : Int)).map V.int)) ∧ H3 LS = some (.lst ((P.map fun q => (q.2 : Int)).map V.int)) ∧ H3 LL = some (.lst (Bs.map V.ref)) ∧ RowsAt H3 Bs L ∧ LL ≠ LP ∧ LL ≠ LS ∧ P.length ≤ j ∧ L.length ≤ 1000 ∧ (∀ p ∈ L, IsPm n p) ∧ LBs n C pts pre.length j P L)
      ⟨c, none, none, none, none, [], C, As, rfl, x2, hP2, hS2, x2.st _ _ hc refsM, hC.ex x2, (fun q => by rw [q, nP] at hc; cases hc), (fun q => by rw [q, nS0] at hc; cases hc), Nat.le_refl _, lC, pmC, LBs.start hm⟩ (fun _ _ _ _ _ => trivial)
      (fun j x σ H3 H4 hj ⟨LL, y3, y7, y8, y9, P, L, Bs, es, x3, hP, hS, hL, RL, dP, dS, lP, lL, pmL, lb⟩ ⟨e, ex⟩ => ?_) (fun σ H3 ⟨LL, y3, y7, y8, y9, P, L, Bs, es, x3, hP, hS, hL, RL, dP, dS, lP, lL, pmL, lb⟩ => ?_)
    · subst es e ex
      rw [e2n] at hj
      walk_at "so"
      have hb4 : SqT K H4 b (pre.map fun x : Nat => V.int x) := x3.t (.inl (.inl hb))
      refine ⟨_, rfl, n, rfl, by omega, by omega, fun D1 nD1 => ?_⟩
      have en : ((n : Int)).toNat = n := by omega
      refine lc_it walk_range (fun i H5 => Ex H4 H5 ∧ H5 D1 = some (.lst ((((List.range i).filter fun x => L.any fun p => decide (imN p x ≠ x)).map fun x : Nat => (x : Int)).map V.int))) ⟨Ex.new nD1, upd_same⟩ (fun _ _ _ _ => trivial) (fun i v H5 H6 hi ⟨x5, hD1⟩ ⟨e, hv⟩ => ?_) (fun H5 ⟨x5, hD1⟩ => ?_)
      · subst e hv
        rw [en] at hi
        have er : ((List.range (i + 1)).filter fun x => L.any fun p => decide (imN p x ≠ x)) = ((List.range i).filter fun x => L.any fun p => decide (imN p x ≠ x)) ++ (if (L.any fun p => decide (imN p i ≠ i)) = true then [i] else []) := by
          rw [List.range_succ, List.filter_append]
          congr 1
          by_cases c : (L.any fun p => decide (imN p i ≠ i)) = true
          · rw [if_pos c]
            exact List.filter_cons_of_pos c
          · rw [if_neg c]
            exact List.filter_cons_of_neg c
        have lf : ((List.range i).filter fun x => L.any fun p => decide (imN p x ≠ x)).length ≤ i := Nat.le_trans (List.length_filter_le ..) (by rw [List.length_range]; exact Nat.le_refl _)
        rw [er]
        generalize ((List.range i).filter fun x => L.any fun p => decide (imN p x ≠ x)) = Y at hD1 lf ⊢
        have lBs := RL.len
        have hL6 := x5.st _ _ hL refsM
        have RL6 := RL.ex x5
        refine ⟨rfl, ?_⟩
        walk_at "so"
        refine ⟨_, rfl, LL, rfl, ⟨_, sl_at hL6⟩, fun D2 nD2 => ?_⟩
        refine lc_it (walk_list (xs := Bs.map V.ref)) (fun k H7 => Ex H6 H7 ∧ ∃ Cs : List Addr, H7 D2 = some (.lst (Cs.map V.ref)) ∧ RowsAt H7 Cs ((L.take k).filter fun p => decide (imN p i ≠ i))) ⟨Ex.new nD2, [], upd_same, .nil⟩ (fun k H7 _ h => sl_at (h.1.st _ _ hL6 refsM)) (fun k v H7 H8 hk ⟨x7, Cs, hD2, RC⟩ ⟨e, hx⟩ => ?_) (fun H7 ⟨x7, Cs, hD2, RC⟩ => ?_)
        · subst e
          rw [List.length_map, lBs] at hk
          have hE : L[k]? = some L[k] := List.getElem?_eq_getElem hk
          obtain ⟨a, ha, ha2⟩ := RL6.at_ k _ hE
          have pp := pmL _ (List.getElem_mem hk)
          have et : ((L.take (k + 1)).filter fun p => decide (imN p i ≠ i)) = ((L.take k).filter fun p => decide (imN p i ≠ i)) ++ (if imN L[k] i ≠ i then [L[k]] else []) := by
            rw [List.take_add_one, hE, List.filter_append]
            congr 1
            by_cases c : imN L[k] i ≠ i
            · rw [if_pos c]
              exact List.filter_cons_of_pos (decide_eq_true c)
            · rw [if_neg c]
              exact List.filter_cons_of_neg (by rw [decide_eq_true_iff]; exact c)
          have lt : ((L.take k).filter fun p => decide (imN p i ≠ i)).length ≤ k := Nat.le_trans (List.length_filter_le ..) (by rw [List.length_take]; omega)
          rw [et]
          generalize ((L.take k).filter fun p => decide (imN p i ≠ i)) = Z at RC lt ⊢
          generalize L[k] = p0 at ha2 pp ⊢
          have ev : v = .ref a := by
            rw [List.getElem?_map, ha] at hx
            exact (Option.some.inj hx).symm
          subst ev
          obtain ⟨eq, lq⟩ := imN_at pp hi
          have hat : atI (p0.map V.int) (0 + (i : Int)) = some (.int (imN p0 i)) := at_int (by omega) (by rw [show (0 + (i : Int)).toNat = i by omega]; exact eq)
          have ha7 := x7.st _ _ ha2 trivial
          refine ⟨rfl, ?_⟩
          walk_at "so"
          have ed : decide (V.int (imN p0 i : Int) = V.int (0 + (i : Int))) = decide (imN p0 i = i) := decide_eq_decide.mpr ⟨fun e => by injection e with e; omega, fun e => by rw [Int.zero_add, e]⟩
          refine ⟨_, .inl (.inl ha7), _, hat, rfl, ?_⟩
          rw [ed]
          by_cases c : imN p0 i = i
          · rw [decide_eq_true c, if_neg (by decide), if_neg (fun h => h c), List.append_nil]
            exact ⟨x7, Cs, hD2, RC⟩
          · rw [decide_eq_false c, if_pos (by decide), if_pos c]
            exact ⟨_, hD2, by rw [List.length_map, RC.len]; omega, x7.own nD2, Cs ++ [a], by rw [upd_same, List.map_append]; rfl, (RC.more ha7).upd hD2 fun _ z => by cases z⟩
        · rw [List.length_map, lBs, List.take_of_length_le (Nat.le_refl _)] at RC
          refine ⟨Nat.zero_le _, fun p np => ?_⟩
          have xp := Ex.new (o := .lst []) np
          have ea : (!decide ((L.filter fun p => decide (imN p i ≠ i)) = [])) = L.any fun p => decide (imN p i ≠ i) := by
            rw [Bool.eq_iff_iff, List.any_eq_true, Bool.not_eq_true', decide_eq_false_iff_not, List.filter_eq_nil_iff]
            simp
          refine ne_nilR (xp.st _ _ hD2 refsM) (RC.ex xp) upd_same ⟨_, rfl, ?_⟩
          rw [ea]
          have hD1p := (x7.trans xp).st _ _ hD1 ints_norow
          have x4p := x5.trans (x7.trans xp)
          by_cases c : (L.any fun p => decide (imN p i ≠ i)) = true
          · rw [if_pos c, if_pos c]
            exact ⟨_, hD1p, by rw [List.length_map, List.length_map]; omega, x4p.own nD1, by rw [upd_same, List.map_append, List.map_append, Int.zero_add]; rfl⟩
          · rw [if_neg c, if_neg c, List.append_nil]
            exact ⟨x4p, hD1p⟩
      · rw [en] at hD1
        have hD1 : H5 D1 = some (.lst (((movL n L).map fun x : Nat => (x : Int)).map V.int)) := hD1
        refine ⟨_, .inr (x5.t hb4), ?_⟩
        rw [List.length_map]
        have x05 := x3.trans x5
        have hP5 := x5.st _ _ hP ints_norow
        have hS5 := x5.st _ _ hS ints_norow
        have hL5 := x5.st _ _ hL refsM
        have RL5 := RL.ex x5
        have hb5 := x5.t hb4
        clear hP hS hL RL hb4 nD1
        by_cases c : j < pre.length
        rotate_left
        rw [if_neg (by rw [decide_eq_true_iff]; omega)]
        refine ⟨Nat.zero_le _, fun p np => ?_⟩
        have xp := Ex.new (o := .lst []) np
        refine ne_nil (xp.st _ _ hD1 ints_norow) upd_same ⟨_, rfl, ?_⟩
        have xk := x05.trans xp
        have hPk := xp.st _ _ hP5 ints_norow
        have hSk := xp.st _ _ hS5 ints_norow
        have hLk := xp.st _ _ hL5 refsM
        have hDk := xp.st _ _ hD1 ints_norow
        have RLk := RL5.ex xp
        have hbk := xp.t hb5
        generalize upd H5 p (.lst []) = Hk at xk hPk hSk hLk hDk RLk hbk ⊢
        rcases hmv : movL n L with _ | ⟨x, r⟩
        · rw [if_neg (by decide)]
          exact ⟨LL, _, _, _, _, ⟨rfl, rfl, rfl, rfl, rfl⟩, xk, P, hPk, hSk, L, Bs, hLk, RLk, dP, dS, by omega, lL, pmL, lb.stay (by omega) bdA hmv⟩
        rw [if_pos (by simp)]
        have lbN := lb.next (by omega) (pmU) cov bdA asc hmv
        have xn : x < n := (mem_mov.mp (by rw [hmv]; exact List.mem_cons_self ..)).1
        rw [hmv] at hDk
        unfold tBM
        walk_at "so"
        refine ⟨.inl ⟨rfl, _, sl_at hPk⟩, _, .inr hbk, ?_⟩
        rw [if_neg (by rw [decide_eq_true_iff, List.length_map]; omega)]
        refine ⟨_, sl_at hDk, _, atI_nat (j := 0) rfl, LP, _, _, rfl, rfl, hPk, by rw [List.length_map, List.length_map]; omega, ?_⟩
        rotate_left
        rw [if_pos (decide_eq_true (by omega)), if_pos trivial]
        obtain ⟨x, hx⟩ : ∃ x, pre[j]? = some x := ⟨_, List.getElem?_eq_getElem c⟩
        have lbN := lb.pre c hm (by rw [zero j c]; exact hx)
        have xn : x < n := bd x (List.mem_of_getElem? hx)
        obtain ⟨Hk, eHk⟩ : ∃ Hk, Hk = H5 := ⟨_, rfl⟩
        rw [← eHk] at x05 hP5 hS5 hL5 RL5 hb5 ⊢
        have xk := x05
        have hPk := hP5
        have hSk := hS5
        have hLk := hL5
        have RLk := RL5
        have hbk := hb5
        unfold tBM
        walk_at "so"
        refine ⟨.inl ⟨rfl, _, sl_at hPk⟩, _, .inr hbk, ?_⟩
        rw [if_pos (by rw [decide_eq_true_iff, List.length_map]; omega)]
        refine ⟨_, hbk, .int (x : Int), ?_, LP, _, _, rfl, rfl, hPk, by rw [List.length_map, List.length_map]; omega, ?_⟩
        · rw [Int.zero_add]
          exact atI_nat (by rw [List.getElem?_map, hx]; rfl)
        all_goals
          show tyV _ "list" (V.ref LS) (upd Hk LP (.lst (((P.map fun q => (q.1 : Int)).map V.int) ++ [.int (x : Int)]))) ∧ tLenSetL _ _ _ _ _
          have xA : Ex H (upd Hk LP (.lst (((P.map fun q => (q.1 : Int)).map V.int) ++ [.int (x : Int)]))) := xk.own nP
          have hPA : upd Hk LP (.lst (((P.map fun q => (q.1 : Int)).map V.int) ++ [.int (x : Int)])) LP = some (.lst (((P.map fun q => (q.1 : Int)).map V.int) ++ [.int (x : Int)])) := upd_same
          have hSA : upd Hk LP (.lst (((P.map fun q => (q.1 : Int)).map V.int) ++ [.int (x : Int)])) LS = some (.lst ((P.map fun q => (q.2 : Int)).map V.int)) := by rw [upd_ne (Ne.symm dPS)]; exact hSk
          have hLA : upd Hk LP (.lst (((P.map fun q => (q.1 : Int)).map V.int) ++ [.int (x : Int)])) LL = some (.lst (Bs.map V.ref)) := by rw [upd_ne dP]; exact hLk
          have RA : RowsAt (upd Hk LP (.lst (((P.map fun q => (q.1 : Int)).map V.int) ++ [.int (x : Int)]))) Bs L := RLk.upd hPk fun _ z => by cases z
          generalize upd Hk LP (.lst (((P.map fun q => (q.1 : Int)).map V.int) ++ [.int (x : Int)])) = HA at xA hPA hSA hLA RA ⊢
          have nrP : GA.Stable (.lst (((P.map fun q => (q.1 : Int)).map V.int) ++ [.int (x : Int)])) := by
            have := ints_norow (ns := (P.map fun q => (q.1 : Int)) ++ [(x : Int)])
            rw [List.map_append] at this
            exact this
          have lBs := RA.len
          refine ⟨.inl ⟨rfl, _, sl_at hSA⟩, _, rfl, LL, rfl, ⟨_, sl_at hLA⟩, fun D2 nD2 => ?_⟩
          refine lc_it (walk_list (xs := Bs.map V.ref)) (fun k H7 => Ex HA H7 ∧ H7 D2 = some (.lst (((L.take k).map fun p => (imN p x : Int)).map V.int))) ⟨Ex.new nD2, upd_same⟩ (fun k H7 _ h => sl_at (h.1.st _ _ hLA refsM)) (fun k v H7 H8 hk ⟨x7, hD2⟩ ⟨e, hv⟩ => ?_) (fun H7 ⟨x7, hD2⟩ => ?_)
          · subst e
            rw [List.length_map, lBs] at hk
            have hE : L[k]? = some L[k] := List.getElem?_eq_getElem hk
            obtain ⟨a, ha, ha2⟩ := RA.at_ k _ hE
            have pp := pmL _ (List.getElem_mem hk)
            have et : (L.take (k + 1)).map (fun p => (imN p x : Int)) = (L.take k).map (fun p => (imN p x : Int)) ++ [(imN L[k] x : Int)] := by
              rw [List.take_add_one, hE, List.map_append]
              rfl
            have lt : ((L.take k).map fun p => (imN p x : Int)).length ≤ k := by rw [List.length_map, List.length_take]; omega
            rw [et]
            generalize (L.take k).map (fun p => (imN p x : Int)) = Z at hD2 lt ⊢
            generalize L[k] = p0 at ha2 pp ⊢
            have ev : v = .ref a := by
              rw [List.getElem?_map, ha] at hv
              exact (Option.some.inj hv).symm
            subst ev
            obtain ⟨eq, lq⟩ := imN_at pp xn
            have hat : atI (p0.map V.int) (x : Int) = some (.int (imN p0 x)) := at_int (by omega) (by rw [show ((x : Int)).toNat = x by omega]; exact eq)
            have ha7 := x7.st _ _ ha2 trivial
            refine ⟨rfl, yesI ?_⟩
            walk_at "so"
            exact ⟨1, rfl, _, -1, rfl, sl_at (x7.st _ _ hPA nrP), _, last_at, _, (x : Int), rfl, .inl (.inl ha7), _, hat, _, hD2, by rw [List.length_map]; omega, x7.own nD2, by rw [upd_same, List.map_append]; rfl⟩
          · rw [List.length_map, lBs, List.take_of_length_le (Nat.le_refl _)] at hD2
            refine ⟨D2, _, rfl, sl_at hD2, by rw [List.length_map]; omega, fun ks nd mk => ?_⟩
            rw [osz_ints nd mk]
            have hS7 := x7.st _ _ hSA ints_norow
            have hP7 := x7.st _ _ hPA nrP
            have hL7 := x7.st _ _ hLA refsM
            have R7 := RA.ex x7
            refine ⟨LS, _, _, rfl, rfl, hS7, by rw [List.length_map, List.length_map]; omega, ?_⟩
            have xB : Ex H (upd H7 LS (.lst (((P.map fun q => (q.2 : Int)).map V.int) ++ [.int (oszL L x : Int)]))) := (xA.trans x7).own nS0
            have hSB : upd H7 LS (.lst (((P.map fun q => (q.2 : Int)).map V.int) ++ [.int (oszL L x : Int)])) LS = some (.lst (((P.map fun q => (q.2 : Int)).map V.int) ++ [.int (oszL L x : Int)])) := upd_same
            have hPB : upd H7 LS (.lst (((P.map fun q => (q.2 : Int)).map V.int) ++ [.int (oszL L x : Int)])) LP = some (.lst (((P.map fun q => (q.1 : Int)).map V.int) ++ [.int (x : Int)])) := by rw [upd_ne dPS]; exact hP7
            have hLB : upd H7 LS (.lst (((P.map fun q => (q.2 : Int)).map V.int) ++ [.int (oszL L x : Int)])) LL = some (.lst (Bs.map V.ref)) := by rw [upd_ne dS]; exact hL7
            have RB : RowsAt (upd H7 LS (.lst (((P.map fun q => (q.2 : Int)).map V.int) ++ [.int (oszL L x : Int)]))) Bs L := R7.upd hS7 fun _ z => by cases z
            show tLc _ _ _ _ _ _ (upd H7 LS (.lst (((P.map fun q => (q.2 : Int)).map V.int) ++ [.int (oszL L x : Int)]))) _
            generalize upd H7 LS (.lst (((P.map fun q => (q.2 : Int)).map V.int) ++ [.int (oszL L x : Int)])) = HB at xB hSB hPB hLB RB ⊢
            have nrS : GA.Stable (.lst (((P.map fun q => (q.2 : Int)).map V.int) ++ [.int (oszL L x : Int)])) := by
              have := ints_norow (ns := (P.map fun q => (q.2 : Int)) ++ [(oszL L x : Int)])
              rw [List.map_append] at this
              exact this
            refine ⟨_, rfl, LL, rfl, ⟨_, sl_at hLB⟩, fun D3 nD3 => ?_⟩
            have d3P := Ne.symm (ne_of_none hPB nD3)
            have d3S := Ne.symm (ne_of_none hSB nD3)
            refine lc_it (walk_list (xs := Bs.map V.ref)) (fun k H8 => Ex HB H8 ∧ ∃ Cs : List Addr, H8 D3 = some (.lst (Cs.map V.ref)) ∧ RowsAt H8 Cs ((L.take k).filter fun p => decide (imN p x = x))) ⟨Ex.new nD3, [], upd_same, .nil⟩ (fun k H8 _ h => sl_at (h.1.st _ _ hLB refsM)) (fun k v H8 H9 hk ⟨x8, Cs, hD3, RC⟩ ⟨e, hv⟩ => ?_) (fun H8 ⟨x8, Cs, hD3, RC⟩ => ?_)
            · subst e
              rw [List.length_map, lBs] at hk
              have hE : L[k]? = some L[k] := List.getElem?_eq_getElem hk
              obtain ⟨a, ha, ha2⟩ := RB.at_ k _ hE
              have pp := pmL _ (List.getElem_mem hk)
              have et : ((L.take (k + 1)).filter fun p => decide (imN p x = x)) = ((L.take k).filter fun p => decide (imN p x = x)) ++ (if imN L[k] x = x then [L[k]] else []) := by
                rw [List.take_add_one, hE, List.filter_append]
                congr 1
                by_cases c : imN L[k] x = x
                · rw [if_pos c]
                  exact List.filter_cons_of_pos (decide_eq_true c)
                · rw [if_neg c]
                  exact List.filter_cons_of_neg (by rw [decide_eq_true_iff]; exact c)
              have lt : ((L.take k).filter fun p => decide (imN p x = x)).length ≤ k := Nat.le_trans (List.length_filter_le ..) (by rw [List.length_take]; omega)
              rw [et]
              generalize ((L.take k).filter fun p => decide (imN p x = x)) = Z at RC lt ⊢
              generalize L[k] = p0 at ha2 pp ⊢
              have ev : v = .ref a := by
                rw [List.getElem?_map, ha] at hv
                exact (Option.some.inj hv).symm
              subst ev
              obtain ⟨eq, lq⟩ := imN_at pp xn
              have hat : atI (p0.map V.int) (x : Int) = some (.int (imN p0 x)) := at_int (by omega) (by rw [show ((x : Int)).toNat = x by omega]; exact eq)
              have ha8 := x8.st _ _ ha2 trivial
              have hP8 := x8.st _ _ hPB nrP
              have ed : decide (V.int (imN p0 x : Int) = V.int (x : Int)) = decide (imN p0 x = x) := decide_eq_decide.mpr ⟨fun e => by injection e with e; omega, fun e => by rw [e]⟩
              refine ⟨rfl, ?_⟩
              walk_at "so"
              refine ⟨1, rfl, _, -1, rfl, sl_at hP8, _, last_at, _, (x : Int), rfl, .inl (.inl ha8), _, hat, 1, rfl, _, -1, rfl, sl_at hP8, _, last_at, rfl, ?_⟩
              rw [ed]
              by_cases cc : imN p0 x = x
              · rw [decide_eq_true cc, if_pos rfl, if_pos cc]
                exact ⟨_, hD3, by rw [List.length_map, RC.len]; omega, x8.own nD3, Cs ++ [a], by rw [upd_same, List.map_append]; rfl, (RC.more ha8).upd hD3 fun _ z => by cases z⟩
              · rw [decide_eq_false cc, if_neg Bool.false_ne_true, if_neg cc, List.append_nil]
                exact ⟨x8, Cs, hD3, RC⟩
            · rw [List.length_map, lBs, List.take_of_length_le (Nat.le_refl _)] at RC
              refine ⟨D3, _, _, _, _, ⟨rfl, rfl, rfl, rfl, rfl⟩, xB.trans x8, P ++ [(x, oszL L x)], ?_, ?_, _, Cs, hD3, RC, d3P, d3S, by rw [List.length_append]; exact Nat.succ_le_succ lP, Nat.le_trans (List.length_filter_le ..) lL, fun p hp => pmL p (List.mem_filter.mp hp).1, lbN⟩
              · rw [List.map_append, List.map_append]
                exact x8.st _ _ hPB nrP
              · rw [List.map_append, List.map_append]
                exact x8.st _ _ hSB nrS
    · subst es
      rw [e2n] at lb lP
      have eP := lb.all (by omega)
      have P30 : P.length ≤ 1000 := by omega
      rw [eP] at hP hS
      walk_at "so"
      refine .inl ⟨_, sl_at hP, fun q nq => .inl ?_⟩
      have xq := Ex.new (o := .tup (((trimP pre.length (pts.zip (szs C [] pts))).map fun q => (q.1 : Int)).map V.int)) nq
      have hq : upd H3 q (.tup (((trimP pre.length (pts.zip (szs C [] pts))).map fun q => (q.1 : Int)).map V.int)) q = some (.tup (((trimP pre.length (pts.zip (szs C [] pts))).map fun q => (q.1 : Int)).map V.int)) := upd_same
      have hS2 : upd H3 q (.tup (((trimP pre.length (pts.zip (szs C [] pts))).map fun q => (q.1 : Int)).map V.int)) LS = some (.lst (((trimP pre.length (pts.zip (szs C [] pts))).map fun q => (q.2 : Int)).map V.int)) := by rw [upd_ne (ne_of_none hS nq)]; exact hS
      generalize upd H3 q (.tup (((trimP pre.length (pts.zip (szs C [] pts))).map fun q => (q.1 : Int)).map V.int)) = H4 at xq hq hS2 ⊢
      refine ⟨_, sl_at hS2, fun q1 nq1 => ⟨by show 2 ≤ sizeLine; omega, fun p np => ?_⟩⟩
      have xr := Ex.new (o := .tup (((trimP pre.length (pts.zip (szs C [] pts))).map fun q => (q.2 : Int)).map V.int)) nq1
      have hr : upd H4 q1 (.tup (((trimP pre.length (pts.zip (szs C [] pts))).map fun q => (q.2 : Int)).map V.int)) q1 = some (.tup (((trimP pre.length (pts.zip (szs C [] pts))).map fun q => (q.2 : Int)).map V.int)) := upd_same
      have hq2 := xr.st _ _ hq trivial
      generalize upd H4 q1 (.tup (((trimP pre.length (pts.zip (szs C [] pts))).map fun q => (q.2 : Int)).map V.int)) = H5 at xr hr hq2 np ⊢
      have xp := Ex.new (o := .tup [.ref q, .ref q1]) np
      exact z p q q1 _ (x3.trans (xq.trans (xr.trans xp))) upd_same (xp.st _ _ hq2 trivial) (xp.st _ _ hr trivial)
theorem ok__law_alike0 (T : TX K mg base) : FnOk P w K mg base CX0 1 (He.ga K "_law_alike") (fdK K "_law_alike") ["found", "due"] spAlike0 := by
  refine T.F__law_alike.ok sc_law_alike (fun vs H Q E h => ?_) (fun cdv A outer s H vs Q E hr h => ?_)
  · obtain ⟨x, y, rfl, _⟩ := h
    rfl
  · obtain ⟨x, y, rfl, q⟩ := h
    refine ⟨_, (pss_cons (ps_if (pt_val (pe_callB (isiTK (K := K) rfl) (by rfl) T.n_isinstance (by decide +kernel) (pa_cons (pv 1) (pa_cons (pe_tup (pa_cons (pe_bltn (v := .ty "tuple") (by rfl) T.n_tuple (by decide +kernel) rfl) (pa_cons (pe_bltn (v := .ty "list") (by rfl) T.n_list (by decide +kernel) rfl) pa_nil))) pa_nil)))) pss_never pss_nil)
      (pss_cons (ps_if (PW.pt (pw_or (pt_cmpR op_isN (pv 1) pe_non (nomark _)) (pw_or1 (pt_val (pe_callB (isiK (K := K) rfl) (by rfl) T.n_isinstance (by decide +kernel) (pa_cons (pv 1) (pa_cons (pe_bltn (v := .ty "str") (by rfl) T.n_str (by decide +kernel) rfl) pa_nil))))))) (pss_one (ps_ret (pe_and (pe_cmpR (eqD (K := K) rfl hr) (pv 0) (pv 1) (nomark _)) (pe_one (pe_cmpR op_eq (pe_callB (isiK (K := K) rfl) (by rfl) T.n_isinstance (by decide +kernel) (pa_cons (pv 0) (pa_cons (pe_bltn (v := .ty "str") (by rfl) T.n_str (by decide +kernel) rfl) pa_nil))) (pe_callB (isiK (K := K) rfl) (by rfl) T.n_isinstance (by decide +kernel) (pa_cons (pv 1) (pa_cons (pe_bltn (v := .ty "str") (by rfl) T.n_str (by decide +kernel) rfl) pa_nil))) (nomark _)))))) pss_nil)
      (pss_one (ps_ret (pe_and (pe_callB (isiK (K := K) rfl) (by rfl) T.n_isinstance (by decide +kernel) (pa_cons (pv 0) (pa_cons (pe_bltn (v := .ty "int") (by rfl) T.n_int (by decide +kernel) rfl) pa_nil))) (pe_and (pe_cmpR op_eq (pe_callB (isiK (K := K) rfl) (by rfl) T.n_isinstance (by decide +kernel) (pa_cons (pv 0) (pa_cons (pe_bltn (v := .ty "bool") (by rfl) T.n_bool (by decide +kernel) rfl) pa_nil))) (pe_callB (isiK (K := K) rfl) (by rfl) T.n_isinstance (by decide +kernel) (pa_cons (pv 1) (pa_cons (pe_bltn (v := .ty "bool") (by rfl) T.n_bool (by decide +kernel) rfl) pa_nil))) (nomark _)) (pe_one (pe_cmpR (eqD (K := K) rfl hr) (pv 0) (pv 1) (nomark _))))))))), ?_⟩
    walk_at "sx"
    refine ⟨by show 2 ≤ sizeLine; decide, fun t nt => ?_⟩
    have e : PyData.eqv (.int x) (.int y) = decide (x = y) := by rfl
    refine isit_q (b := false) (c := false) (tyx_int y) upd_same (by decide +kernel) (by decide +kernel) ⟨_, rfl, iteF ?_⟩
    refine iteF (isi_q (b := false) (tyx_int y) (by decide +kernel) ⟨_, rfl, iteF ?_⟩)
    refine isi_q (b := true) (tyx_int x) (by decide +kernel) ⟨_, rfl, iteT ?_⟩
    refine isi_q (b := false) (tyx_int x) (by decide +kernel) (isi_q (b := false) (tyx_int y) (by decide +kernel) ⟨rfl, ?_⟩)
    refine iteT ⟨.int x, .int y, .int x, .int y, rfl, rfl, ?_⟩
    rw [e]
    exact q _ (Ex.new nt)
theorem ok__law_alike (T : TX K mg base) : FnOk P w K mg base CX0 2 (He.ga K "_law_alike") (fdK K "_law_alike") ["found", "due"] spAlike := by
  refine T.F__law_alike.ok sc_law_alike (fun vs H Q E h => ?_) (fun cdv A outer s H vs Q E hr h => ?_)
  · obtain ⟨x, y, _, rfl, _⟩ := h
    rfl
  · obtain ⟨a, b, ns, rfl, ha, hb, hn, q⟩ := h
    refine ⟨_, (pss_cons (ps_if (pt_val (pe_callB (isiTK (K := K) rfl) (by rfl) T.n_isinstance (by decide +kernel) (pa_cons (pv 1) (pa_cons (pe_tup (pa_cons (pe_bltn (v := .ty "tuple") (by rfl) T.n_tuple (by decide +kernel) rfl) (pa_cons (pe_bltn (v := .ty "list") (by rfl) T.n_list (by decide +kernel) rfl) pa_nil))) pa_nil)))) (pss_cons (ps_if (PW.pt (pw_or (pt_not (pt_val (pe_callB (isiTK (K := K) rfl) (by rfl) T.n_isinstance (by decide +kernel) (pa_cons (pv 0) (pa_cons (pe_tup (pa_cons (pe_bltn (v := .ty "tuple") (by rfl) T.n_tuple (by decide +kernel) rfl) (pa_cons (pe_bltn (v := .ty "list") (by rfl) T.n_list (by decide +kernel) rfl) pa_nil))) pa_nil))))) (pw_or1 (pt_cmpR op_ne (pe_callB (isiK (K := K) rfl) (by rfl) T.n_isinstance (by decide +kernel) (pa_cons (pv 0) (pa_cons (pe_bltn (v := .ty "list") (by rfl) T.n_list (by decide +kernel) rfl) pa_nil))) (pe_callB (isiK (K := K) rfl) (by rfl) T.n_isinstance (by decide +kernel) (pa_cons (pv 1) (pa_cons (pe_bltn (v := .ty "list") (by rfl) T.n_list (by decide +kernel) rfl) pa_nil))) (nomark _))))) (pss_one (ps_ret pe_bl)) pss_nil)
      (pss_cons (ps_if (pt_cmpR op_ne (pe_callB (lenS (K := K) rfl) (by rfl) T.n_len PySem.boot_len (pa_cons (pv 0) pa_nil)) (pe_callB (lenS (K := K) rfl) (by rfl) T.n_len PySem.boot_len (pa_cons (pv 1) pa_nil)) (nomark _)) (pss_one (ps_ret pe_bl)) pss_nil)
      (pss_one (ps_ret (pe_cmpR (eqD (K := K) rfl hr) (pe_lc (own := [("k", 2)]) (g := gName 2)  rfl sc_law_alike.nd (pi_range1 (by rfl) T.n_range (pa_cons (pe_callB (lenS (K := K) rfl) (by rfl) T.n_len PySem.boot_len (pa_cons (pv 1) pa_nil)) pa_nil)) (blkOk_by (N := ["found", "due", "k"]) (sc := defScope s_law_alike) (by decide +kernel)) (fun _ _ _ _ _ => (pg_name (i := 2) sc_law_alike.nd rfl (.inl rfl))) (fun _ _ _ _ _ => (pts_one (pt_not (pt_val (pe_call (ok__law_alike0 T) hr (by rfl) T.g__law_alike T.F__law_alike.kp T.b__law_alike .nil pass0 (pa_cons (pe_ix (ixT (K := K) rfl) (pv 0) (pv 2) (fun _ _ => rfl)) (pa_cons (pe_ix (ixT (K := K) rfl) (pv 1) (pv 2) (fun _ _ => rfl)) pa_nil))))))) (fun _ _ _ _ _ => (pv 2))) (pe_lst pa_nil) (nomark _)))))) pss_nil)
      pss_never), ?_⟩
    walk_at "sx"
    refine ⟨by show 2 ≤ sizeLine; decide, fun t nt => ?_⟩
    have x1 : Ex H (upd H t (.tup [.ty "tuple", .ty "list"])) := Ex.new nt
    refine isit_q (b := true) (c := false) (tyx_tup (x1.st _ _ hb trivial)) upd_same (by decide +kernel) (by decide +kernel) ⟨_, rfl, iteT ?_⟩
    refine ⟨by show 2 ≤ sizeLine; decide, fun t2 nt2 => ?_⟩
    have x2 := x1.trans (Ex.new (o := .tup [.ty "tuple", .ty "list"]) nt2)
    have ha2 := x2.st _ _ ha trivial
    have hb2 := x2.st _ _ hb trivial
    refine isit_q (b := true) (c := false) (tyx_tup ha2) upd_same (by decide +kernel) (by decide +kernel) ⟨_, rfl, iteF ?_⟩
    refine isi_q (b := false) (tyx_tup ha2) (by decide +kernel) (isi_q (b := false) (tyx_tup hb2) (by decide +kernel) ⟨rfl, iteF ?_⟩)
    have hlen : (ns.map V.int).length = ns.length := List.length_map ..
    refine ⟨ns.map V.int, .inr (.inl (.inl ha2)), ns.map V.int, .inr (.inl (.inl hb2)), rfl, ?_⟩
    rw [decide_eq_true rfl]
    refine iteF ⟨.ref b, rfl, b, rfl, ns.map V.int, .inr (.inl (.inl hb2)), ((ns.map V.int).length : Int), rfl, by omega, by omega, fun D nD => ?_⟩
    have eln : (((ns.map V.int).length : Nat) : Int).toNat = ns.length := by omega
    refine lc_it walk_range (fun i H1 => Ex H H1 ∧ H1 D = some (.lst [])) ⟨x2.trans (Ex.new nD), upd_same⟩ (fun _ _ _ _ => trivial) (fun i x H1 H2 hi ⟨x3, hD⟩ ⟨e, ex⟩ => ?_) (fun H1 ⟨x3, hD⟩ => ?_)
    · subst e ex
      rw [eln] at hi
      have ei : (0 + (i : Int)).toNat = i := by omega
      have hv : ns[i]? = some ns[i] := List.getElem?_eq_getElem hi
      have hat : atI (ns.map V.int) (0 + (i : Int)) = some (.int ns[i]) := at_int (by omega) (by rw [ei]; exact hv)
      refine ⟨rfl, .ref a, rfl, .int (0 + (i : Int)), rfl, a, _, _, .int ns[i], rfl, rfl, x3.t (.inl (.inl ha)), hat, .ref b, rfl, .int (0 + (i : Int)), rfl, b, _, _, .int ns[i], rfl, rfl, x3.t (.inl (.inl hb)), hat, ns[i], ns[i], rfl, fun H' x4 => ⟨_, rfl, ?_⟩⟩
      rw [decide_eq_true rfl]
      exact iteF ⟨x3.trans x4, x4.st _ _ hD nil_norow⟩
    · refine ⟨Nat.zero_le _, fun p np => ⟨.list [], .list [], dp_nil (by rw [upd_ne (ne_of_none hD np)]; exact hD), dp_nil upd_same, rfl, rfl, q _ (x3.trans (Ex.new np))⟩⟩
theorem ok__law_alike2 (T : TX K mg base) : FnOk P w K mg base CX0 3 (He.ga K "_law_alike") (fdK K "_law_alike") ["found", "due"] spAlike2 := by
  refine T.F__law_alike.ok sc_law_alike (fun vs H Q E h => ?_) (fun cdv A outer s H vs Q E hr h => ?_)
  · obtain ⟨x, y, _, _, _, rfl, _⟩ := h
    rfl
  · obtain ⟨a, b, As, Bs, R, rfl, ha, hb, hA, hB, hn, hl, q⟩ := h
    refine ⟨_, (pss_cons (ps_if (pt_val (pe_callB (isiTK (K := K) rfl) (by rfl) T.n_isinstance (by decide +kernel) (pa_cons (pv 1) (pa_cons (pe_tup (pa_cons (pe_bltn (v := .ty "tuple") (by rfl) T.n_tuple (by decide +kernel) rfl) (pa_cons (pe_bltn (v := .ty "list") (by rfl) T.n_list (by decide +kernel) rfl) pa_nil))) pa_nil)))) (pss_cons (ps_if (PW.pt (pw_or (pt_not (pt_val (pe_callB (isiTK (K := K) rfl) (by rfl) T.n_isinstance (by decide +kernel) (pa_cons (pv 0) (pa_cons (pe_tup (pa_cons (pe_bltn (v := .ty "tuple") (by rfl) T.n_tuple (by decide +kernel) rfl) (pa_cons (pe_bltn (v := .ty "list") (by rfl) T.n_list (by decide +kernel) rfl) pa_nil))) pa_nil))))) (pw_or1 (pt_cmpR op_ne (pe_callB (isiK (K := K) rfl) (by rfl) T.n_isinstance (by decide +kernel) (pa_cons (pv 0) (pa_cons (pe_bltn (v := .ty "list") (by rfl) T.n_list (by decide +kernel) rfl) pa_nil))) (pe_callB (isiK (K := K) rfl) (by rfl) T.n_isinstance (by decide +kernel) (pa_cons (pv 1) (pa_cons (pe_bltn (v := .ty "list") (by rfl) T.n_list (by decide +kernel) rfl) pa_nil))) (nomark _))))) (pss_one (ps_ret pe_bl)) pss_nil)
      (pss_cons (ps_if (pt_cmpR op_ne (pe_callB (lenS (K := K) rfl) (by rfl) T.n_len PySem.boot_len (pa_cons (pv 0) pa_nil)) (pe_callB (lenS (K := K) rfl) (by rfl) T.n_len PySem.boot_len (pa_cons (pv 1) pa_nil)) (nomark _)) (pss_one (ps_ret pe_bl)) pss_nil)
      (pss_one (ps_ret (pe_cmpR (eqD (K := K) rfl hr) (pe_lc (own := [("k", 2)]) (g := gName 2)  rfl sc_law_alike.nd (pi_range1 (by rfl) T.n_range (pa_cons (pe_callB (lenS (K := K) rfl) (by rfl) T.n_len PySem.boot_len (pa_cons (pv 1) pa_nil)) pa_nil)) (blkOk_by (N := ["found", "due", "k"]) (sc := defScope s_law_alike) (by decide +kernel)) (fun _ _ _ _ _ => (pg_name (i := 2) sc_law_alike.nd rfl (.inl rfl))) (fun _ _ _ _ _ => (pts_one (pt_not (pt_val (pe_call (ok__law_alike T) hr (by rfl) T.g__law_alike T.F__law_alike.kp T.b__law_alike .nil pass0 (pa_cons (pe_ix (ixT (K := K) rfl) (pv 0) (pv 2) (fun _ _ => rfl)) (pa_cons (pe_ix (ixT (K := K) rfl) (pv 1) (pv 2) (fun _ _ => rfl)) pa_nil))))))) (fun _ _ _ _ _ => (pv 2))) (pe_lst pa_nil) (nomark _)))))) pss_nil)
      pss_never), ?_⟩
    walk_at "sx"
    refine ⟨by show 2 ≤ sizeLine; decide, fun t nt => ?_⟩
    have x1 : Ex H (upd H t (.tup [.ty "tuple", .ty "list"])) := Ex.new nt
    refine isit_q (b := true) (c := false) (tyx_tup (x1.st _ _ hb trivial)) upd_same (by decide +kernel) (by decide +kernel) ⟨_, rfl, iteT ?_⟩
    refine ⟨by show 2 ≤ sizeLine; decide, fun t2 nt2 => ?_⟩
    have x2 := x1.trans (Ex.new (o := .tup [.ty "tuple", .ty "list"]) nt2)
    have ha2 := x2.st _ _ ha trivial
    have hb2 := x2.st _ _ hb trivial
    refine isit_q (b := true) (c := false) (tyx_tup ha2) upd_same (by decide +kernel) (by decide +kernel) ⟨_, rfl, iteF ?_⟩
    refine isi_q (b := false) (tyx_tup ha2) (by decide +kernel) (isi_q (b := false) (tyx_tup hb2) (by decide +kernel) ⟨rfl, iteF ?_⟩)
    have hlA : (As.map V.ref).length = R.length := by rw [List.length_map, hA.len]
    have hlB : (Bs.map V.ref).length = R.length := by rw [List.length_map, hB.len]
    refine ⟨As.map V.ref, .inr (.inl (.inl ha2)), Bs.map V.ref, .inr (.inl (.inl hb2)), rfl, ?_⟩
    rw [decide_eq_true (by rw [hlA, hlB])]
    refine iteF ⟨.ref b, rfl, b, rfl, Bs.map V.ref, .inr (.inl (.inl hb2)), (R.length : Int), by rw [hlB], by omega, by omega, fun D nD => ?_⟩
    have eln : ((R.length : Nat) : Int).toNat = R.length := by omega
    refine lc_it walk_range (fun i H1 => Ex H H1 ∧ H1 D = some (.lst [])) ⟨x2.trans (Ex.new nD), upd_same⟩ (fun _ _ _ _ => trivial) (fun i x H1 H2 hi ⟨x3, hD⟩ ⟨e, ex⟩ => ?_) (fun H1 ⟨x3, hD⟩ => ?_)
    · subst e ex
      rw [eln] at hi
      have hr : R[i]? = some R[i] := List.getElem?_eq_getElem hi
      have hr2 : R[i].length ≤ 1000 := hl _ (List.getElem_mem hi)
      generalize R[i] = r at hr hr2
      obtain ⟨u, hu, hut⟩ := (hA.ex x3).at_ i r hr
      obtain ⟨v, hv, hvt⟩ := (hB.ex x3).at_ i r hr
      have ga : atI (As.map V.ref) (0 + (i : Int)) = some (.ref u) := by
        rw [Int.zero_add]
        exact atI_nat (by rw [List.getElem?_map, hu]; rfl)
      have gb : atI (Bs.map V.ref) (0 + (i : Int)) = some (.ref v) := by
        rw [Int.zero_add]
        exact atI_nat (by rw [List.getElem?_map, hv]; rfl)
      refine ⟨rfl, .ref a, rfl, .int (0 + (i : Int)), rfl, a, _, _, .ref u, rfl, rfl, x3.t (.inl (.inl ha)), ga, .ref b, rfl, .int (0 + (i : Int)), rfl, b, _, _, .ref v, rfl, rfl, x3.t (.inl (.inl hb)), gb, u, v, r, rfl, hut, hvt, hr2, fun H' x4 => ⟨true, rfl, iteF ⟨x3.trans x4, x4.st _ _ hD nil_norow⟩⟩⟩
    · refine ⟨Nat.zero_le _, fun p np => ⟨.list [], .list [], dp_nil (by rw [upd_ne (ne_of_none hD np)]; exact hD), dp_nil upd_same, rfl, rfl, q _ (x3.trans (Ex.new np))⟩⟩
end
end KL
namespace KL
open PySem PySem.Spec PyProof.Rows L2 GA GxR
local macro_rules | `(tactic| walk_at "sx") => `(tactic| simp only [L2.start, List.map_cons, List.map_nil, List.length_cons, List.length_nil, Nat.reduceAdd, Nat.reduceSub, List.replicate, List.cons_append, List.nil_append, tRet, tSeq, tNext, tIfS, tAsg, tDrop, gName, gSub, rSetL, gTup, gCons, gNil, tB, tNot, tTest, tAndV, tOrV, tNotV, tAnd, tOr, tIf, tOp, tUn, tThenZ, tThen, r1, kTyp, kTup, tVar, tC, tChain, tCB, tCons, tNil, rI0, rI, rEq, rNe, rRep, rIxT, rIxL, tCall, tTup, tLst, tTupRg, tLstRg, tRg1, tRg2, tPar, List.getElem?_cons_zero, List.getElem?_cons_succ, List.set_cons_zero, List.set_cons_succ, Option.some.injEq, exists_eq_left', exists_eq_left, V.ty.injEq, V.int.injEq, V.bl.injEq, V.ref.injEq, List.cons.injEq, and_true, true_and, wipe, exists_and_left, List.append_nil, reduceCtorEq, false_and, exists_false, false_or, or_false])
local macro_rules | `(tactic| walk_at "so") => `(tactic| simp only [L2.start, tDisp, tPairs, tFld, tMeth, sFld, tMake, tDGet, sDPut, tDIn, tDNotIn, List.append_nil, List.map_cons, List.map_nil, List.length_cons, List.length_nil, Nat.reduceAdd, Nat.reduceSub, List.replicate, List.cons_append, List.nil_append, tRet, tSeq, tNext, tIfS, tAsg, tDrop, gName, gSub, rSetL, gTup, gCons, gNil, tB, tNot, tTest, tAndV, tOrV, tNotV, tAnd, tOr, tIf, tOp, tUn, tThenZ, tThen, r1, kTyp, kTup, tVar, tC, tChain, tCB, tCons, tNil, rI0, rI, rEq, rNe, rRep, rIxT, rIxL, tCall, tTup, tLst, tTupRg, tLstRg, tRg1, tRg2, tPar, List.getElem?_cons_zero, List.getElem?_cons_succ, List.set_cons_zero, List.set_cons_succ, Option.some.injEq, exists_eq_left', exists_eq_left, V.ty.injEq, V.int.injEq, V.bl.injEq, V.ref.injEq, List.cons.injEq, and_true, true_and, wipe, exists_and_left, List.append_nil, reduceCtorEq, false_and, exists_false, false_or, or_false])
section
variable {P : Program} {w : World} {K : PySem.W.Frag} {mg : Str → Option Value} {base : Heap}
def spLaw (K : PySem.W.Frag) : Sp := fun vs H Q _ => ∃ (a : Addr) (ns : List Int), vs = [.ref a] ∧ SqL K H a (ns.map V.int) ∧ TabG H (PP K) ∧ ∀ H', Q (.bl true) H'
theorem ok_law (T : TX K mg base) : FnOk P w K mg base CX0 12 (He.ga K "law") (fdK K "law") ["script"] (spLaw K) := by
  refine T.F_law.ok sclaw (fun vs H Q E h => ?_) (fun cdv A outer s H vs Q E hr h => ?_)
  · obtain ⟨a, ns, rfl, _⟩ := h
    rfl
  · obtain ⟨a, ns, rfl, hS, hT, q⟩ := h
    refine ⟨_, (pss_cons (ps_set (i := 1) sclaw.nd rfl (.inl rfl) (pe_lst (pa_cons (pv 0) (pa_cons pe_int (pa_cons pe_int (pa_cons pe_int pa_nil))))))
      (pss_cons (ps_for PassesOwn.never rfl (pi_range1 (by rfl) T.n_range (pa_cons pe_int pa_nil)) (pg_name (i := 2) sclaw.nd rfl (.inl rfl)) (pss_cons (ps_set (i := 3) sclaw.nd rfl (.inl rfl) (pe_call (ok__law_group T) (hr.mono (by decide)) (by rfl) T.g__law_group T.F__law_group.kp T.b__law_group .nil pass0 (pa_cons (pv 1) (pa_cons pe_int (pa_cons pe_int pa_nil)))))
      (pss_cons (ps_set (i := 4) sclaw.nd rfl (.inl rfl) (pe_callB (srtTO (K := K) rfl) (by rfl) T.n_sorted (by decide +kernel) (pa_cons (pe_call (ok__law_closure T) (hr.mono (by decide)) (by rfl) T.g__law_closure T.F__law_closure.kp T.b__law_closure .nil pass0 (pa_cons (pe_ix (ixT (K := K) rfl) (pv 3) pe_int (fun _ _ => rfl)) (pa_cons (pe_ix (ixT (K := K) rfl) (pv 3) pe_int (fun _ _ => rfl)) pa_nil))) pa_nil)))
      (pss_cons (ps_asg (pe_call (ok__law_base T) (hr.mono (by decide)) (by rfl) T.g__law_base T.F__law_base.kp T.b__law_base .nil pass0 (pa_cons (pv 4) (pa_cons (pe_ix (ixT (K := K) rfl) (pv 3) pe_int (fun _ _ => rfl)) (pa_cons (pe_tup pa_nil) pa_nil)))) (pg_tup rfl (pgs_cons (pg_name (i := 7) sclaw.nd rfl (.inl rfl)) (pgs_cons (pg_name (i := 8) sclaw.nd rfl (.inl rfl)) pgs_nil))))
      (pss_cons (ps_if (PW.pt (pw_or (pt_not (pt_val (pe_call (ok__law_alike T) (hr.mono (by decide)) (by rfl) T.g__law_alike T.F__law_alike.kp T.b__law_alike .nil pass0 (pa_cons (pe_call (ok_base_points T) hr (by rfl) T.g_base_points T.F_base_points.kp T.b_base_points.choose_spec.2 T.b_base_points.choose_spec.1 pass0 (pa_cons (pv 3) pa_nil)) (pa_cons (pv 7) pa_nil))))) (pw_or1 (pt_not (pt_val (pe_call (ok__law_alike T) (hr.mono (by decide)) (by rfl) T.g__law_alike T.F__law_alike.kp T.b__law_alike .nil pass0 (pa_cons (pe_call (ok_orbit_sizes T) hr (by rfl) T.g_orbit_sizes T.F_orbit_sizes.kp T.b_orbit_sizes.choose_spec.2 T.b_orbit_sizes.choose_spec.1 pass0 (pa_cons (pv 3) pa_nil)) (pa_cons (pv 8) pa_nil)))))))) (pss_one (ps_ret pe_bl)) pss_nil)
      (pss_cons (ps_if (PW.pt (pw_or (pt_not (pt_val (pe_call (ok__law_alike0 T) (hr.mono (by decide)) (by rfl) T.g__law_alike T.F__law_alike.kp T.b__law_alike .nil pass0 (pa_cons (pe_call (ok_order T) (hr.mono (by decide)) (by rfl) T.g_order T.F_order.kp T.b_order .nil pass0 (pa_cons (pv 3) pa_nil)) (pa_cons (pe_callB (lenS (K := K) rfl) (by rfl) T.n_len PySem.boot_len (pa_cons (pv 4) pa_nil)) pa_nil))))) (pw_or1 (pt_not (pt_val (pe_call (ok__law_alike2 T) (hr.mono (by decide)) (by rfl) T.g__law_alike T.F__law_alike.kp T.b__law_alike .nil pass0 (pa_cons (pe_call (ok_all_elements T) hr (by rfl) T.g_all_elements T.F_all_elements.kp T.b_all_elements .nil pass0 (pa_cons (pv 3) pa_nil)) (pa_cons (pe_tupK (K := K) rfl (by rfl) T.n_tuple (pv 4)) pa_nil)))))))) (pss_one (ps_ret pe_bl)) pss_nil)
      (pss_cons (ps_set (i := 5) sclaw.nd rfl (.inl rfl) pe_int)
      (pss_cons (ps_for PassesOwn.never rfl (piT (K := K) rfl (pv 8)) (pg_name (i := 6) sclaw.nd rfl (.inl rfl)) (pss_one (ps_set (i := 5) sclaw.nd rfl (.inl rfl) (pe_op op_mul (pv 5) (pv 6)))))
      (pss_one (ps_if (pt_cmpR op_ne (pv 5) (pe_callB (lenS (K := K) rfl) (by rfl) T.n_len PySem.boot_len (pa_cons (pv 4) pa_nil)) (nomark _)) (pss_one (ps_ret pe_bl)) pss_nil))))))))))
      (pss_one (ps_ret pe_bl)))), ?_⟩
    walk_at "so"
    have line : (1000 : Nat) ≤ sizeLine := by decide
    refine ⟨by show 4 ≤ sizeLine; omega, fun r nr => ?_⟩
    have xr : Ex H (upd H r (.lst [.ref a, .int 0, .int 3021, .int 0])) := Ex.new nr
    have R0 : RowAt (upd H r (.lst [.ref a, .int 0, .int 3021, .int 0])) r a := ⟨_, _, _, upd_same, by omega, by omega, by omega, by omega⟩
    generalize upd H r (.lst [.ref a, .int 0, .int 3021, .int 0]) = H0 at xr R0 ⊢
    have S0 := xr.l ints_norow hS
    have T0 := xr.tab _ hT
    refine ⟨2, rfl, by decide, by decide, for_it walk_range (fun i σ H3 => ∃ y2 y3 y4 y5 y6 y7 y8 : Option V, σ = [some (.ref a), some (.ref r), y2, y3, y4, y5, y6, y7, y8] ∧ Ex H0 H3) ⟨none, none, none, none, none, none, none, rfl, .refl _⟩ (fun _ _ _ _ _ => trivial) (fun i x σ H3 H4 hi ⟨y2, y3, y4, y5, y6, y7, y8, es, x3⟩ ⟨e, ex⟩ => ?_) (fun σ H3 ⟨y2, y3, y4, y5, y6, y7, y8, es, x3⟩ => ?_)⟩
    · subst es e ex
      walk_at "so"
      refine ⟨r, a, ns, 8, 168, rfl, x3.row _ _ R0, x3.l ints_norow S0, by omega, by omega, by omega, by omega, fun ga H1 n m gs x1 hG hL m8 m168 n1 n6 n8 lg => ?_⟩
      have x01 := x3.trans x1
      obtain ⟨g, As, hga, hg, hgR⟩ := hG.fst
      refine ⟨ga, rfl, _, .inl (.inl hga), .int n, rfl, ga, rfl, _, .inl (.inl hga), .ref g, rfl, g, As, n, m, gs, rfl, hg, hgR, hL, by omega, n1, by omega, by omega, fun c H2 Bs C x2 hc hC cl lm => ?_⟩
      have lC : C.length ≤ 168 := by omega
      have hga2 := x2.st _ _ hga trivial
      have hG2 := hG.ex x2
      have x02 := x01.trans x2
      obtain ⟨k, hk⟩ := rows_key hC
      refine ⟨c, Bs.map V.ref, k, n, rfl, sl_at hc, n1, fun x hx => ?_, fun ys p hs hp np => ?_⟩
      · obtain ⟨t, e, ht, h1, h2⟩ := hk x hx
        have pmx := cl.pm _ h2
        exact ⟨t, e, h1, pmx.len, fun y hy => by have := pmx.bd y hy; omega⟩
      obtain ⟨As2, S, e, RS, pS, wS⟩ := rows_sorted hC hk hs hp
      subst e
      have xp := Ex.new (o := .lst (As2.map V.ref)) np
      have hp3 : upd H2 p (.lst (As2.map V.ref)) p = some (.lst (As2.map V.ref)) := upd_same
      have RS3 := RS.ex xp
      have hga3 := xp.st _ _ hga2 trivial
      have hG3 := hG2.ex xp
      have x03 := x02.trans xp
      generalize upd H2 p (.lst (As2.map V.ref)) = H3 at xp hp3 RS3 hga3 hG3 x03 ⊢
      refine ⟨ga, rfl, _, .inl (.inl hga3), .int n, rfl, Nat.zero_le _, fun e ne => ?_⟩
      have xe := Ex.new (o := .tup []) ne
      have he : upd H3 e (.tup []) e = some (.tup []) := upd_same
      have hp4 := xe.st _ _ hp3 refsM
      have RS4 := RS3.ex xe
      have hG4 := hG3.ex xe
      have x04 := x03.trans xe
      generalize upd H3 e (.tup []) = H4 at xe he hp4 RS4 hG4 x04 ⊢
      have lS := pS.length_eq
      refine ⟨p, e, n, As2, S, [], rfl, hp4, RS4, fun q hq => cl.pm q (pS.mem_iff.mp hq), pS.mem_iff.mpr cl.one, by omega, he, List.nodup_nil, (fun _ h => by cases h), by omega, fun t pp ps H5 x5 ht hpp hps => ?_⟩
      refine ⟨t, rfl, _, .inl (.inl ht), rfl, _, _, rfl, _, _, rfl, rfl, ?_⟩
      have T5 := (x04.trans x5).tab _ T0
      refine ⟨ga, kwA "base_points" "prefix" K, n, gs, [], rfl, hG4.ex x5, hL.pm, n1, by omega, by omega, T.e_base_points_prefix _, List.nodup_nil, (fun _ h => by cases h), T5, fun W6 H6' fs6 x6' W6 pt6 c6 H6 x6 hc6 => ?_⟩
      have b6 := W6.base (m := 0) cl pS pt6
      have l6 : (trimF 0 fs6).length ≤ 12 := by
        obtain ⟨L, _, ok⟩ := W6.st
        have l := ok.len
        have := List.length_filter_le (fun f : Flr => decide (1 < f.fo.length)) (fs6.drop 0)
        unfold trimF
        rw [List.length_append, List.length_take]
        rw [List.length_drop] at this
        omega
      have hpp6 := x6.st _ _ hpp trivial
      have hps6 := x6.st _ _ hps trivial
      have q1 : ((trimP ([] : List Nat).length (([] ++ othersP n []).zip (szs S [] ([] ++ othersP n [])))).map fun q => (q.1 : Int)) = (trimF 0 fs6).map fun f => (f.pt : Int) := by
        exact (congrArg (List.map fun q : Nat × Nat => (q.1 : Int)) b6).trans (by rw [List.map_map]; rfl)
      rw [q1] at hpp6
      have hc6 : H6 c6 = some (.tup (((trimF 0 fs6).map fun f => (f.pt : Int)).map V.int)) := hc6
      refine ⟨c6, pp, _, rfl, hc6, hpp6, by rw [List.length_map]; omega, fun H7 x7 => ⟨true, rfl, iteF ?_⟩⟩
      have x57 := x6.trans x7
      have hps7 := x7.st _ _ hps6 trivial
      refine ⟨ga, kwA "orbit_sizes" "prefix" K, n, gs, [], rfl, hG4.ex (x5.trans x57), hL.pm, n1, by omega, by omega, T.e_orbit_sizes_prefix _, List.nodup_nil, (fun _ h => by cases h), x57.tab _ T5, fun W8 H8' fs8 x8' W8 pt8 c8 H8 x8 hc8 => ?_⟩
      have b8 := W8.base (m := 0) cl pS pt8
      have hps8 := x8.st _ _ hps7 trivial
      have l8 : (trimF 0 fs8).length ≤ 12 := by
        obtain ⟨L, _, ok⟩ := W8.st
        have l := ok.len
        have := List.length_filter_le (fun f : Flr => decide (1 < f.fo.length)) (fs8.drop 0)
        unfold trimF
        rw [List.length_append, List.length_take]
        rw [List.length_drop] at this
        omega
      have q2 : ((trimP ([] : List Nat).length (([] ++ othersP n []).zip (szs S [] ([] ++ othersP n [])))).map fun q => (q.2 : Int)) = (trimF 0 fs8).map fun f => (f.fo.length : Int) := by
        exact (congrArg (List.map fun q : Nat × Nat => (q.2 : Int)) b8).trans (by rw [List.map_map]; rfl)
      rw [q2] at hps8
      have hc8 : H8 c8 = some (.tup (((trimF 0 fs8).map fun f => (f.fo.length : Int)).map V.int)) := hc8
      refine ⟨c8, ps, _, rfl, hc8, hps8, by rw [List.length_map]; omega, fun H9 x9 => ⟨true, rfl, iteF ?_⟩⟩
      have x59 := (x57.trans x8).trans x9
      have hps9 := x9.st _ _ hps8 trivial
      refine ⟨ga, n, gs, C, rfl, hG4.ex (x5.trans x59), hL.pm, cl, n1, by omega, by omega, x59.tab _ T5, fun H10 x10 => ?_⟩
      have x510 := x59.trans x10
      refine ⟨p, rfl, _, .inl (sl_at ((x5.trans x510).st _ _ hp4 refsM)), _, _, rfl, fun H11 x11 => ⟨_, rfl, ?_⟩⟩
      rw [List.length_map, RS4.len, lS, decide_eq_true rfl]
      refine iteF ?_
      have x511 := x510.trans x11
      refine ⟨ga, n, gs, C, rfl, hG4.ex (x5.trans x511), hL.pm, cl, by omega, n1, by omega, by omega, x511.tab _ T5, fun c12 H12 As12 R x12 hc12 hR pR sR => .inl ?_⟩
      have eR : R = S := sorted_one (pR.nodup_iff.mpr cl.nd) (pS.nodup_iff.mpr cl.nd) sR wS (fun v => by rw [pR.mem_iff, pS.mem_iff]) fun x hx y hy => by rw [(cl.pm x (pR.mem_iff.mp hx)).len, (cl.pm y (pR.mem_iff.mp hy)).len]
      subst eR
      have x512 := x511.trans x12
      refine ⟨p, rfl, _, sl_at ((x5.trans x512).st _ _ hp4 refsM), fun q13 nq13 => ?_⟩
      have x13 := Ex.new (o := .tup (As2.map V.ref)) nq13
      refine ⟨c12, q13, As12, As2, R, rfl, x13.st _ _ hc12 trivial, upd_same, hR.ex x13, RS4.ex (x5.trans (x512.trans x13)), by omega, fun w hw => by rw [(cl.pm w (pR.mem_iff.mp hw)).len]; omega, fun H14 x14 => ⟨true, rfl, iteF ?_⟩⟩
      have x514 := (x512.trans x13).trans x14
      have hps14 := ((((x10.trans x11).trans x12).trans x13).trans x14).st _ _ hps9 trivial
      have hp14 := (x5.trans x514).st _ _ hp4 refsM
      have x0 := (x04.trans x5).trans x514
      have ne8 : ∀ f ∈ fs8, f.fo ≠ [] := fun f hf e => by
        obtain ⟨L, _, ok⟩ := W8.st
        obtain ⟨i, hi, ei⟩ := List.getElem_of_mem hf
        obtain ⟨_, _, F⟩ := ok.inv.at_ i f (by rw [List.getElem?_eq_getElem hi, ei])
        have := F.one
        rw [e] at this
        cases this
      have pr := (trim_prod ne8).trans (W8.order cl)
      have pos : ∀ z ∈ (trimF 0 fs8).map (fun f => f.fo.length), 1 ≤ z := fun z hz => by
        obtain ⟨f, hf, rfl⟩ := List.mem_map.mp hz
        unfold trimF at hf
        rw [List.take_zero, List.nil_append, List.drop_zero] at hf
        exact List.length_pos_iff.mpr (ne8 f (List.mem_filter.mp hf).1)
      generalize (trimF 0 fs8) = ts at hps14 pr pos
      refine ⟨_, rfl, ps, rfl, ⟨_, .inl (.inl hps14)⟩, ?_⟩
      refine for_it (walk_tup (xs := (ts.map fun f => (f.fo.length : Int)).map V.int)) (fun j σ H2 => ∃ y6, σ = [some (.ref a), some (.ref r), some (.int (0 + (i : Int))), some (.ref ga), some (.ref p), some (.int (((ts.map fun f => f.fo.length).take j).foldr (· * ·) 1 : Nat)), y6, some (.ref pp), some (.ref ps)] ∧ Ex H14 H2) ⟨_, rfl, .refl _⟩ (fun j σ H2 _ ⟨_, _, x2⟩ => .inl (.inl (x2.st _ _ hps14 trivial))) (fun j x σ H2 H3 hj ⟨y6, es, x2⟩ ⟨e, hx⟩ => ?_) (fun σ H2 ⟨y6, es, x2⟩ => ?_)
      · subst es e
        rw [List.length_map, List.length_map] at hj
        have hE : ts[j]? = some ts[j] := List.getElem?_eq_getElem hj
        have et : ((ts.map fun f => f.fo.length).take (j + 1)).foldr (· * ·) 1 = ((ts.map fun f => f.fo.length).take j).foldr (· * ·) 1 * ts[j].fo.length := by
          rw [List.take_add_one, List.getElem?_map, hE]
          exact prod_snoc _ _
        have ev : x = .int (ts[j].fo.length : Nat) := by
          rw [List.getElem?_map, List.getElem?_map, hE] at hx
          exact (Option.some.inj hx).symm
        have sm := prod_take (ts.map fun f => f.fo.length) j pos
        rw [pr] at sm
        rw [et]
        generalize ts[j].fo.length = m at ev ⊢
        generalize ((ts.map fun f => f.fo.length).take j).foldr (· * ·) 1 = q at sm ⊢
        subst ev
        walk_at "so"
        exact ⟨.inl ⟨by omega, by omega⟩, _, ⟨(Int.natCast_mul ..).symm, rfl⟩, x2⟩
      · subst es
        rw [List.length_map, List.length_map, List.take_of_length_le (by rw [List.length_map]; exact Nat.le_refl _), pr]
        walk_at "so"
        refine ⟨_, .inl (sl_at (x2.st _ _ hp14 refsM)), rfl, ?_⟩
        rw [List.length_map, RS4.len, lS, decide_eq_true rfl]
        exact iteF ⟨_, _, _, _, _, _, _, ⟨rfl, rfl, rfl, rfl, rfl, rfl, rfl⟩, x0.trans x2⟩
    · subst es
      walk_at "so"
      exact q H3
theorem law_start {H : Hp} {a : Addr} {ns : List Int} (_ : ns.length ≤ 63) (_ : ∀ z ∈ ns, Builtin.Int.intBits z ≤ 1048576) (hS : SqL K H a (ns.map V.int)) (hT : ∀ x ∈ tabL, TabG H (He.cT K (x, none)).2) : spLaw K [.ref a] H (fun v _ => v = .bl true) fun _ _ _ => False :=
  ⟨a, ns, rfl, hS, hT "are_points" (List.mem_cons_self ..), fun _ => rfl⟩
end
end KL
namespace KL
open PySem PySem.Spec PyProof.Rows L2 GA GxR

def d_is_between : He.DefD := ⟨("is_between", none), "is_between", "is_between", defArgs sis_between, defBody sis_between, defScope sis_between, [], []⟩
def d_is_row : He.DefD := ⟨("is_row", none), "is_row", "is_row", defArgs sis_row, defBody sis_row, defScope sis_row, [], []⟩
def d_is_tuple_of : He.DefD := ⟨("is_tuple_of", none), "is_tuple_of", "is_tuple_of", defArgs sis_tuple_of, defBody sis_tuple_of, defScope sis_tuple_of, [], []⟩
def d_is_degree : He.DefD := ⟨("is_degree", none), "is_degree", "is_degree", defArgs sis_degree, defBody sis_degree, defScope sis_degree, [], []⟩
def d_is_point : He.DefD := ⟨("is_point", none), "is_point", "is_point", defArgs sis_point, defBody sis_point, defScope sis_point, [], []⟩
def d_are_points : He.DefD := ⟨("are_points", none), "are_points", "are_points", defArgs sare_points, defBody sare_points, defScope sare_points, [], []⟩
def d_are_distinct_points : He.DefD := ⟨("are_distinct_points", none), "are_distinct_points", "are_distinct_points", defArgs sare_distinct_points, defBody sare_distinct_points, defScope sare_distinct_points, [], []⟩
def d_is_permutation : He.DefD := ⟨("is_permutation", none), "is_permutation", "is_permutation", defArgs sis_permutation, defBody sis_permutation, defScope sis_permutation, [], []⟩
def d_check_group : He.DefD := ⟨("check_group", none), "check_group", "check_group", defArgs scheck_group, defBody scheck_group, defScope scheck_group, [], []⟩
def d_check_prefix : He.DefD := ⟨("check_prefix", none), "check_prefix", "check_prefix", defArgs scheck_prefix, defBody scheck_prefix, defScope scheck_prefix, [], []⟩
def d_unit : He.DefD := ⟨("unit", none), "unit", "unit", defArgs sunit, defBody sunit, defScope sunit, [], []⟩
def d_compose : He.DefD := ⟨("compose", none), "compose", "compose", defArgs scompose, defBody scompose, defScope scompose, [], []⟩
def d_invert : He.DefD := ⟨("invert", none), "invert", "invert", defArgs sinvert, defBody sinvert, defScope sinvert, [], []⟩
def d_Tape___init__ : He.DefD := ⟨("Tape", some "__init__"), "__init__", "Tape.__init__", defArgs sTape___init__, defBody sTape___init__, defScope sTape___init__, [], []⟩
def d_Tape_joined : He.DefD := ⟨("Tape", some "joined"), "joined", "Tape.joined", defArgs sTape_joined, defBody sTape_joined, defScope sTape_joined, [], []⟩
def d_Tape_flipped : He.DefD := ⟨("Tape", some "flipped"), "flipped", "Tape.flipped", defArgs sTape_flipped, defBody sTape_flipped, defScope sTape_flipped, [], []⟩
def d_Tape_note : He.DefD := ⟨("Tape", some "note"), "note", "Tape.note", defArgs sTape_note, defBody sTape_note, defScope sTape_note, [], []⟩
def d_Tape_times : He.DefD := ⟨("Tape", some "times"), "times", "Tape.times", defArgs sTape_times, defBody sTape_times, defScope sTape_times, [], []⟩
def d_Tape_turned : He.DefD := ⟨("Tape", some "turned"), "turned", "Tape.turned", defArgs sTape_turned, defBody sTape_turned, defScope sTape_turned, [], []⟩
def d_Floor___init__ : He.DefD := ⟨("Floor", some "__init__"), "__init__", "Floor.__init__", defArgs sFloor___init__, defBody sFloor___init__, defScope sFloor___init__, [], []⟩
def d_Floor_take : He.DefD := ⟨("Floor", some "take"), "take", "Floor.take", defArgs sFloor_take, defBody sFloor_take, defScope sFloor_take, [], []⟩
def d_Floor_reach : He.DefD := ⟨("Floor", some "reach"), "reach", "Floor.reach", defArgs sFloor_reach, defBody sFloor_reach, defScope sFloor_reach, [], []⟩
def d_Tower___init__ : He.DefD := ⟨("Tower", some "__init__"), "__init__", "Tower.__init__", defArgs sTower___init__, defBody sTower___init__, defScope sTower___init__, [], []⟩
def d_Tower_sift : He.DefD := ⟨("Tower", some "sift"), "sift", "Tower.sift", defArgs sTower_sift, defBody sTower_sift, defScope sTower_sift, [.int 0], []⟩
def d_Tower_take : He.DefD := ⟨("Tower", some "take"), "take", "Tower.take", defArgs sTower_take, defBody sTower_take, defScope sTower_take, [], []⟩
def d_Tower_settle : He.DefD := ⟨("Tower", some "settle"), "settle", "Tower.settle", defArgs sTower_settle, defBody sTower_settle, defScope sTower_settle, [], []⟩
def d_Tower_try_pair : He.DefD := ⟨("Tower", some "try_pair"), "try_pair", "Tower.try_pair", defArgs sTower_try_pair, defBody sTower_try_pair, defScope sTower_try_pair, [], []⟩
def d_Tower_trim : He.DefD := ⟨("Tower", some "trim"), "trim", "Tower.trim", defArgs sTower_trim, defBody sTower_trim, defScope sTower_trim, [], []⟩
def d_Tower_holds : He.DefD := ⟨("Tower", some "holds"), "holds", "Tower.holds", defArgs sTower_holds, defBody sTower_holds, defScope sTower_holds, [], []⟩
def d_Tower_sizes : He.DefD := ⟨("Tower", some "sizes"), "sizes", "Tower.sizes", defArgs sTower_sizes, defBody sTower_sizes, defScope sTower_sizes, [], []⟩
def d_Tower_order : He.DefD := ⟨("Tower", some "order"), "order", "Tower.order", defArgs sTower_order, defBody sTower_order, defScope sTower_order, [], []⟩
def d_tower_of : He.DefD := ⟨("tower_of", none), "tower_of", "tower_of", defArgs stower_of, defBody stower_of, defScope stower_of, [.adr (He.dflAt ("tower_of", none) 0)], []⟩
def d_listed : He.DefD := ⟨("listed", none), "listed", "listed", defArgs slisted, defBody slisted, defScope slisted, [], []⟩
def d_base_points : He.DefD := ⟨("base_points", none), "base_points", "base_points", defArgs sbase_points, defBody sbase_points, defScope sbase_points, [], [("prefix", .adr (kwA "base_points" "prefix"))]⟩
def d_orbit_sizes : He.DefD := ⟨("orbit_sizes", none), "orbit_sizes", "orbit_sizes", defArgs sorbit_sizes, defBody sorbit_sizes, defScope sorbit_sizes, [], [("prefix", .adr (kwA "orbit_sizes" "prefix"))]⟩
def d_order : He.DefD := ⟨("order", none), "order", "order", defArgs sorder, defBody sorder, defScope sorder, [], []⟩
def d__floors : He.DefD := ⟨("_floors", none), "_floors", "_floors", defArgs s_floors, defBody s_floors, defScope s_floors, [], []⟩
def d_all_elements : He.DefD := ⟨("all_elements", none), "all_elements", "all_elements", defArgs sall_elements, defBody sall_elements, defScope sall_elements, [], []⟩
def d__law_taken : He.DefD := ⟨("_law_taken", none), "_law_taken", "_law_taken", defArgs s_law_taken, defBody s_law_taken, defScope s_law_taken, [], []⟩
def d__law_small : He.DefD := ⟨("_law_small", none), "_law_small", "_law_small", defArgs s_law_small, defBody s_law_small, defScope s_law_small, [], []⟩
def d__law_large : He.DefD := ⟨("_law_large", none), "_law_large", "_law_large", defArgs s_law_large, defBody s_law_large, defScope s_law_large, [], []⟩
def d__law_pick : He.DefD := ⟨("_law_pick", none), "_law_pick", "_law_pick", defArgs s_law_pick, defBody s_law_pick, defScope s_law_pick, [], []⟩
def d__law_perm : He.DefD := ⟨("_law_perm", none), "_law_perm", "_law_perm", defArgs s_law_perm, defBody s_law_perm, defScope s_law_perm, [], []⟩
def d__law_mul : He.DefD := ⟨("_law_mul", none), "_law_mul", "_law_mul", defArgs s_law_mul, defBody s_law_mul, defScope s_law_mul, [], []⟩
def d__law_inv : He.DefD := ⟨("_law_inv", none), "_law_inv", "_law_inv", defArgs s_law_inv, defBody s_law_inv, defScope s_law_inv, [], []⟩
def d__law_conj : He.DefD := ⟨("_law_conj", none), "_law_conj", "_law_conj", defArgs s_law_conj, defBody s_law_conj, defScope s_law_conj, [], []⟩
def d__law_unit : He.DefD := ⟨("_law_unit", none), "_law_unit", "_law_unit", defArgs s_law_unit, defBody s_law_unit, defScope s_law_unit, [], []⟩
def d__law_known : He.DefD := ⟨("_law_known", none), "_law_known", "_law_known", defArgs s_law_known, defBody s_law_known, defScope s_law_known, [], []⟩
def d__law_group : He.DefD := ⟨("_law_group", none), "_law_group", "_law_group", defArgs s_law_group, defBody s_law_group, defScope s_law_group, [], []⟩
def d__law_closure : He.DefD := ⟨("_law_closure", none), "_law_closure", "_law_closure", defArgs s_law_closure, defBody s_law_closure, defScope s_law_closure, [], []⟩
def d__law_base : He.DefD := ⟨("_law_base", none), "_law_base", "_law_base", defArgs s_law_base, defBody s_law_base, defScope s_law_base, [], []⟩
def d__law_alike : He.DefD := ⟨("_law_alike", none), "_law_alike", "_law_alike", defArgs s_law_alike, defBody s_law_alike, defScope s_law_alike, [], []⟩
def d_law : He.DefD := ⟨("law", none), "law", "law", defArgs slaw, defBody slaw, defScope slaw, [], []⟩
def fnL : List He.DefD := [d_is_between, d_is_row, d_is_tuple_of, d_is_degree, d_is_point, d_are_points, d_are_distinct_points, d_is_permutation, d_check_group, d_check_prefix, d_unit, d_compose, d_invert, d_Tape___init__, d_Tape_joined, d_Tape_flipped, d_Tape_note, d_Tape_times, d_Tape_turned, d_Floor___init__, d_Floor_take, d_Floor_reach, d_Tower___init__, d_Tower_sift, d_Tower_take, d_Tower_settle, d_Tower_try_pair, d_Tower_trim, d_Tower_holds, d_Tower_sizes, d_Tower_order, d_tower_of, d_listed, d_base_points, d_orbit_sizes, d_order, d__floors, d_all_elements, d__law_taken, d__law_small, d__law_large, d__law_pick, d__law_perm, d__law_mul, d__law_inv, d__law_conj, d__law_unit, d__law_known, d__law_group, d__law_closure, d__law_base, d__law_alike, d_law]
def faL : List He.Fa := [.glo "is_between", .glo "is_row", .glo "is_tuple_of", .glo "is_degree", .glo "is_point", .glo "are_points", .glo "are_distinct_points", .glo "is_permutation", .glo "check_group", .glo "check_prefix", .glo "unit", .glo "compose", .glo "invert", .glo "tower_of", .glo "listed", .glo "base_points", .glo "orbit_sizes", .glo "order", .glo "_floors", .glo "all_elements", .glo "_law_taken", .glo "_law_small", .glo "_law_large", .glo "_law_pick", .glo "_law_perm", .glo "_law_mul", .glo "_law_inv", .glo "_law_conj", .glo "_law_unit", .glo "_law_known", .glo "_law_group", .glo "_law_closure", .glo "_law_base", .glo "_law_alike", .glo "law", .free "all", .free "bool", .free "enumerate", .free "int", .free "isinstance", .free "len", .free "list", .free "min", .free "range", .free "reversed", .free "set", .free "sorted", .free "str", .free "tuple", .free "type", .int "MOST_DEGREE" 12, .int "MOST_GENERATORS" 12, .int "MOST_LISTED" 2000, .cls "Tape", .mkr "Tape", .glo "Tape", .cls "Floor", .mkr "Floor", .glo "Floor", .cls "Tower", .mkr "Tower", .glo "Tower", .noat "Tape" "one", .noat "Tape" "places", .noat "Tape" "steps", .noat "Floor" "back", .noat "Floor" "forth", .noat "Floor" "generators", .noat "Floor" "pending", .noat "Floor" "point", .noat "Tower" "floors", .noat "Tower" "is_blind", .noat "Tower" "one", .noat "Tower" "tape", .meth "Tape" "joined", .meth "Tape" "flipped", .meth "Tape" "note", .meth "Tape" "times", .meth "Tape" "turned", .meth "Floor" "take", .meth "Floor" "reach", .meth "Tower" "sift", .meth "Tower" "take", .meth "Tower" "settle", .meth "Tower" "try_pair", .meth "Tower" "trim", .meth "Tower" "holds", .meth "Tower" "sizes", .meth "Tower" "order"]
def tfL : List He.Defn := tabL.map fun x => (x, none)
def exF (K : PySem.W.Frag) : Bool := dftB K "tower_of" && emB K (kwA "base_points" "prefix" K) && emB K (kwA "orbit_sizes" "prefix" K)
theorem tx_of {K : PySem.W.Frag} {mg : Str → Option Value} {base h : Heap} {w : World} (X : K.In h) (G : h.Ns mainGlobals mg) (c : He.SaysX faL fnL [] tfL exF w h K) (TB : ∀ p ∈ tfL.map (He.cT K), GxR.TabB base mg p.1 p.2) : TX K mg base := by
  have F0 := fun_of (st := sis_between) (c.t.d.def_ 0 (d := d_is_between) rfl)
  have B0 := F0.binds (ps := ["value", "low", "high"]) fun _ _ _ _ _ _ us hl => match us, hl with | [_, _, _], _ => rfl
  have F1 := fun_of (st := sis_row) (c.t.d.def_ 1 (d := d_is_row) rfl)
  have B1 := F1.binds (ps := ["value", "most"]) fun _ _ _ _ _ _ us hl => match us, hl with | [_, _], _ => rfl
  have F2 := fun_of (st := sis_tuple_of) (c.t.d.def_ 2 (d := d_is_tuple_of) rfl)
  have B2 := F2.binds (ps := ["value", "size"]) fun _ _ _ _ _ _ us hl => match us, hl with | [_, _], _ => rfl
  have F3 := fun_of (st := sis_degree) (c.t.d.def_ 3 (d := d_is_degree) rfl)
  have B3 := F3.binds (ps := ["value"]) fun _ _ _ _ _ _ us hl => match us, hl with | [_], _ => rfl
  have F4 := fun_of (st := sis_point) (c.t.d.def_ 4 (d := d_is_point) rfl)
  have B4 := F4.binds (ps := ["degree", "value"]) fun _ _ _ _ _ _ us hl => match us, hl with | [_, _], _ => rfl
  have F5 := fun_of (st := sare_points) (c.t.d.def_ 5 (d := d_are_points) rfl)
  have B5 := F5.binds (ps := ["degree", "value"]) fun _ _ _ _ _ _ us hl => match us, hl with | [_, _], _ => rfl
  have F6 := fun_of (st := sare_distinct_points) (c.t.d.def_ 6 (d := d_are_distinct_points) rfl)
  have B6 := F6.binds (ps := ["degree", "value"]) fun _ _ _ _ _ _ us hl => match us, hl with | [_, _], _ => rfl
  have F7 := fun_of (st := sis_permutation) (c.t.d.def_ 7 (d := d_is_permutation) rfl)
  have B7 := F7.binds (ps := ["degree", "value"]) fun _ _ _ _ _ _ us hl => match us, hl with | [_, _], _ => rfl
  have F8 := fun_of (st := scheck_group) (c.t.d.def_ 8 (d := d_check_group) rfl)
  have B8 := F8.binds (ps := ["value"]) fun _ _ _ _ _ _ us hl => match us, hl with | [_], _ => rfl
  have F9 := fun_of (st := scheck_prefix) (c.t.d.def_ 9 (d := d_check_prefix) rfl)
  have B9 := F9.binds (ps := ["degree", "value"]) fun _ _ _ _ _ _ us hl => match us, hl with | [_, _], _ => rfl
  have F10 := fun_of (st := sunit) (c.t.d.def_ 10 (d := d_unit) rfl)
  have B10 := F10.binds (ps := ["degree"]) fun _ _ _ _ _ _ us hl => match us, hl with | [_], _ => rfl
  have F11 := fun_of (st := scompose) (c.t.d.def_ 11 (d := d_compose) rfl)
  have B11 := F11.binds (ps := ["p", "q"]) fun _ _ _ _ _ _ us hl => match us, hl with | [_, _], _ => rfl
  have F12 := fun_of (st := sinvert) (c.t.d.def_ 12 (d := d_invert) rfl)
  have B12 := F12.binds (ps := ["p"]) fun _ _ _ _ _ _ us hl => match us, hl with | [_], _ => rfl
  have F13 := fun_ofA (st := sTape___init__) (c.t.d.def_ 13 (d := d_Tape___init__) rfl)
  have B13 := F13.binds (ps := ["self", "one", "generators"]) fun _ _ _ _ _ _ us hl => match us, hl with | [_, _, _], _ => rfl
  have F14 := fun_ofA (st := sTape_joined) (c.t.d.def_ 14 (d := d_Tape_joined) rfl)
  have B14 := F14.binds (ps := ["self", "p", "q"]) fun _ _ _ _ _ _ us hl => match us, hl with | [_, _, _], _ => rfl
  have F15 := fun_ofA (st := sTape_flipped) (c.t.d.def_ 15 (d := d_Tape_flipped) rfl)
  have B15 := F15.binds (ps := ["self", "p"]) fun _ _ _ _ _ _ us hl => match us, hl with | [_, _], _ => rfl
  have F16 := fun_ofA (st := sTape_note) (c.t.d.def_ 16 (d := d_Tape_note) rfl)
  have B16 := F16.binds (ps := ["self", "p", "step"]) fun _ _ _ _ _ _ us hl => match us, hl with | [_, _, _], _ => rfl
  have F17 := fun_ofA (st := sTape_times) (c.t.d.def_ 17 (d := d_Tape_times) rfl)
  have B17 := F17.binds (ps := ["self", "p", "q"]) fun _ _ _ _ _ _ us hl => match us, hl with | [_, _, _], _ => rfl
  have F18 := fun_ofA (st := sTape_turned) (c.t.d.def_ 18 (d := d_Tape_turned) rfl)
  have B18 := F18.binds (ps := ["self", "p"]) fun _ _ _ _ _ _ us hl => match us, hl with | [_, _], _ => rfl
  have F19 := fun_ofA (st := sFloor___init__) (c.t.d.def_ 19 (d := d_Floor___init__) rfl)
  have B19 := F19.binds (ps := ["self", "point", "one"]) fun _ _ _ _ _ _ us hl => match us, hl with | [_, _, _], _ => rfl
  have F20 := fun_ofA (st := sFloor_take) (c.t.d.def_ 20 (d := d_Floor_take) rfl)
  have B20 := F20.binds (ps := ["self", "p"]) fun _ _ _ _ _ _ us hl => match us, hl with | [_, _], _ => rfl
  have F21 := fun_ofA (st := sFloor_reach) (c.t.d.def_ 21 (d := d_Floor_reach) rfl)
  have B21 := F21.binds (ps := ["self", "image", "carry", "turned"]) fun _ _ _ _ _ _ us hl => match us, hl with | [_, _, _, _], _ => rfl
  have F22 := fun_ofA (st := sTower___init__) (c.t.d.def_ 22 (d := d_Tower___init__) rfl)
  have B22 := F22.binds (ps := ["self", "degree", "generators", "points"]) fun _ _ _ _ _ _ us hl => match us, hl with | [_, _, _, _], _ => rfl
  have F23 := fun_ofDA (st := sTower_sift) (c.t.d.def_ 23 (d := d_Tower_sift) rfl)
  have B23 := F23.binds1 (ps := ["self", "p", "start"]) 2 0 (by intro h; cases h) rfl fun T kV doc pm an cdv ct us its hl hi => match us, its, hl, hi with | [_, _], [_], _, _ => ⟨_, rfl, rfl⟩
  have C23 := F23.binds1 (ps := ["self", "p", "start"]) 3 1 (by intro h; cases h) rfl fun T kV doc pm an cdv ct us its hl hi => match us, its, hl, hi with | [_, _, _], [_], _, _ => ⟨_, rfl, rfl⟩
  have F24 := fun_ofA (st := sTower_take) (c.t.d.def_ 24 (d := d_Tower_take) rfl)
  have B24 := F24.binds (ps := ["self", "p", "start"]) fun _ _ _ _ _ _ us hl => match us, hl with | [_, _, _], _ => rfl
  have F25 := fun_ofA (st := sTower_settle) (c.t.d.def_ 25 (d := d_Tower_settle) rfl)
  have B25 := F25.binds (ps := ["self"]) fun _ _ _ _ _ _ us hl => match us, hl with | [_], _ => rfl
  have F26 := fun_ofA (st := sTower_try_pair) (c.t.d.def_ 26 (d := d_Tower_try_pair) rfl)
  have B26 := F26.binds (ps := ["self", "at"]) fun _ _ _ _ _ _ us hl => match us, hl with | [_, _], _ => rfl
  have F27 := fun_ofA (st := sTower_trim) (c.t.d.def_ 27 (d := d_Tower_trim) rfl)
  have B27 := F27.binds (ps := ["self", "many"]) fun _ _ _ _ _ _ us hl => match us, hl with | [_, _], _ => rfl
  have F28 := fun_ofA (st := sTower_holds) (c.t.d.def_ 28 (d := d_Tower_holds) rfl)
  have B28 := F28.binds (ps := ["self", "p"]) fun _ _ _ _ _ _ us hl => match us, hl with | [_, _], _ => rfl
  have F29 := fun_ofA (st := sTower_sizes) (c.t.d.def_ 29 (d := d_Tower_sizes) rfl)
  have B29 := F29.binds (ps := ["self"]) fun _ _ _ _ _ _ us hl => match us, hl with | [_], _ => rfl
  have F30 := fun_ofA (st := sTower_order) (c.t.d.def_ 30 (d := d_Tower_order) rfl)
  have B30 := F30.binds (ps := ["self"]) fun _ _ _ _ _ _ us hl => match us, hl with | [_], _ => rfl
  have F31 := fun_ofD (st := stower_of) (c.t.d.def_ 31 (d := d_tower_of) rfl)
  have B31 := F31.binds1 (ps := ["group", "first"]) 1 0 (by intro h; cases h) rfl fun T kV doc pm an cdv ct us its hl hi => match us, its, hl, hi with | [_], [_], _, _ => ⟨_, rfl, rfl⟩
  have C31 := F31.binds1 (ps := ["group", "first"]) 2 1 (by intro h; cases h) rfl fun T kV doc pm an cdv ct us its hl hi => match us, its, hl, hi with | [_, _], [_], _, _ => ⟨_, rfl, rfl⟩
  have F32 := fun_of (st := slisted) (c.t.d.def_ 32 (d := d_listed) rfl)
  have B32 := F32.binds (ps := ["group", "most"]) fun _ _ _ _ _ _ us hl => match us, hl with | [_, _], _ => rfl
  have F33 := fun_ofDK (st := sbase_points) (c.t.d.def_ 33 (d := d_base_points) rfl)
  have B33 := F33.binds0 (ps := ["group", "prefix"]) 1 (by intro h; cases h) rfl fun D doc pm an cdv ct us ks hl hk => match us, ks, hl, hk with | [_], [_], _, _ => ⟨_, _, _, _, _, _, rfl, rfl, rfl⟩
  have F34 := fun_ofDK (st := sorbit_sizes) (c.t.d.def_ 34 (d := d_orbit_sizes) rfl)
  have B34 := F34.binds0 (ps := ["group", "prefix"]) 1 (by intro h; cases h) rfl fun D doc pm an cdv ct us ks hl hk => match us, ks, hl, hk with | [_], [_], _, _ => ⟨_, _, _, _, _, _, rfl, rfl, rfl⟩
  have F35 := fun_of (st := sorder) (c.t.d.def_ 35 (d := d_order) rfl)
  have B35 := F35.binds (ps := ["group"]) fun _ _ _ _ _ _ us hl => match us, hl with | [_], _ => rfl
  have F36 := fun_of (st := s_floors) (c.t.d.def_ 36 (d := d__floors) rfl)
  have B36 := F36.binds (ps := ["group", "prefix"]) fun _ _ _ _ _ _ us hl => match us, hl with | [_, _], _ => rfl
  have F37 := fun_of (st := sall_elements) (c.t.d.def_ 37 (d := d_all_elements) rfl)
  have B37 := F37.binds (ps := ["group"]) fun _ _ _ _ _ _ us hl => match us, hl with | [_], _ => rfl
  have F38 := fun_of (st := s_law_taken) (c.t.d.def_ 38 (d := d__law_taken) rfl)
  have B38 := F38.binds (ps := ["row", "many"]) fun _ _ _ _ _ _ us hl => match us, hl with | [_, _], _ => rfl
  have F39 := fun_of (st := s_law_small) (c.t.d.def_ 39 (d := d__law_small) rfl)
  have B39 := F39.binds (ps := []) fun _ _ _ _ _ _ us hl => match us, hl with | [], _ => rfl
  have F40 := fun_of (st := s_law_large) (c.t.d.def_ 40 (d := d__law_large) rfl)
  have B40 := F40.binds (ps := []) fun _ _ _ _ _ _ us hl => match us, hl with | [], _ => rfl
  have F41 := fun_of (st := s_law_pick) (c.t.d.def_ 41 (d := d__law_pick) rfl)
  have B41 := F41.binds (ps := ["row", "things"]) fun _ _ _ _ _ _ us hl => match us, hl with | [_, _], _ => rfl
  have F42 := fun_of (st := s_law_perm) (c.t.d.def_ 42 (d := d__law_perm) rfl)
  have B42 := F42.binds (ps := ["row", "degree"]) fun _ _ _ _ _ _ us hl => match us, hl with | [_, _], _ => rfl
  have F43 := fun_of (st := s_law_mul) (c.t.d.def_ 43 (d := d__law_mul) rfl)
  have B43 := F43.binds (ps := ["p", "q"]) fun _ _ _ _ _ _ us hl => match us, hl with | [_, _], _ => rfl
  have F44 := fun_of (st := s_law_inv) (c.t.d.def_ 44 (d := d__law_inv) rfl)
  have B44 := F44.binds (ps := ["p"]) fun _ _ _ _ _ _ us hl => match us, hl with | [_], _ => rfl
  have F45 := fun_of (st := s_law_conj) (c.t.d.def_ 45 (d := d__law_conj) rfl)
  have B45 := F45.binds (ps := ["p", "g"]) fun _ _ _ _ _ _ us hl => match us, hl with | [_, _], _ => rfl
  have F46 := fun_of (st := s_law_unit) (c.t.d.def_ 46 (d := d__law_unit) rfl)
  have B46 := F46.binds (ps := ["degree"]) fun _ _ _ _ _ _ us hl => match us, hl with | [_], _ => rfl
  have F47 := fun_of (st := s_law_known) (c.t.d.def_ 47 (d := d__law_known) rfl)
  have B47 := F47.binds (ps := ["row", "degree", "most"]) fun _ _ _ _ _ _ us hl => match us, hl with | [_, _, _], _ => rfl
  have F48 := fun_of (st := s_law_group) (c.t.d.def_ 48 (d := d__law_group) rfl)
  have B48 := F48.binds (ps := ["row", "degree", "most"]) fun _ _ _ _ _ _ us hl => match us, hl with | [_, _, _], _ => rfl
  have F49 := fun_of (st := s_law_closure) (c.t.d.def_ 49 (d := d__law_closure) rfl)
  have B49 := F49.binds (ps := ["degree", "gens"]) fun _ _ _ _ _ _ us hl => match us, hl with | [_, _], _ => rfl
  have F50 := fun_of (st := s_law_base) (c.t.d.def_ 50 (d := d__law_base) rfl)
  have B50 := F50.binds (ps := ["every", "degree", "prefix"]) fun _ _ _ _ _ _ us hl => match us, hl with | [_, _, _], _ => rfl
  have F51 := fun_of (st := s_law_alike) (c.t.d.def_ 51 (d := d__law_alike) rfl)
  have B51 := F51.binds (ps := ["found", "due"]) fun _ _ _ _ _ _ us hl => match us, hl with | [_, _], _ => rfl
  have F52 := fun_of (st := slaw) (c.t.d.def_ 52 (d := d_law) rfl)
  have B52 := F52.binds (ps := ["script"]) fun _ _ _ _ _ _ us hl => match us, hl with | [_], _ => rfl
  exact ⟨F0,
    B0,
    He.glo_ok X G (c.t.d.fact 0 (f := .glo "is_between") rfl),
    F1,
    B1,
    He.glo_ok X G (c.t.d.fact 1 (f := .glo "is_row") rfl),
    F2,
    B2,
    He.glo_ok X G (c.t.d.fact 2 (f := .glo "is_tuple_of") rfl),
    F3,
    B3,
    He.glo_ok X G (c.t.d.fact 3 (f := .glo "is_degree") rfl),
    F4,
    B4,
    He.glo_ok X G (c.t.d.fact 4 (f := .glo "is_point") rfl),
    F5,
    B5,
    He.glo_ok X G (c.t.d.fact 5 (f := .glo "are_points") rfl),
    F6,
    B6,
    He.glo_ok X G (c.t.d.fact 6 (f := .glo "are_distinct_points") rfl),
    F7,
    B7,
    He.glo_ok X G (c.t.d.fact 7 (f := .glo "is_permutation") rfl),
    F8,
    B8,
    He.glo_ok X G (c.t.d.fact 8 (f := .glo "check_group") rfl),
    F9,
    B9,
    He.glo_ok X G (c.t.d.fact 9 (f := .glo "check_prefix") rfl),
    F10,
    B10,
    He.glo_ok X G (c.t.d.fact 10 (f := .glo "unit") rfl),
    F11,
    B11,
    He.glo_ok X G (c.t.d.fact 11 (f := .glo "compose") rfl),
    F12,
    B12,
    He.glo_ok X G (c.t.d.fact 12 (f := .glo "invert") rfl),
    F13,
    B13,
    F14,
    B14,
    F15,
    B15,
    F16,
    B16,
    F17,
    B17,
    F18,
    B18,
    F19,
    B19,
    F20,
    B20,
    F21,
    B21,
    F22,
    B22,
    F23,
    B23,
    C23,
    F24,
    B24,
    F25,
    B25,
    F26,
    B26,
    F27,
    B27,
    F28,
    B28,
    F29,
    B29,
    F30,
    B30,
    F31,
    B31,
    C31,
    He.glo_ok X G (c.t.d.fact 13 (f := .glo "tower_of") rfl),
    F32,
    B32,
    He.glo_ok X G (c.t.d.fact 14 (f := .glo "listed") rfl),
    F33,
    B33,
    He.glo_ok X G (c.t.d.fact 15 (f := .glo "base_points") rfl),
    F34,
    B34,
    He.glo_ok X G (c.t.d.fact 16 (f := .glo "orbit_sizes") rfl),
    F35,
    B35,
    He.glo_ok X G (c.t.d.fact 17 (f := .glo "order") rfl),
    F36,
    B36,
    He.glo_ok X G (c.t.d.fact 18 (f := .glo "_floors") rfl),
    F37,
    B37,
    He.glo_ok X G (c.t.d.fact 19 (f := .glo "all_elements") rfl),
    F38,
    B38,
    He.glo_ok X G (c.t.d.fact 20 (f := .glo "_law_taken") rfl),
    F39,
    B39,
    He.glo_ok X G (c.t.d.fact 21 (f := .glo "_law_small") rfl),
    F40,
    B40,
    He.glo_ok X G (c.t.d.fact 22 (f := .glo "_law_large") rfl),
    F41,
    B41,
    He.glo_ok X G (c.t.d.fact 23 (f := .glo "_law_pick") rfl),
    F42,
    B42,
    He.glo_ok X G (c.t.d.fact 24 (f := .glo "_law_perm") rfl),
    F43,
    B43,
    He.glo_ok X G (c.t.d.fact 25 (f := .glo "_law_mul") rfl),
    F44,
    B44,
    He.glo_ok X G (c.t.d.fact 26 (f := .glo "_law_inv") rfl),
    F45,
    B45,
    He.glo_ok X G (c.t.d.fact 27 (f := .glo "_law_conj") rfl),
    F46,
    B46,
    He.glo_ok X G (c.t.d.fact 28 (f := .glo "_law_unit") rfl),
    F47,
    B47,
    He.glo_ok X G (c.t.d.fact 29 (f := .glo "_law_known") rfl),
    F48,
    B48,
    He.glo_ok X G (c.t.d.fact 30 (f := .glo "_law_group") rfl),
    F49,
    B49,
    He.glo_ok X G (c.t.d.fact 31 (f := .glo "_law_closure") rfl),
    F50,
    B50,
    He.glo_ok X G (c.t.d.fact 32 (f := .glo "_law_base") rfl),
    F51,
    B51,
    He.glo_ok X G (c.t.d.fact 33 (f := .glo "_law_alike") rfl),
    F52,
    B52,
    He.glo_ok X G (c.t.d.fact 34 (f := .glo "law") rfl),
    He.cls_ok (c.t.d.fact 53 (f := .cls "Tape") rfl),
    He.mkr_ok (c.t.d.fact 54 (f := .mkr "Tape") rfl),
    He.glo_ok X G (c.t.d.fact 55 (f := .glo "Tape") rfl),
    He.cls_ok (c.t.d.fact 56 (f := .cls "Floor") rfl),
    He.mkr_ok (c.t.d.fact 57 (f := .mkr "Floor") rfl),
    He.glo_ok X G (c.t.d.fact 58 (f := .glo "Floor") rfl),
    He.cls_ok (c.t.d.fact 59 (f := .cls "Tower") rfl),
    He.mkr_ok (c.t.d.fact 60 (f := .mkr "Tower") rfl),
    He.glo_ok X G (c.t.d.fact 61 (f := .glo "Tower") rfl),
    He.noat_ok (c.t.d.fact 62 (f := .noat "Tape" "one") rfl),
    He.noat_ok (c.t.d.fact 63 (f := .noat "Tape" "places") rfl),
    He.noat_ok (c.t.d.fact 64 (f := .noat "Tape" "steps") rfl),
    He.noat_ok (c.t.d.fact 65 (f := .noat "Floor" "back") rfl),
    He.noat_ok (c.t.d.fact 66 (f := .noat "Floor" "forth") rfl),
    He.noat_ok (c.t.d.fact 67 (f := .noat "Floor" "generators") rfl),
    He.noat_ok (c.t.d.fact 68 (f := .noat "Floor" "pending") rfl),
    He.noat_ok (c.t.d.fact 69 (f := .noat "Floor" "point") rfl),
    He.noat_ok (c.t.d.fact 70 (f := .noat "Tower" "floors") rfl),
    He.noat_ok (c.t.d.fact 71 (f := .noat "Tower" "is_blind") rfl),
    He.noat_ok (c.t.d.fact 72 (f := .noat "Tower" "one") rfl),
    He.noat_ok (c.t.d.fact 73 (f := .noat "Tower" "tape") rfl),
    He.meth_ok (c.t.d.fact 74 (f := .meth "Tape" "joined") rfl),
    He.meth_ok (c.t.d.fact 75 (f := .meth "Tape" "flipped") rfl),
    He.meth_ok (c.t.d.fact 76 (f := .meth "Tape" "note") rfl),
    He.meth_ok (c.t.d.fact 77 (f := .meth "Tape" "times") rfl),
    He.meth_ok (c.t.d.fact 78 (f := .meth "Tape" "turned") rfl),
    He.meth_ok (c.t.d.fact 79 (f := .meth "Floor" "take") rfl),
    He.meth_ok (c.t.d.fact 80 (f := .meth "Floor" "reach") rfl),
    He.meth_ok (c.t.d.fact 81 (f := .meth "Tower" "sift") rfl),
    He.meth_ok (c.t.d.fact 82 (f := .meth "Tower" "take") rfl),
    He.meth_ok (c.t.d.fact 83 (f := .meth "Tower" "settle") rfl),
    He.meth_ok (c.t.d.fact 84 (f := .meth "Tower" "try_pair") rfl),
    He.meth_ok (c.t.d.fact 85 (f := .meth "Tower" "trim") rfl),
    He.meth_ok (c.t.d.fact 86 (f := .meth "Tower" "holds") rfl),
    He.meth_ok (c.t.d.fact 87 (f := .meth "Tower" "sizes") rfl),
    He.meth_ok (c.t.d.fact 88 (f := .meth "Tower" "order") rfl),
    dft_ok (He.ba (He.ba c.more).1).1,
    em_ok (He.ba (He.ba c.more).1).2,
    em_ok (He.ba c.more).2,
    He.free_ok X G (c.t.d.fact 35 (f := .free "all") rfl),
    He.free_ok X G (c.t.d.fact 36 (f := .free "bool") rfl),
    He.free_ok X G (c.t.d.fact 37 (f := .free "enumerate") rfl),
    He.free_ok X G (c.t.d.fact 38 (f := .free "int") rfl),
    He.free_ok X G (c.t.d.fact 39 (f := .free "isinstance") rfl),
    He.free_ok X G (c.t.d.fact 40 (f := .free "len") rfl),
    He.free_ok X G (c.t.d.fact 41 (f := .free "list") rfl),
    He.free_ok X G (c.t.d.fact 42 (f := .free "min") rfl),
    He.free_ok X G (c.t.d.fact 43 (f := .free "range") rfl),
    He.free_ok X G (c.t.d.fact 44 (f := .free "reversed") rfl),
    He.free_ok X G (c.t.d.fact 45 (f := .free "set") rfl),
    He.free_ok X G (c.t.d.fact 46 (f := .free "sorted") rfl),
    He.free_ok X G (c.t.d.fact 47 (f := .free "str") rfl),
    He.free_ok X G (c.t.d.fact 48 (f := .free "tuple") rfl),
    He.free_ok X G (c.t.d.fact 49 (f := .free "type") rfl),
    gi_ok (He.int_ok X G (c.t.d.fact 50 (f := .int "MOST_DEGREE" 12) rfl)),
    gi_ok (He.int_ok X G (c.t.d.fact 51 (f := .int "MOST_GENERATORS" 12) rfl)),
    gi_ok (He.int_ok X G (c.t.d.fact 52 (f := .int "MOST_LISTED" 2000) rfl)),
    TB (He.cT K ("are_points", none)) (List.mem_map.mpr ⟨("are_points", none), by simp [tfL, tabL], rfl⟩)⟩
abbrev R : PySem.W.OpenRow := PySem.W.OpenLaw.row PySem.Challenge.rw_stronggens_k21_whole_orders
abbrev hk : PySem.W.Hook := He.hookX 5 faL fnL [] tfL exF
abbrev others : List Str := ((["_wall", "GroupError", "BadGroup", "TooMany", "BadPrefix", "MOST_DEGREE", "MOST_GENERATORS", "is_between", "is_row", "is_tuple_of", "is_degree", "is_point", "are_points", "are_distinct_points", "is_permutation", "check_group", "check_prefix", "unit", "compose", "invert", "Tape", "Floor", "Tower", "tower_of", "listed", "base_points", "orbit_sizes", "order"] : List Str) ++ (["_floors", "MOST_LISTED", "all_elements", "_law_taken", "_law_small", "_law_large", "_law_pick", "_law_perm", "_law_mul", "_law_inv", "_law_conj", "_law_unit", "_law_known", "_law_group", "_law_closure", "_law_base", "_law_alike"] : List Str))
def ob (s : PySem.W.SharedT) : He.AlX := He.obsX 5 faL fnL [] tfL exF (HandSHeadRun.getT s)
theorem ob_eq (s : PySem.W.SharedT) : ob s = hk.obs s.abs := He.obsX_eq (HandSHeadRun.getT_eq s)
set_option maxHeartbeats 0 in
theorem run (w : World) : HandSHeadRun.RunEq R (PySem.W.view R.prog [53]) hk ob 4000 ((["_wall", "GroupError", "BadGroup", "TooMany", "BadPrefix", "MOST_DEGREE", "MOST_GENERATORS", "is_between", "is_row", "is_tuple_of", "is_degree", "is_point", "are_points", "are_distinct_points", "is_permutation", "check_group", "check_prefix", "unit", "compose", "invert", "Tape", "Floor", "Tower", "tower_of", "listed", "base_points", "orbit_sizes", "order"] : List Str) ++ (["_floors", "MOST_LISTED", "all_elements", "_law_taken", "_law_small", "_law_large", "_law_pick", "_law_perm", "_law_mul", "_law_inv", "_law_conj", "_law_unit", "_law_known", "_law_group", "_law_closure", "_law_base", "_law_alike"] : List Str)) w := by
  intro os
  kernel_rfl
theorem facts {w : World} {K : PySem.W.Frag} {h : Heap} {mg : Str → Option Value} {f : Addr} (X : K.In h) (G : h.Ns mainGlobals mg) (hfa : mg ("law" : Str) = some (.ref f)) (c : He.SaysX faL fnL [] tfL exF w h K) :
    LamX.LawAtS PySem.Challenge.rw_stronggens_k21_whole_orders w K CX0 12 63 "script" mg f h := by
  obtain ⟨fd0, F0⟩ := c.t.d.def_ 52 (d := d_law) rfl
  have e := hfa.symm.trans (He.glo_ok X G (c.t.d.fact 34 (f := .glo "law") rfl))
  cases e
  have F : Fun K "law" "law" slaw (He.ga K "law") (fdK K "law") := fun_of ⟨fd0, F0⟩
  obtain ⟨oc, od, kV, doc, pm, an, cdv, ct, osl, ef, lk, hcd⟩ := F.ex
  refine ⟨fdK K "law", tfL.map (He.cT K), spLaw K, ?_, ?_, ?_, ?_, ?_, ?_⟩
  · intro p hp
    obtain ⟨q, hq, rfl⟩ := List.mem_map.mp hp
    exact c.empty q hq
  · intro p hp
    obtain ⟨q, hq, rfl⟩ := List.mem_map.mp hp
    exact c.out q hq
  · intro p hp
    obtain ⟨q, hq, rfl⟩ := List.mem_map.mp hp
    exact PySem.W.codeHd_of_K X (c.hd q hq)
  · intro s u
    rw [ef]
    exact .of_eq rfl
  · intro H a ns hl hb hH hS
    exact law_start hl hb hS fun x hx => ⟨#[], hH (He.cT K (x, none)) (List.mem_map.mpr ⟨(x, none), List.mem_map.mpr ⟨x, hx, rfl⟩, rfl⟩), by simp [TriplesOk]⟩
  · intro base hb hg hT
    exact ok_law (tx_of X G c fun p hp => ⟨(hT p hp).code, (hT p hp).bm, (hT p hp).gP⟩)
end KL
open PySem PySem.W PySem.Calls PyProof.Rows
set_option maxHeartbeats 0 in
theorem PySem.Challenge.cw_stronggens_k21_whole_orders_holds : PySem.Challenge.rw_stronggens_k21_whole_orders.Holds := by
  w_on; o_law
  refine HandSHeadRun.head_any (r := OpenLaw.row PySem.Challenge.rw_stronggens_k21_whole_orders) (q := view (OpenLaw.row PySem.Challenge.rw_stronggens_k21_whole_orders).prog [53]) (H := KL.hk) (ob := KL.ob) (M := 4000) (loose := ((["_wall", "GroupError", "BadGroup", "TooMany", "BadPrefix", "MOST_DEGREE", "MOST_GENERATORS", "is_between", "is_row", "is_tuple_of", "is_degree", "is_point", "are_points", "are_distinct_points", "is_permutation", "check_group", "check_prefix", "unit", "compose", "invert", "Tape", "Floor", "Tower", "tower_of", "listed", "base_points", "orbit_sizes", "order"] : List Str) ++ (["_floors", "MOST_LISTED", "all_elements", "_law_taken", "_law_small", "_law_large", "_law_pick", "_law_perm", "_law_mul", "_law_inv", "_law_conj", "_law_unit", "_law_known", "_law_group", "_law_closure", "_law_base", "_law_alike"] : List Str))) (d := HandSHeadRun.topDef (OpenLaw.row PySem.Challenge.rw_stronggens_k21_whole_orders).prog 53) (kwd := []) KL.ob_eq
    (by kernel_rfl) (fun s => by kernel_rfl) KL.run (by kernel_rfl) (by kernel_rfl) (by kernel_rfl) (by rfl) (by first | assumption | decide +kernel) (by decide +kernel) ⟨rfl, rfl, rfl, rfl, rfl, by decide +kernel⟩ ?hw ?hc
  case hw => w_witness2
  case hc =>
    refine LamX.walk_ofTsE (l := PySem.Challenge.rw_stronggens_k21_whole_orders) (n := 63) (k := 12) (x := "script") (CX := fun _ => L2.CX0) rfl (by decide) (by kernel_rfl) ⟨rfl, by decide, by decide⟩ ?F (fun _ _ _ _ _ z => z)
    intro w mg fa h Y G hmg0
    obtain ⟨K, KX, c⟩ := Y
    have hmg : mg ("law" : PySem.Str) = some (.ref fa) := by
      have e : (HandSHeadRun.topDef (OpenLaw.row PySem.Challenge.rw_stronggens_k21_whole_orders).prog 53).name = ("law" : PySem.Str) := by kernel_rfl
      rw [← e]
      exact hmg0
    exact ⟨K, KX, KL.facts KX G hmg c⟩

