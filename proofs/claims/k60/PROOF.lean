import PyProof.Rows.All
import Wide.All
import OpenK.AllK
import Wide.FinOn
import HandS.ForMost
import HandS.Steps
import HandS.Evl
import HandS.IsInst
import HandS.Wide
import HandS.WideBits
import HandS.Rev
import HandS.Zip
import HandS.Walk
import PySem.Challenge.RW_monochord_k60_exact_predictors
set_option Elab.async false
set_option linter.all false
set_option maxRecDepth 100000
set_option maxHeartbeats 4000000
namespace K60
open PySem PySem.Spec PyProof.Rows L2 Evl
def topS (i : Nat) : Stmt := PySem.Challenge.pw_monochord_k60_exact_predictors.main.body.getD i (.Pass ⟨0, 0, 0, 0⟩)
abbrev s_exact_predictors : Stmt := topS 1
theorem sc_exact_predictors : FnScope ["correlation", "found", "numerators", "before", "denominator", "order", "last", "mirrored", "a", "b"] ["correlation"] (defScope s_exact_predictors) := ⟨rfl, rfl, rfl, by decide +kernel, rfl, by decide +kernel, by decide +kernel⟩
abbrev s_last_numerator : Stmt := topS 2
theorem sc_last_numerator : FnScope ["correlation", "numerators", "denominator", "order", "known", "at"] ["correlation", "numerators", "denominator"] (defScope s_last_numerator) := ⟨rfl, rfl, rfl, by decide +kernel, rfl, by decide +kernel, by decide +kernel⟩
abbrev s_law_cell : Stmt := topS 4
theorem sc_law_cell : FnScope ["script", "k"] ["script", "k"] (defScope s_law_cell) := ⟨rfl, rfl, rfl, by decide +kernel, rfl, by decide +kernel, by decide +kernel⟩
abbrev s_law_integer : Stmt := topS 5
theorem sc_law_integer : FnScope ["value"] ["value"] (defScope s_law_integer) := ⟨rfl, rfl, rfl, by decide +kernel, rfl, by decide +kernel, by decide +kernel⟩
abbrev s_law_integers : Stmt := topS 6
theorem sc_law_integers : FnScope ["values", "value"] ["values"] (defScope s_law_integers) := ⟨rfl, rfl, rfl, by decide +kernel, rfl, by decide +kernel, by decide +kernel⟩
abbrev s_law_row : Stmt := topS 7
theorem sc_law_row : FnScope ["cell", "count", "bound", "rest", "mixed", "row", "k"] ["cell", "count", "bound"] (defScope s_law_row) := ⟨rfl, rfl, rfl, by decide +kernel, rfl, by decide +kernel, by decide +kernel⟩
abbrev s_law_sums : Stmt := topS 8
theorem sc_law_sums : FnScope ["values", "most", "sums", "i", "j"] ["values", "most"] (defScope s_law_sums) := ⟨rfl, rfl, rfl, by decide +kernel, rfl, by decide +kernel, by decide +kernel⟩
abbrev s_law_minors : Stmt := topS 9
theorem sc_law_minors : FnScope ["sums", "size", "rows", "i", "j", "minors", "before", "k", "product"] ["sums", "size"] (defScope s_law_minors) := ⟨rfl, rfl, rfl, by decide +kernel, rfl, by decide +kernel, by decide +kernel⟩
abbrev s_law_solves : Stmt := topS 10
theorem sc_law_solves : FnScope ["numerators", "denominator", "sums", "size", "k", "total", "j"] ["numerators", "denominator", "sums"] (defScope s_law_solves) := ⟨rfl, rfl, rfl, by decide +kernel, rfl, by decide +kernel, by decide +kernel⟩
abbrev s_law : Stmt := topS 11
theorem sc_law : FnScope ["script", "first", "samples", "most", "sums", "given", "actual", "minors", "k", "numerators", "denominator", "x"] ["script"] (defScope s_law) := ⟨rfl, rfl, rfl, by decide +kernel, rfl, by decide +kernel, by decide +kernel⟩
theorem hu64 {A : Around} {k : Nat} (hr : Room k A) : A.units + 64 < cLine := hr.units
/-! ### short words for readings -/
theorem ret_eq {v w : V} {H H' : Hp} {Q : VK} (k : RetV v H Q) (ex : Ex H H') (e : w = v) : Q w H' := e ▸ k H' ex
/-- isinstance(x, T), T a built-in class -/
theorem ev_isi {K : PySem.W.Frag} {σ : L2.St} {H : Hp} {ta : TE} {x : V} {t : String} {T : String} {b : Bool} (ha : Ev ta σ H x) (ht : ∀ H1, Ex H H1 → TyX K H1 x (.type t)) (hk : kitB t T = some b) :
    Ev (tCB (rIsi K) (tCons ta (tCons (tC (.ty T)) tNil))) σ H (.bl b) :=
  ev_cb (ea_cons ha (ea_cons ev_c ea_nil)) fun H1 e Q q => ⟨x, .ty T, _, _, b, rfl, .ty T, ht H1 e, kit_ty hk, q H1 (Ex.refl H1)⟩
theorem isi_int {K : PySem.W.Frag} {H : Hp} {i : Int} : ∀ H1, Ex H H1 → TyX K H1 (V.int i) (.type "int") := fun _ _ => .base (.int _)
theorem isi_bl {K : PySem.W.Frag} {H : Hp} {b : Bool} : ∀ H1, Ex H H1 → TyX K H1 (V.bl b) (.type "bool") := fun _ _ => .base (.bl _)
theorem isi_non {K : PySem.W.Frag} {H : Hp} : ∀ H1, Ex H H1 → TyX K H1 V.non (.type "NoneType") := fun _ _ => .base .non
theorem isi_lst {K : PySem.W.Frag} {H : Hp} {a : Addr} {xs : List V} (h : H a = some (.lst xs)) : ∀ H1, Ex H H1 → TyX K H1 (V.ref a) (.type "list") := fun _ e => .base (.lst (e _ _ h))
theorem isi_tup {K : PySem.W.Frag} {H : Hp} {a : Addr} {xs : List V} (h : H a = some (.tup xs)) : ∀ H1, Ex H H1 → TyX K H1 (V.ref a) (.type "tuple") := fun _ e => .base (.tup (e _ _ h))
theorem kit_ii : kitB "int" "int" = some true := by decide +kernel
theorem kit_ib : kitB "int" "bool" = some false := by decide +kernel
theorem kit_bb : kitB "bool" "bool" = some true := by decide +kernel
theorem kit_bi : kitB "bool" "int" = some true := by decide +kernel
theorem kit_ll : kitB "list" "list" = some true := by decide +kernel
theorem kit_tt : kitB "tuple" "tuple" = some true := by decide +kernel
theorem ev_isiI {K : PySem.W.Frag} {σ : L2.St} {H : Hp} {ta : TE} {i : Int} (ha : Ev ta σ H (.int i)) : Ev (tCB (rIsi K) (tCons ta (tCons (tC (.ty "int")) tNil))) σ H (.bl true) := ev_isi ha isi_int kit_ii
theorem ev_isiB {K : PySem.W.Frag} {σ : L2.St} {H : Hp} {ta : TE} {i : Int} (ha : Ev ta σ H (.int i)) : Ev (tCB (rIsi K) (tCons ta (tCons (tC (.ty "bool")) tNil))) σ H (.bl false) := ev_isi ha isi_int kit_ib
theorem ev_isiL {K : PySem.W.Frag} {σ : L2.St} {H : Hp} {ta : TE} {a : Addr} {xs : List V} (ha : Ev ta σ H (.ref a)) (h : H a = some (.lst xs)) : Ev (tCB (rIsi K) (tCons ta (tCons (tC (.ty "list")) tNil))) σ H (.bl true) := ev_isi ha (isi_lst h) kit_ll
theorem ev_isiBB {K : PySem.W.Frag} {σ : L2.St} {H : Hp} {ta : TE} {b : Bool} (ha : Ev ta σ H (.bl b)) : Ev (tCB (rIsi K) (tCons ta (tCons (tC (.ty "bool")) tNil))) σ H (.bl true) := ev_isi ha isi_bl kit_bb
theorem ev_chain {σ : L2.St} {H : Hp} {ta tb tc : TE} {g g' : Int → Int → Bool} {a b c : Int} (ha : Ev ta σ H (.int a)) (hb : Ev tb σ H (.int b)) (hc : Ev tc σ H (.int c)) :
    Ev (tChain (rI0 fun i j => .bl (g i j)) (rI0 fun i j => .bl (g' i j)) ta tb tc) σ H (.bl (g a b && g' b c)) := fun H1 e Q q =>
  ha H1 e _ fun H2 e2 => hb H2 (e.trans e2) _ fun H3 e3 => ⟨a, b, rfl, rfl, g a b, rfl, by
    cases hg : g a b with
    | true =>
      rw [if_pos rfl]
      rw [hg, Bool.true_and] at q
      exact hc H3 ((e.trans e2).trans e3) _ fun H4 e4 => ⟨b, c, rfl, rfl, q H4 ((e2.trans e3).trans e4)⟩
    | false =>
      rw [if_neg (by decide)]
      rw [hg, Bool.false_and] at q
      exact q H3 (e2.trans e3)⟩
theorem ev_isN {σ : L2.St} {H : Hp} {ta : TE} {x : V} (ha : Ev ta σ H x) : Ev (tOp rIsN ta (tC .non)) σ H (.bl (decide (x = .non))) := fun H1 e Q q => ha H1 e _ fun H2 e2 => ⟨rfl, q H2 e2⟩
theorem ev_notN {σ : L2.St} {H : Hp} {ta : TE} {x : V} (ha : Ev ta σ H x) : Ev (tOp rNotN ta (tC .non)) σ H (.bl (!decide (x = .non))) := fun H1 e Q q => ha H1 e _ fun H2 e2 => ⟨rfl, q H2 e2⟩
theorem ev_min2 {σ : L2.St} {H : Hp} {ta tb : TE} {i j : Int} (ha : Ev ta σ H (.int i)) (hb : Ev tb σ H (.int j)) :
    Ev (tCB (fun xs H Q => ∃ i j, xs = [.int i, .int j] ∧ Q (.int (if j < i then j else i)) H) (tCons ta (tCons tb tNil))) σ H (.int (if j < i then j else i)) :=
  ev_cb (ea_cons ha (ea_cons hb ea_nil)) fun H1 _ _ q => ⟨i, j, rfl, q H1 (Ex.refl H1)⟩
theorem ev_negI {σ : L2.St} {H : Hp} {ta : TE} {i : Int} (ha : Ev ta σ H (.int i)) : Ev (tUn (rU fun i => .int (-i)) ta) σ H (.int (-i)) := ev_un ha ru_neg
theorem ev_I0 {σ : L2.St} {H : Hp} {ta tb : TE} {g : Int → Int → V} {i j : Int} (ha : Ev ta σ H (.int i)) (hb : Ev tb σ H (.int j)) : Ev (tOp (rI0 g) ta tb) σ H (g i j) := ev_op ha hb rv_I0
theorem ev_I {σ : L2.St} {H : Hp} {ta tb : TE} {C : Int → Int → Prop} {g : Int → Int → V} {i j : Int} (ha : Ev ta σ H (.int i)) (hb : Ev tb σ H (.int j)) (hc : C i j) : Ev (tOp (rI C g) ta tb) σ H (g i j) := ev_op ha hb (rv_I hc)
theorem ev_eq {σ : L2.St} {H : Hp} {ta tb : TE} {x y : V} (ha : Ev ta σ H x) (hb : Ev tb σ H y) (hs : scal x y = true) : Ev (tOp rEq ta tb) σ H (.bl (decide (x = y))) := ev_op ha hb (rv_eq hs)
theorem ev_ne {σ : L2.St} {H : Hp} {ta tb : TE} {x y : V} (ha : Ev ta σ H x) (hb : Ev tb σ H y) (hs : scal x y = true) : Ev (tOp rNe ta tb) σ H (.bl (!decide (x = y))) := ev_op ha hb (rv_ne hs)
theorem et_B' {σ : L2.St} {H : Hp} {te : TE} {x : V} {b : Bool} (h : Ev te σ H x) (e : x = .bl b) : EvT (tB te) σ H b := et_B (e ▸ h)
theorem dec_lt {a b : Nat} : decide ((a : Int) < (b : Int)) = decide (a < b) := by
  by_cases h : a < b
  · rw [decide_eq_true h, decide_eq_true (by omega)]
  · rw [decide_eq_false h, decide_eq_false (by omega)]
theorem int_at {ns : List Int} {i : Nat} {x : V} (hx : (ns.map V.int)[i]? = some x) : ∃ n, ns[i]? = some n ∧ i < ns.length ∧ x = V.int n := by
  rw [List.getElem?_map] at hx
  cases en : ns[i]? with
  | none => rw [en] at hx; cases hx
  | some n => rw [en] at hx; exact ⟨n, rfl, (List.getElem?_eq_some_iff.mp en).1, (Option.some.inj hx).symm⟩
theorem at_int {ns : List Int} {i : Nat} {n : Int} (h : ns[i]? = some n) : (ns.map V.int)[i]? = some (V.int n) := by rw [List.getElem?_map, h]; rfl
local macro_rules | `(tactic| walk_at "side") => `(tactic| first
  | omega | (show CMul _ _; unfold CMul; omega) | (show CDiv _ _; unfold CDiv; omega) | (show CPow _ _; unfold CPow; omega) | (show (_ : Int) < _; omega) | (show (_ : Int) ≤ _; omega) | decide)
local macro_rules | `(tactic| walk_at "ev") => `(tactic| first
  | exact ev_var rfl
  | exact ev_c
  | (refine' ev_I0 ?h1 ?h2; (case h1 => walk_at "ev"); (case h2 => walk_at "ev"))
  | (refine' ev_negI ?h1; (case h1 => walk_at "ev"))
  | (refine' ev_I ?h1 ?h2 ?hc; (case h1 => walk_at "ev"); (case h2 => walk_at "ev"); (case hc => walk_at "side"))
  | (refine' ev_eq ?h1 ?h2 ?hc; (case h1 => walk_at "ev"); (case h2 => walk_at "ev"); (case hc => rfl))
  | (refine' ev_ne ?h1 ?h2 ?hc; (case h1 => walk_at "ev"); (case h2 => walk_at "ev"); (case hc => rfl))
  | (refine' ev_max2 ?h1 ?h2; (case h1 => walk_at "ev"); (case h2 => walk_at "ev"))
  | (refine' ev_min2 ?h1 ?h2; (case h1 => walk_at "ev"); (case h2 => walk_at "ev"))
  | (refine' ev_chain ?h1 ?h2 ?h3; (case h1 => walk_at "ev"); (case h2 => walk_at "ev"); (case h3 => walk_at "ev"))
  | (refine' ev_isN ?h1; (case h1 => walk_at "ev"))
  | (refine' ev_notN ?h1; (case h1 => walk_at "ev"))
  | (refine' ev_isiI ?h1; (case h1 => walk_at "ev"))
  | (refine' ev_isiB ?h1; (case h1 => walk_at "ev"))
  | (refine' ev_isiBB ?h1; (case h1 => walk_at "ev"))
  | (refine' ev_andV ?h1 (fun _ => ?h2); (case h1 => walk_at "ev"); (case h2 => walk_at "ev"))
  | (refine' ev_orV ?h1 (fun _ => ?h2); (case h1 => walk_at "ev"); (case h2 => walk_at "ev"))
  | (refine' ev_notV ?h1; (case h1 => walk_at "ev"))
  | walk_at "evmore")
local macro_rules | `(tactic| walk_at "et") => `(tactic| first
  | (refine' et_test ?h1; (case h1 => walk_at "ev"))
  | (refine' et_B ?h1; (case h1 => walk_at "ev"))
  | (refine' et_not ?h1; (case h1 => walk_at "et"))
  | (refine' et_and ?h1 (fun _ => ?h2); (case h1 => walk_at "et"); (case h2 => walk_at "et"))
  | (refine' et_or ?h1 (fun _ => ?h2); (case h1 => walk_at "et"); (case h2 => walk_at "et")))
local macro_rules | `(tactic| walk_at "ea") => `(tactic| first
  | exact ea_nil
  | (refine' ea_cons ?h1 ?h2; (case h1 => walk_at "ev"); (case h2 => walk_at "ea")))
local macro_rules | `(tactic| walk_at "when") => `(tactic| (refine' q_when ?h ?h1 ?h2; (case h => walk_at "et")))
local macro_rules | `(tactic| walk_at "whenS") => `(tactic| (refine' s_when ?h ?h1 ?h2; (case h => walk_at "et")))
local macro_rules | `(tactic| walk_at "if") => `(tactic| (refine' q_if ?h ?h1 ?h2; (case h => walk_at "et")))
local macro_rules | `(tactic| walk_at "ifS") => `(tactic| (refine' s_if ?h ?h1 ?h2; (case h => walk_at "et")))
local macro_rules | `(tactic| walk_at "ret") => `(tactic| (refine' s_ret ?h ?h1; (case h => walk_at "ev")))
local macro_rules | `(tactic| walk_at "asg") => `(tactic| (refine' q_asg ?h ?h1; (case h => walk_at "ev")))
local macro_rules | `(tactic| walk_at "asgS") => `(tactic| (refine' s_asg ?h ?h1; (case h => walk_at "ev")))

/-! ### lists, existing or new -/
def EvR (te : TE) (σ : L2.St) (H : Hp) (xs : List V) : Prop := ∀ H1, Ex H H1 → ∀ Q : VK, (∀ p H2, Ex H1 H2 → H2 p = some (.lst xs) → Q (.ref p) H2) → te σ H1 Q
def EvS (K : PySem.W.Frag) (te : TE) (σ : L2.St) (H : Hp) (xs : List V) : Prop := ∀ H1, Ex H H1 → ∀ Q : VK, (∀ p H2, Ex H1 H2 → SqL K H2 p xs → Q (.ref p) H2) → te σ H1 Q
section
variable {K : PySem.W.Frag} {σ : L2.St} {H H' : Hp} {ta tb te : TE} {xs ys : List V} {a : Addr}
theorem EvL.r (h : EvL te σ H xs) : EvR te σ H xs := fun H1 e Q q => h H1 e Q fun p H2 _ e2 h2 => q p H2 e2 h2
theorem Ev.r (h : Ev te σ H (.ref a)) (hx : H a = some (.lst xs)) : EvR te σ H xs := fun H1 e Q q => h H1 e Q fun H2 e2 => q a H2 e2 (e2 _ _ (e _ _ hx))
theorem EvR.s (h : EvR te σ H xs) : EvS K te σ H xs := fun H1 e Q q => h H1 e Q fun p H2 e2 h2 => q p H2 e2 (sq_of h2)
theorem Ev.s (h : Ev te σ H (.ref a)) (hx : SqL K H a xs) : EvS K te σ H xs := fun H1 e Q q => h H1 e Q fun H2 e2 => q a H2 e2 (ex_l e2 (ex_l e hx))
theorem EvR.mono (e : Ex H H') (h : EvR te σ H xs) : EvR te σ H' xs := fun H1 a Q q => h H1 (e.trans a) Q q
theorem EvS.mono (e : Ex H H') (h : EvS K te σ H xs) : EvS K te σ H' xs := fun H1 a Q q => h H1 (e.trans a) Q q
theorem EvL.is (h : EvL te σ H xs) (e : xs = ys) : EvL te σ H ys := e ▸ h
theorem EvR.is (h : EvR te σ H xs) (e : xs = ys) : EvR te σ H ys := e ▸ h
theorem el_cat (ha : EvR ta σ H xs) (hb : EvR tb σ H ys) (hl : xs.length + ys.length ≤ 100000) : EvL (tOp rCat ta tb) σ H (xs ++ ys) := fun H1 e Q q =>
  ha H1 e _ fun p H2 e2 h2 => hb H2 (e.trans e2) _ fun r H3 e3 h3 => ⟨p, r, xs, ys, rfl, rfl, e3 _ _ h2, h3, sz_of hl, fun l hl => q l _ (fresh_back (e2.trans e3) hl) ((e2.trans e3).trans (Ex.new hl)) upd_same⟩
theorem el_rep {k : Int} (ha : EvR ta σ H xs) (hb : Ev tb σ H (.int k)) (hk : -(2 ^ 63) ≤ k ∧ k < 2 ^ 63) (hl : xs.length * k.toNat ≤ 100000) : EvL (tOp rRep ta tb) σ H (List.replicate k.toNat xs).flatten := fun H1 e Q q =>
  ha H1 e _ fun p H2 e2 h2 => hb H2 (e.trans e2) _ fun H3 e3 => ⟨p, k, xs, rfl, rfl, e3 _ _ h2, hk.1, hk.2, sz_of hl, fun l hl => q l _ (fresh_back (e2.trans e3) hl) ((e2.trans e3).trans (Ex.new hl)) upd_same⟩
theorem rep_one {x : V} (n : Nat) : (List.replicate n [x]).flatten = List.replicate n x := by
  induction n with
  | zero => rfl
  | succ n ih => rw [List.replicate_succ, List.replicate_succ, List.flatten_cons, ih]; rfl
theorem el_of {te : TE} (h : EvS K te σ H xs) : EvL (tCB (rListS K) (tCons te tNil)) σ H xs := fun H1 e Q q =>
  h H1 e _ fun p H2 e2 h2 => ⟨p, xs, rfl, .inl h2, fun l hl => q l _ (fresh_back e2 hl) (e2.trans (Ex.new hl)) upd_same⟩
theorem ev_lenS (h : EvS K te σ H xs) : Ev (tCB (rLenS K) (tCons te tNil)) σ H (.int (xs.length : Int)) := fun H1 e Q q =>
  h H1 e _ fun p H2 e2 h2 => ⟨p, xs, rfl, .inl h2, q H2 e2⟩
theorem ev_sum {ns : List Int} (h : EvS K te σ H (ns.map V.int)) : Ev (tCB (rSum K) (tCons te tNil)) σ H (.int ns.sum) := fun H1 e Q q =>
  h H1 e _ fun p H2 e2 h2 => ⟨p, ns, rfl, h2, q H2 e2⟩
theorem dp_ints {K : PySem.W.Frag} {H : Hp} : ∀ ns : List Int, DpAll K H (ns.map V.int) (ns.map PyData.int)
  | [] => .nil
  | n :: r => .cons (.int n) (dp_ints r)
theorem eqv_ints : ∀ ns ms : List Int, PyData.eqvAll (ns.map PyData.int) (ms.map PyData.int) = decide (ns = ms)
  | [], [] => by simp [PyData.eqvAll]
  | [], _ :: _ => by simp [PyData.eqvAll]
  | _ :: _, [] => by simp [PyData.eqvAll]
  | n :: r, m :: t => by
    show (PyData.eqv (.int n) (.int m) && PyData.eqvAll (r.map PyData.int) (t.map PyData.int)) = _
    rw [eqv_ints r t]
    show ((n == m) && decide (r = t)) = _
    by_cases h1 : n = m <;> by_cases h2 : r = t <;> simp [h1, h2]
theorem canLay_ints : ∀ ns : List Int, PyData.canLayAll0 (ns.map PyData.int) = true
  | [] => by simp [PyData.canLayAll0]
  | n :: r => by
    show PyData.canLayAll0 (PyData.int n :: r.map PyData.int) = true
    rw [PyData.canLayAll0, canLay_ints r]
    simp [PyData.canLay0]
theorem depth_ints : ∀ ns : List Int, PyData.depthAll (ns.map PyData.int) ≤ 1
  | [] => by simp [PyData.depthAll]
  | n :: r => by
    show PyData.depthAll (PyData.int n :: r.map PyData.int) ≤ 1
    have := depth_ints r
    simp only [PyData.depthAll, PyData.depth]
    omega
theorem shaped_ints (ns : List Int) : SeqAt.shaped (.list (ns.map PyData.int)) = true := by
  unfold SeqAt.shaped
  have h1 := canLay_ints ns
  have h2 := depth_ints ns
  have h3 : PyData.depth (.list (ns.map PyData.int)) ≤ 64 := by
    rw [PyData.depth]
    omega
  rw [decide_eq_true h3, Bool.and_true]
  simpa only [PyData.canLay0] using h1
theorem ev_eqI {ns ms : List Int} (ha : EvS K ta σ H (ns.map V.int)) (hb : EvS K tb σ H (ms.map V.int)) : Ev (tOp (rEqD K) ta tb) σ H (.bl (decide (ns = ms))) := fun H1 e Q q =>
  ha H1 e _ fun p H2 e2 h2 => hb H2 (e.trans e2) _ fun r H3 e3 h3 => ⟨.list (ns.map PyData.int), .list (ms.map PyData.int), .lst (ex_l e3 h2) (dp_ints ns), .lst h3 (dp_ints ms), shaped_ints ns, shaped_ints ms, by
    show Q (.bl (PyData.eqvAll (ns.map PyData.int) (ms.map PyData.int))) H3
    rw [eqv_ints]
    exact q H3 (e2.trans e3)⟩
theorem ev_neI {ns ms : List Int} (ha : EvS K ta σ H (ns.map V.int)) (hb : EvS K tb σ H (ms.map V.int)) : Ev (tOp (rNeD K) ta tb) σ H (.bl (!decide (ns = ms))) := fun H1 e Q q =>
  ha H1 e _ fun p H2 e2 h2 => hb H2 (e.trans e2) _ fun r H3 e3 h3 => ⟨.list (ns.map PyData.int), .list (ms.map PyData.int), .lst (ex_l e3 h2) (dp_ints ns), .lst h3 (dp_ints ms), shaped_ints ns, shaped_ints ms, by
    show Q (.bl (!PyData.eqvAll (ns.map PyData.int) (ms.map PyData.int))) H3
    rw [eqv_ints]
    exact q H3 (e2.trans e3)⟩
theorem ev_ixS {i : Nat} {n : Int} {tl ti : TE} {v : V} (h : EvS K tl σ H xs) (hi : Ev ti σ H (.int n)) (ha : atI xs n = some v) : Ev (tOp (rIxL K) tl ti) σ H v := fun H1 e Q q =>
  h H1 e _ fun p H2 e2 h2 => hi H2 (e.trans e2) _ fun H3 e3 => ⟨p, xs, n, v, rfl, rfl, ex_l e3 h2, ha, q H3 (e2.trans e3)⟩
theorem el_slS {tl th : TO} {lo hi : Option Int} (h : EvS K te σ H xs) (h1 : EvO tl σ H lo) (h2 : EvO th σ H hi) : EvL (tSl (rSlL K) te tl th) σ H (cutV xs lo hi) := fun H1 e _ q =>
  h H1 e _ fun a H2 e2 hs => h1 H2 (e.trans e2) _ fun H3 e3 => h2 H3 ((e.trans e2).trans e3) _ fun H4 e4 =>
    ⟨a, xs, rfl, ex_l (e3.trans e4) hs, fun p hp => q p _ (fresh_back ((e2.trans e3).trans e4) hp) (((e2.trans e3).trans e4).trans (Ex.new hp)) upd_same⟩
theorem ev_at {n : Int} {tl ti : TE} {v : V} (h : EvS K tl σ H xs) (hi : Ev ti σ H (.int n)) (ha : atI xs n = some v) : Ev (tOp (rIxL K) tl ti) σ H v := ev_ixS (i := 0) h hi ha
theorem cut_to (xs : List V) (i : Nat) : cutV xs none (some (i : Int)) = xs.take i := by
  unfold cutV
  rw [HT.sIx_none, HT.sIx_nat, List.drop_zero, Nat.sub_zero]
  by_cases h : i ≤ xs.length
  · rw [Nat.min_eq_left h]
  · rw [Nat.min_eq_right (by omega), List.take_of_length_le (Nat.le_refl _), List.take_of_length_le (by omega)]
theorem cut_from (xs : List V) (i : Nat) : cutV xs (some (i : Int)) none = xs.drop i := by
  unfold cutV
  rw [HT.sIx_none, HT.sIx_nat]
  by_cases h : i ≤ xs.length
  · rw [Nat.min_eq_left h, List.take_of_length_le (by rw [List.length_drop]; omega)]
  · rw [Nat.min_eq_right (by omega), List.drop_of_length_le (Nat.le_refl _), List.drop_of_length_le (show xs.length ≤ i by omega), List.take_nil]
theorem cut_mid (xs : List V) (i j : Nat) : cutV xs (some (i : Int)) (some (j : Int)) = (xs.drop i).take (j - i) := by
  unfold cutV
  rw [HT.sIx_nat, HT.sIx_nat]
  by_cases h : i ≤ xs.length
  · rw [Nat.min_eq_left h]
    by_cases h2 : j ≤ xs.length
    · rw [Nat.min_eq_left h2]
    · rw [Nat.min_eq_right (by omega), List.take_of_length_le (by rw [List.length_drop]; omega), List.take_of_length_le (by rw [List.length_drop]; omega)]
  · rw [Nat.min_eq_right (by omega : xs.length ≤ i), List.drop_of_length_le (Nat.le_refl _), List.drop_of_length_le (show xs.length ≤ i by omega)]
    simp
theorem el_to {th : TE} {ns : List Int} {i : Nat} (h : EvS K te σ H (ns.map V.int)) (h2 : Ev th σ H (.int i)) : EvL (tSl (rSlL K) te tNoPart (tPart th)) σ H ((ns.take i).map V.int) :=
  EvL.is (el_slS h eo_none (eo_some h2)) (by rw [List.map_take]; exact cut_to _ i)
theorem el_from {th : TE} {ns : List Int} {i : Nat} (h : EvS K te σ H (ns.map V.int)) (h2 : Ev th σ H (.int i)) : EvL (tSl (rSlL K) te (tPart th) tNoPart) σ H ((ns.drop i).map V.int) :=
  EvL.is (el_slS h (eo_some h2) eo_none) (by rw [List.map_drop]; exact cut_from _ i)
theorem el_mid {t1 t2 : TE} {ns : List Int} {i j : Nat} (h : EvS K te σ H (ns.map V.int)) (h1 : Ev t1 σ H (.int i)) (h2 : Ev t2 σ H (.int j)) : EvL (tSl (rSlL K) te (tPart t1) (tPart t2)) σ H (((ns.drop i).take (j - i)).map V.int) :=
  EvL.is (el_slS h (eo_some h1) (eo_some h2)) (by rw [List.map_take, List.map_drop]; exact cut_mid _ i j)
section
variable {D : Ends} {tz : TS} {sp : Sp} {dvs vs : List V} {E : XK} {tA : TA}
/-- x = f(..), whatever f promises -/
theorem q_asgC {i : Nat} (h : EvA tA σ H vs) (k : ∀ H1, Ex H H1 → sp (vs ++ dvs) H1 (fun x H2 => tz D (σ.set i (some x)) H2) E) : tSeq (tAsg (tCall sp dvs E tA) (gName i)) tz D σ H := h H (Ex.refl H) _ fun H1 e => k H1 e
theorem s_asgC {i : Nat} (h : EvA tA σ H vs) (k : ∀ H1, Ex H H1 → sp (vs ++ dvs) H1 (fun x H2 => D.nx (σ.set i (some x)) H2) E) : tAsg (tCall sp dvs E tA) (gName i) D σ H := h H (Ex.refl H) _ fun H1 e => k H1 e
theorem q_dropC (h : EvA tA σ H vs) (k : ∀ H1, Ex H H1 → sp (vs ++ dvs) H1 (fun _ H2 => tz D σ H2) E) : tSeq (tDrop (tCall sp dvs E tA)) tz D σ H := h H (Ex.refl H) _ fun H1 e => k H1 e
theorem s_retC (h : EvA tA σ H vs) (k : ∀ H1, Ex H H1 → sp (vs ++ dvs) H1 D.rt E) : tRet (tCall sp dvs E tA) D σ H := h H (Ex.refl H) _ fun H1 e => k H1 e
end
theorem gl_get {ns : List Int} {i : Nat} (h : i < ns.length) : ns[i]? = some (ns.getD i 0) := by
  rw [List.getD_eq_getElem?_getD, List.getElem?_eq_getElem h]
  rfl
theorem q_asgRaw {te : TE} {i : Nat} {D : Ends} {tz : TS} (P : V → Hp → Prop) (h : ∀ Q : VK, (∀ x H2, P x H2 → Q x H2) → te σ H Q) (k : ∀ x H2, P x H2 → tz D (σ.set i (some x)) H2) : tSeq (tAsg te (gName i)) tz D σ H := h _ k
/-- a, b = a pair -/
theorem q_asgT {te : TE} {i j : Nat} {D : Ends} {tz : TS} (P : V → V → Hp → Prop) (h : ∀ Q : VK, (∀ t x y H2, P x y H2 → SqT K H2 t [x, y] → Q (.ref t) H2) → te σ H Q) (k : ∀ x y H2, P x y H2 → tz D ((σ.set i (some x)).set j (some y)) H2) :
    tSeq (tAsg te (gTup K 2 (gCons (gName i) (gCons (gName j) gNil)))) tz D σ H := h _ fun t x y H2 hP hT => ⟨t, [x, y], rfl, hT, rfl, x, [y], rfl, y, [], rfl, rfl, k x y H2 hP⟩
/-- the law's cell -/
def cellI (ns : List Int) (k : Int) : Int := ns.getD k.toNat 0
theorem cellI_in {ns : List Int} {k : Int} (h0 : 0 ≤ k) (h : k < ns.length) : ns[k.toNat]? = some (cellI ns k) := by
  unfold cellI
  rw [List.getD_eq_getElem?_getD, List.getElem?_eq_getElem (by omega)]
  rfl
theorem cellI_out {ns : List Int} {k : Int} (h : ¬ k < ns.length) : cellI ns k = 0 := by
  unfold cellI
  rw [List.getD_eq_getElem?_getD, List.getElem?_eq_none (by omega)]
  rfl
end
theorem Ex.get {H H' : Hp} {a : Addr} {o : HO} (e : Ex H H') (h : H a = some o) : H' a = some o := e a o h
local macro_rules | `(tactic| walk_at "hp") => `(tactic| first
  | assumption
  | exact upd_same
  | (refine' Ex.get (by assumption) ?h1; (case h1 => walk_at "hp")))
local macro_rules | `(tactic| walk_at "ex") => `(tactic| first
  | assumption
  | exact Ex.refl _
  | (refine' Ex.trans ?h1 (by assumption); (case h1 => walk_at "ex")))
local macro_rules | `(tactic| walk_at "sq") => `(tactic| first
  | assumption
  | (refine' sq_of ?h1; (case h1 => walk_at "hp"))
  | (refine' ex_l (by assumption) ?h1; (case h1 => walk_at "sq")))
local macro_rules | `(tactic| walk_at "evs") => `(tactic| first
  | (refine' Ev.s ?h1 ?h2; (case h1 => exact ev_var rfl); (case h2 => walk_at "sq"))
  | (refine' EvR.s ?h1; (case h1 => walk_at "evr")))
local macro_rules | `(tactic| walk_at "evr") => `(tactic| first
  | (refine' Ev.r ?h1 ?h2; (case h1 => exact ev_var rfl); (case h2 => walk_at "hp"))
  | (refine' EvL.r ?h1; (case h1 => walk_at "el")))
local macro_rules | `(tactic| walk_at "eo") => `(tactic| first
  | exact eo_none
  | (refine' eo_some ?h1; (case h1 => walk_at "ev")))
local macro_rules | `(tactic| walk_at "el") => `(tactic| first
  | (refine' el_lst ?h1 ?h2; (case h1 => walk_at "ea"); (case h2 => exact Nat.le_of_ble_eq_true rfl))
  | (refine' el_cat ?h1 ?h2 ?h3; (case h1 => walk_at "evr"); (case h2 => walk_at "evr"); (case h3 => walk_at "len"))
  | (refine' el_rep ?h1 ?h2 ?h3 ?h4; (case h1 => walk_at "evr"); (case h2 => walk_at "ev"); (case h3 => walk_at "side2"); (case h4 => walk_at "len"))
  | (refine' el_of ?h1; (case h1 => walk_at "evs"))
  | (refine' el_to ?h1 ?h2; (case h1 => walk_at "evs"); (case h2 => walk_at "ev"))
  | (refine' el_from ?h1 ?h2; (case h1 => walk_at "evs"); (case h2 => walk_at "ev"))
  | (refine' el_mid ?h1 ?h2 ?h3; (case h1 => walk_at "evs"); (case h2 => walk_at "ev"); (case h3 => walk_at "ev"))
  | (refine' el_slS ?h1 ?h2 ?h3; (case h1 => walk_at "evs"); (case h2 => walk_at "eo"); (case h3 => walk_at "eo"))
  | walk_at "elmore")
local macro_rules | `(tactic| walk_at "evmore") => `(tactic| first
  | (refine' ev_lenS ?h1; (case h1 => walk_at "evs"))
  | (refine' ev_sum ?h1; (case h1 => walk_at "evs"))
  | (refine' ev_eqI ?h1 ?h2; (case h1 => walk_at "evs"); (case h2 => walk_at "evs"))
  | (refine' ev_neI ?h1 ?h2; (case h1 => walk_at "evs"); (case h2 => walk_at "evs"))
  | (refine' ev_at ?h1 ?h2 ?h3; (case h1 => walk_at "evs"); (case h2 => walk_at "ev"); (case h3 => walk_at "at"))
  | (refine' ev_isiL ?h1 ?h2; (case h1 => walk_at "ev"); (case h2 => walk_at "hp"))
  | walk_at "evown")
local macro_rules | `(tactic| walk_at "at") => `(tactic| first
  | exact at_of rfl (at_int (by assumption))
  | exact at_of rfl (by assumption))
local macro_rules | `(tactic| walk_at "asgL") => `(tactic| (refine' q_asgL ?h ?h1; (case h => walk_at "el")))
local macro_rules | `(tactic| walk_at "retL") => `(tactic| (refine' s_retL ?h ?h1; (case h => walk_at "el")))

/-- a walk's reading said in other words -/
theorem PI.k {X : Cx} {tg e : Expr} {wi wi' : TI} (h : PI X tg e wi) (q : wi = wi') : PI X tg e wi' := q ▸ h
/-! ### comprehensions whose items are said in a list -/
theorem et_yes {σ : L2.St} {H : Hp} : EvT tYes σ H true := fun H1 _ _ q => q H1 (Ex.refl H1)
section
variable {K : PySem.W.Frag} {σ : L2.St} {H : Hp} {t1 t2 te : TE} {xs ys zs : List V} {vs : List Nat}
theorem take_snoc {zs : List V} {i : Nat} {z : V} (h : zs[i]? = some z) : zs.take (i + 1) = zs.take i ++ [z] := by
  rw [List.take_add_one, h]
  rfl
theorem el_lcZ {j1 j2 : Nat} (zs : List V) (h1 : EvS K t1 σ H xs) (h2 : EvS K t2 σ H ys) (hz : zs.length = min xs.length ys.length) (hb : zs.length ≤ 50000)
    (hw : ∀ x y, wipe (((wipe σ vs).set j1 (some x)).set j2 (some y)) vs = wipe σ vs)
    (he : ∀ (i : Nat) (x y : V) H1, Ex H H1 → xs[i]? = some x → ys[i]? = some y → ∃ z, zs[i]? = some z ∧ Ev te (((wipe σ vs).set j1 (some x)).set j2 (some y)) H1 z) :
    EvL (tLc (iZip K (tCons t1 (tCons t2 tNil))) (gTup K 2 (gCons (gName j1) (gCons (gName j2) gNil))) tYes te vs) σ H zs := fun H0 e Q q =>
  h1 H0 e _ fun p H1 e1 hp => h2 H1 (e.trans e1) _ fun r H2 e2 hr => ⟨p, r, xs, ys, rfl, ex_l e2 hp, hr, fun D hD =>
    ⟨fun i m H' => m = zs.length - i ∧ i ≤ zs.length ∧ Ex H2 H' ∧ H' D = some (.lst (zs.take i)), ⟨zs.length, rfl, Nat.zero_le _, Ex.new hD, upd_same⟩, by
      rintro i m H' ⟨rfl, hi, ex, hd⟩
      have qx : SqL K H' p xs := ex_l (e2.trans ex) hp
      have qy : SqL K H' r ys := ex_l ex hr
      by_cases hlt : i < zs.length
      · have hx : xs[i]? = some xs[i] := List.getElem?_eq_getElem (by omega)
        have hy : ys[i]? = some ys[i] := List.getElem?_eq_getElem (by omega)
        refine .inr ⟨⟨xs, ys, _, _, qx, qy, hx, hy⟩, fun H3 => i + 1 ≤ zs.length ∧ Ex H2 H3 ∧ H3 D = some (.lst (zs.take (i + 1))), fun H3 h3 => ⟨zs.length - (i + 1), by omega, rfl, h3⟩, fun v H3 hv => ?_⟩
        obtain ⟨T, x, y, rfl, hT, rfl, f1, f2⟩ := hv
        have ex3 : Ex H' (upd H' T (.tup [x, y])) := Ex.new hT
        obtain ⟨z, hz1, hz2⟩ := he i x y (upd H' T (.tup [x, y])) ((((e.trans e1).trans e2).trans ex).trans ex3) (f1 _ qx) (f2 _ qy)
        refine ⟨T, [x, y], rfl, st_of upd_same, rfl, x, [y], rfl, y, [], rfl, rfl, hw x y, ?_⟩
        refine hz2 _ (Ex.refl _) _ fun H4 e4 => ⟨zs.take i, e4 _ _ (ex3 _ _ hd), sz_lt (by rw [List.length_take]; omega), hlt, ?_, ?_⟩
        · exact Ex.mut ((ex.trans ex3).trans e4) hD
        · rw [upd_same, take_snoc hz1]
      · have ei : i = zs.length := by omega
        refine .inl ⟨⟨xs, ys, qx, qy, by omega⟩, ?_⟩
        rw [ei, List.take_length] at hd
        exact q D H' (fresh_back (e1.trans e2) hD) ((e1.trans e2).trans ex) hd⟩⟩
/-- over a list, each item kept -/
theorem el_lcS {j : Nat} (zs : List V) (h1 : EvS K t1 σ H xs) (hz : zs.length = xs.length) (hb : zs.length ≤ 50000) (hw : ∀ x, wipe ((wipe σ vs).set j (some x)) vs = wipe σ vs)
    (he : ∀ (i : Nat) (x : V) H1, Ex H H1 → xs[i]? = some x → ∃ z, zs[i]? = some z ∧ Ev te ((wipe σ vs).set j (some x)) H1 z) :
    EvL (tLc (iList K t1) (gName j) tYes te vs) σ H zs := fun H0 e Q q =>
  h1 H0 e _ fun p H1 e1 hp => ⟨p, rfl, ⟨xs, hp⟩, fun D hD => lc_list (xs := xs) (fun i H' => Ex H1 H' ∧ H' D = some (.lst (zs.take i))) ⟨Ex.new hD, upd_same⟩ (fun i H' _ h => ex_l h.1 hp)
    (fun i x H' hi h => ⟨hw x, by
      obtain ⟨z, hz1, hz2⟩ := he i x H' ((e.trans e1).trans h.1) hi
      have hl : i < xs.length := (List.getElem?_eq_some_iff.mp hi).1
      refine hz2 H' (Ex.refl _) _ fun H4 e4 => ⟨zs.take i, e4 _ _ h.2, sz_lt (by rw [List.length_take]; omega), Ex.mut (h.1.trans e4) hD, ?_⟩
      rw [upd_same, take_snoc hz1]⟩)
    (fun H' h => q D H' (fresh_back e1 hD) (e1.trans h.1) (by rw [h.2, ← hz, List.take_length]))⟩
/-- over range(n) -/
theorem el_lcR {ta : TA} {n : Int} {j : Nat} (zs : List V) (h1 : EvA ta σ H [.int n]) (hn : -100000 ≤ n) (hz : zs.length = n.toNat) (hb : zs.length ≤ 50000) (hw : ∀ x, wipe ((wipe σ vs).set j (some x)) vs = wipe σ vs)
    (he : ∀ (i : Nat) H1, Ex H H1 → i < zs.length → ∃ z, zs[i]? = some z ∧ Ev te ((wipe σ vs).set j (some (.int (i : Int)))) H1 z) :
    EvL (tLc (iRng1 ta) (gName j) tYes te vs) σ H zs := fun H0 e Q q =>
  h1 H0 e _ fun H1 e1 => ⟨n, rfl, by omega, by omega, fun D hD => lc_range (lo := 0) (n := n.toNat) (fun i H' => Ex H1 H' ∧ H' D = some (.lst (zs.take i))) ⟨Ex.new hD, upd_same⟩
    (fun i H' hi h => by
      have e0 : (0 : Int) + (i : Int) = (i : Int) := Int.zero_add _
      rw [e0]
      obtain ⟨z, hz1, hz2⟩ := he i H' ((e.trans e1).trans h.1) (by omega)
      refine ⟨hw _, hz2 H' (Ex.refl _) _ fun H4 e4 => ⟨zs.take i, e4 _ _ h.2, sz_lt (by rw [List.length_take]; omega), Ex.mut (h.1.trans e4) hD, ?_⟩⟩
      rw [upd_same, take_snoc hz1])
    (fun H' h => q D H' (fresh_back e1 hD) (e1.trans h.1) (by rw [h.2, show n.toNat = zs.length by omega, List.take_length]))⟩
/-- y = [.. for x in f(..)], whatever f promises -/
theorem s_asgLC {sp : Sp} {dvs args : List V} {E : XK} {ta : TA} {g : TG} {tt : TT} {D : Ends} {i : Nat} (h : EvA ta σ H args) (k : ∀ H1, Ex H H1 → sp (args ++ dvs) H1 (fun x H2 => tAsg (tLc (iList K (tC x)) g tt te vs) (gName i) D σ H2) E) :
    tAsg (tLc (iList K (tCall sp dvs E ta)) g tt te vs) (gName i) D σ H := h H (Ex.refl H) _ fun H1 e => k H1 e
theorem q_asgLC {sp : Sp} {dvs args : List V} {E : XK} {ta : TA} {g : TG} {tt : TT} {D : Ends} {i : Nat} {tz : TS} (h : EvA ta σ H args) (k : ∀ H1, Ex H H1 → sp (args ++ dvs) H1 (fun x H2 => tSeq (tAsg (tLc (iList K (tC x)) g tt te vs) (gName i)) tz D σ H2) E) :
    tSeq (tAsg (tLc (iList K (tCall sp dvs E ta)) g tt te vs) (gName i)) tz D σ H := h H (Ex.refl H) _ fun H1 e => k H1 e
theorem s_retLC {sp : Sp} {dvs args : List V} {E : XK} {ta : TA} {g : TG} {tt : TT} {D : Ends} (h : EvA ta σ H args) (k : ∀ H1, Ex H H1 → sp (args ++ dvs) H1 (fun x H2 => tRet (tLc (iList K (tC x)) g tt te vs) D σ H2) E) :
    tRet (tLc (iList K (tCall sp dvs E ta)) g tt te vs) D σ H := h H (Ex.refl H) _ fun H1 e => k H1 e
end

/-- [.. for i, x in enumerate(xs)] -/
theorem el_lcE {K : PySem.W.Frag} {σ : L2.St} {H : Hp} {t1 te : TE} {xs : List V} {vs : List Nat} {j1 j2 : Nat} (zs : List V) (h1 : EvS K t1 σ H xs) (hz : zs.length = xs.length) (hb : zs.length ≤ 50000)
    (hw : ∀ x y, wipe (((wipe σ vs).set j1 (some x)).set j2 (some y)) vs = wipe σ vs)
    (he : ∀ (i : Nat) (x : V) H1, Ex H H1 → xs[i]? = some x → ∃ z, zs[i]? = some z ∧ Ev te (((wipe σ vs).set j1 (some (.int (i : Int)))).set j2 (some x)) H1 z) :
    EvL (tLc (iEnum K (tCons t1 tNil)) (gTup K 2 (gCons (gName j1) (gCons (gName j2) gNil))) tYes te vs) σ H zs := fun H0 e Q q =>
  h1 H0 e _ fun p H1 e1 hp => ⟨p, xs, rfl, hp, fun D hD =>
    ⟨fun i m H' => m = zs.length - i ∧ i ≤ zs.length ∧ Ex H1 H' ∧ H' D = some (.lst (zs.take i)), ⟨zs.length, rfl, Nat.zero_le _, Ex.new hD, upd_same⟩, by
      rintro i m H' ⟨rfl, hi, ex, hd⟩
      have qx : SqL K H' p xs := ex_l ex hp
      by_cases hlt : i < zs.length
      · have hx : xs[i]? = some xs[i] := List.getElem?_eq_getElem (by omega)
        refine .inr ⟨⟨xs, _, qx, hx⟩, fun H3 => i + 1 ≤ zs.length ∧ Ex H1 H3 ∧ H3 D = some (.lst (zs.take (i + 1))), fun H3 h3 => ⟨zs.length - (i + 1), by omega, rfl, h3⟩, fun v H3 hv => ?_⟩
        obtain ⟨T, x, rfl, hT, rfl, f1⟩ := hv
        have ex3 : Ex H' (upd H' T (.tup [.int (i : Int), x])) := Ex.new hT
        obtain ⟨z, hz1, hz2⟩ := he i x (upd H' T (.tup [.int (i : Int), x])) (((e.trans e1).trans ex).trans ex3) (f1 _ qx)
        refine ⟨T, [.int (i : Int), x], rfl, st_of upd_same, rfl, .int (i : Int), [x], rfl, x, [], rfl, rfl, hw _ x, ?_⟩
        refine hz2 _ (Ex.refl _) _ fun H4 e4 => ⟨zs.take i, e4 _ _ (ex3 _ _ hd), sz_lt (by rw [List.length_take]; omega), hlt, ?_, ?_⟩
        · exact Ex.mut ((ex.trans ex3).trans e4) hD
        · rw [upd_same, take_snoc hz1]
      · have ei : i = zs.length := by omega
        refine .inl ⟨⟨xs, qx, by omega⟩, ?_⟩
        rw [ei, List.take_length] at hd
        exact q D H' (fresh_back e1 hD) (e1.trans ex) hd⟩⟩

/-! ### list(reversed(a list)) -/
theorem extend_rev {prog : Program} {w : World} {A : Around} {s : Shared} {R : Result → Shared → Prop} {it l S : Addr} {items : Array Value} {c0 : Nat} {res : Value} (hh : A.handled = none) (hit : s.heap.IsRevIter it l ((items.size : Int) - 1)) (hl : s.heap.IsList l items) (hne : l ≠ it) (hn : items.size ≤ sizeLine)
    (hS : s.heap.get? S = some { cls := .type "list", data := .seq #[] c0 }) (hSi : S ≠ it) (hSl : S ≠ l)
    (hR : ∀ (h' : Heap) (tk : Nat) (acc : Array Value) (c' : Nat), (∀ b o, b ≠ S → b ≠ it → s.heap.get? b = some o → h'.get? b = some o) → h'.get? S = some { cls := .type "list", dict := none, data := .seq acc c', slots := #[] } → ItemsOf (fun i v => items[items.size - 1 - i]? = some v) acc items.size → R (.ok (.ret res)) { s with heap := h', toks := tk }) :
    wpAny (model prog w) A.in1 (Builtin.List.listExtendWith (.ref S) (.ref it) res)
      (fun fin s' => match fin with | .done f => R (.ok f) s' | .again c' => c'.quiet = true ∧ codeAny (model prog w) A c' R s') (fun e s' => R (.error e) s') s := by
  have W := (Walks.listRev (prog := prog) (w := w) (A := A.in1) hh it l hne items).toS
  have hSf : S ∉ [it, l] := by simp only [List.mem_cons, List.not_mem_nil, or_false, not_or]; exact ⟨hSi, hSl⟩
  have hT : s.TypeIs (.ref it) "list_reverseiterator" := hit.typeIs
  have h1 : Builtin.List.listSameRef (.ref S) (.ref it) = false := by simp [Builtin.List.listSameRef, hSi]
  unfold Builtin.List.listExtendWith
  refine wpAny_bind (wpAny_typeOf hT ?_)
  rw [if_neg (by rw [h1]; decide)]
  refine wpAny_bind (wpAny_pyIter_revIter hit ?_)
  refine wpAny_bind (wpAny_holding ?_)
  unfold Builtin.List.listLengthHint
  refine wpAny_bind (wpAny_specialOf hT RT.nolen_lri ?_)
  show wpAny _ A.in1 (specialOf (Value.ref it) (Str.ofString "__length_hint__") >>= _) _ _ _
  refine wpAny_bind (wpAny_specialOf hT RT.hint_lri ?_)
  generalize hid : ("list_reverseiterator.__length_hint__" : String) = id0
  wp_delta
  rw [show splitId id0 = some ("list_reverseiterator", "__length_hint__") from by subst hid; decide +kernel]
  subst hid
  refine wpAny_bind (wpAny_isInstance (b := true) hT (by rw [isSubtype_type]; kernel_rfl) ?_)
  refine wpAny_pure ?_
  rw [if_neg (by decide)]
  have e0 : ((items.size : Nat) : Int) - 1 - ((0 : Nat) : Int) = (items.size : Int) - 1 := by omega
  refine wpAny_pure ⟨plainId_quiet F.plain_extend_loop _, codeAny_extend_loopS W hn S hSf _ items.size 0 _ _ _ rfl (Nat.zero_le _) ⟨Nat.zero_le _, by rw [e0]; exact hit, hl⟩ hS (ItemsOf.nil _) fun s' acc' c' hm hS' hacc => ?_⟩
  rw [Moved.eq_with hm]
  refine hR s'.heap s'.toks acc' c' (fun b o hb hb2 e => hm.heap b o (fun hmem => ?_) e) hS' hacc
  rcases List.mem_cons.mp hmem with e' | hmem
  · exact hb e'
  · exact hb2 (List.mem_singleton.mp hmem)
theorem call_list_rev {prog : Program} {w : World} {A : Around} {E : Value → Shared → Prop} {s : Shared} {Q : Value → Shared → Prop} {it l : Addr} {items : Array Value} (hh : A.handled = none) (hit : s.heap.IsRevIter it l ((items.size : Int) - 1)) (hl : s.heap.IsList l items) (hne : l ≠ it) (hn : items.size ≤ sizeLine)
    (hQ : ∀ (h' : Heap) (tk : Nat) (acc : Array Value) (c' : Nat), (∀ b o, b ≠ it → s.heap.get? b = some o → h'.get? b = some o) → h'.get? s.heap.objs.size = some { cls := .type "list", dict := none, data := .seq acc c', slots := #[] } → ItemsOf (fun i v => items[items.size - 1 - i]? = some v) acc items.size → Q (.ref s.heap.objs.size) { s with heap := h', toks := tk }) :
    wpAny (model prog w) A (call (.type "list") [.ref it]) Q E s := by
  refine callType_codes (Q₁ := fun obj s₁ => obj = .ref s.heap.objs.size ∧ s₁ = { s with heap := s.heap.push { cls := .type "list", data := .seq #[] } }) F.called_list (F.typeCall_list_1 _) F.entry_list_init
    (code_list_new _ ⟨rfl, rfl⟩) fun obj s₁ h₁ => ?_
  obtain ⟨rfl, rfl⟩ := h₁
  obtain ⟨S, hSs⟩ : ∃ S, S = s.heap.objs.size := ⟨_, rfl⟩
  rw [← hSs] at hQ ⊢
  have hS : (s.heap.push { cls := .type "list", data := .seq #[] }).get? S = some { cls := .type "list", data := .seq #[] } := by rw [hSs]; exact Heap.get?_push_size _ rfl
  obtain ⟨oi, hoi, _⟩ := id hit
  obtain ⟨ol, hol, _⟩ := id hl
  have hSi : S ≠ it := by rw [hSs]; exact Nat.ne_of_gt (Heap.lt_size hoi)
  have hSl : S ≠ l := by rw [hSs]; exact Nat.ne_of_gt (Heap.lt_size hol)
  refine ⟨⟨_, hS, rfl⟩, F.args_list_init_2 _ _, ?_⟩
  have hit1 : (s.heap.push { cls := .type "list", data := .seq #[] }).IsRevIter it l ((items.size : Int) - 1) := hit.at fun o e => Heap.get?_push_of_some _ e
  have hl1 : (s.heap.push { cls := .type "list", data := .seq #[] }).IsList l items := hl.push _
  have hk1 : ∀ b o, s.heap.get? b = some o → (s.heap.push { cls := .type "list", data := .seq #[] }).get? b = some o := fun b o e => Heap.get?_push_of_some _ e
  generalize s.heap.push { cls := .type "list", data := .seq #[] } = h1 at *
  show wpAny _ _ (do let old ← Builtin.List.listItems (.ref S); Builtin.List.listUpdate (.ref S) (fun _ => #[]); letGo old.toList.reverse; Builtin.List.listExtendWith (.ref S) (.ref it) .none) _ _ _
  refine wpAny_bind ?_
  unfold Builtin.List.listItems
  refine wpAny_bind (wpAny_seqItems hS rfl (wpAny_pure ?_))
  show wpAny _ _ (updateSeq S (fun _ => #[]) >>= fun _ => letGo (#[] : Array Value).toList.reverse >>= fun _ => Builtin.List.listExtendWith (.ref S) (.ref it) .none) _ _ _
  refine wpAny_bind (wpAny_updateSeq hS rfl ?_)
  have hS₂ := Heap.get?_update_self (Obj.mapSeq (fun _ => (#[] : Array Value))) hS rfl
  have oth : ∀ b o, b ≠ S → h1.get? b = some o → (h1.update S (Obj.mapSeq (fun _ => (#[] : Array Value)))).get? b = some o :=
    fun b o hb e => (Heap.get?_update_other _ _ (Ne.symm hb)).trans e
  refine wpAny_bind (wpAny_letGo ?_)
  refine extend_rev (A := A.in1) (s := { s with heap := h1.update S (Obj.mapSeq (fun _ => (#[] : Array Value))) }) hh (hit1.at fun o e => oth _ o (Ne.symm hSi) e) (by
    obtain ⟨o, e, r⟩ := hl1
    exact ⟨o, oth _ o (Ne.symm hSl) e, r⟩) hne hn hS₂ hSi hSl fun h' tk acc c' hk hS' hacc => ?_
  exact ⟨rfl, hQ h' tk acc c' (fun b o hb e => hk b o (by rw [hSs]; exact Nat.ne_of_lt (Heap.lt_size e)) hb (oth b o (by rw [hSs]; exact Nat.ne_of_lt (Heap.lt_size e)) (hk1 b o e))) hS' hacc⟩
/-- list(reversed(x)), x a list: a new list -/
def tListRev (K : PySem.W.Frag) (te : TE) : TE := fun σ H Q => te σ H fun v H1 => ∃ (a : Addr) (xs : List V), v = .ref a ∧ SqL K H1 a xs ∧ ∀ q, H1 q = none → Q (.ref q) (upd H1 q (.lst xs.reverse))
theorem pe_listRev {X : Cx} {e : Expr} {te : TE} {p p2 pos pos2 : Pos} (hc : X.calm = true) (hg : Gl X "list") (hm : X.mg "list" = none) (hg2 : Gl X "reversed") (hm2 : X.mg "reversed" = none) (he : PE X e te)
    (hs : starEach [e] X.env = (false, eval e X.env) :: starEach [] X.env := by rfl)
    (hs2 : starEach [.Call (.Name "reversed" p2) [e] [] pos2] X.env = (false, eval (.Call (.Name "reversed" p2) [e] [] pos2) X.env) :: starEach [] X.env := by rfl) :
    PE X (.Call (.Name "list" p) [.Call (.Name "reversed" p2) [e] [] pos2] [] pos) (tListRev X.K te) := by
  refine ⟨fun pins s σ H Q I h => ?_⟩
  refine Call_ (ld_blt I hg hm boot_list (PyProof.Rows.callWith_type1 (args_cons (Call_ (ld_blt I hg2 hm2 PyProof.Rows.boot_reversed (PyProof.Rows.callWith_type1 (args_cons (thn (he.run pins s σ H _ I h) fun u s1 ⟨v, H1, I1, r1, q1⟩ => args_nil ?_) hs) hs rfl))) hs2) hs2 rfl))
  obtain ⟨a, xs, ev, hq, q⟩ := q1
  subst ev
  obtain rfl : u = Value.ref a := r1
  obtain ⟨its, rv, p', hz⟩ := I1.list hq
  refine call_reversed_list p'.isList (args_nil ?_)
  have k0 : ∀ b o, s1.heap.get? b = some o → (s1.heap.push (revObj a ((its.toArray.size : Int) - 1))).get? b = some o := fun b o e => Heap.get?_push_of_some _ e
  have hl := p'.isList
  obtain ⟨ol, hol, _⟩ := id hl
  have hne : a ≠ s1.heap.objs.size := Nat.ne_of_lt (Heap.lt_size hol)
  have hn : its.toArray.size ≤ sizeLine := by rw [List.size_toArray, ← rv.length]; exact hz
  refine call_list_rev (s := { s1 with heap := s1.heap.push (revObj a ((its.toArray.size : Int) - 1)) }) (I1.ok.hd hc) ⟨_, Heap.get?_push_size _ rfl, rfl, rfl⟩ (hl.push _) hne hn fun h' tk acc c' hk hS' hi => ?_
  have hle : s1.heap.objs.size ≤ (s1.heap.push (revObj a ((its.toArray.size : Int) - 1))).objs.size := by
    show _ ≤ (s1.heap.objs.push _).size
    rw [Array.size_push]
    omega
  refine ⟨.ref (s1.heap.push (revObj a ((its.toArray.size : Int) - 1))).objs.size, upd H1 (s1.heap.push (revObj a ((its.toArray.size : Int) - 1))).objs.size (.lst xs.reverse), I1.laid (t' := tk) (fun b o e => hk b o (Nat.ne_of_lt (Heap.lt_size e)) (k0 b o e)) hle (show ObjOk X.prog X.w _ h' _ (.lst xs.reverse) from ⟨by rw [List.length_reverse]; exact hz, acc.toList, c', RT.vals_rev rv hi, ?_⟩), rfl, q _ (I1.hok.fresh hle)⟩
  rw [Array.toArray_toList]
  exact hS'

/-- what the top has left -/
structure TX (K : PySem.W.Frag) (mg : Str → Option Value) where
  a_exact_predictors : Addr
  d_exact_predictors : FuncData
  F_exact_predictors : Fun K "exact_predictors" "exact_predictors" s_exact_predictors a_exact_predictors d_exact_predictors
  b_exact_predictors : Binds K d_exact_predictors ["correlation"] []
  g_exact_predictors : mg "exact_predictors" = some (.ref a_exact_predictors)
  a_last_numerator : Addr
  d_last_numerator : FuncData
  F_last_numerator : Fun K "_last_numerator" "_last_numerator" s_last_numerator a_last_numerator d_last_numerator
  b_last_numerator : Binds K d_last_numerator ["correlation", "numerators", "denominator"] []
  g_last_numerator : mg "_last_numerator" = some (.ref a_last_numerator)
  a_law_cell : Addr
  d_law_cell : FuncData
  F_law_cell : Fun K "_law_cell" "_law_cell" s_law_cell a_law_cell d_law_cell
  b_law_cell : Binds K d_law_cell ["script", "k"] []
  g_law_cell : mg "_law_cell" = some (.ref a_law_cell)
  a_law_integer : Addr
  d_law_integer : FuncData
  F_law_integer : Fun K "_law_integer" "_law_integer" s_law_integer a_law_integer d_law_integer
  b_law_integer : Binds K d_law_integer ["value"] []
  g_law_integer : mg "_law_integer" = some (.ref a_law_integer)
  a_law_integers : Addr
  d_law_integers : FuncData
  F_law_integers : Fun K "_law_integers" "_law_integers" s_law_integers a_law_integers d_law_integers
  b_law_integers : Binds K d_law_integers ["values"] []
  g_law_integers : mg "_law_integers" = some (.ref a_law_integers)
  a_law_row : Addr
  d_law_row : FuncData
  F_law_row : Fun K "_law_row" "_law_row" s_law_row a_law_row d_law_row
  b_law_row : Binds K d_law_row ["cell", "count", "bound"] []
  g_law_row : mg "_law_row" = some (.ref a_law_row)
  a_law_sums : Addr
  d_law_sums : FuncData
  F_law_sums : Fun K "_law_sums" "_law_sums" s_law_sums a_law_sums d_law_sums
  b_law_sums : Binds K d_law_sums ["values", "most"] []
  g_law_sums : mg "_law_sums" = some (.ref a_law_sums)
  a_law_minors : Addr
  d_law_minors : FuncData
  F_law_minors : Fun K "_law_minors" "_law_minors" s_law_minors a_law_minors d_law_minors
  b_law_minors : Binds K d_law_minors ["sums", "size"] []
  g_law_minors : mg "_law_minors" = some (.ref a_law_minors)
  a_law_solves : Addr
  d_law_solves : FuncData
  F_law_solves : Fun K "_law_solves" "_law_solves" s_law_solves a_law_solves d_law_solves
  b_law_solves : Binds K d_law_solves ["numerators", "denominator", "sums"] []
  g_law_solves : mg "_law_solves" = some (.ref a_law_solves)
  a_law : Addr
  d_law : FuncData
  F_law : Fun K "law" "law" s_law a_law d_law
  b_law : Binds K d_law ["script"] []
  g_law : mg "law" = some (.ref a_law)
  m_range : mg "range" = none
  m_len : mg "len" = none
  m_list : mg "list" = none
  m_reversed : mg "reversed" = none
  m_zip : mg "zip" = none
  m_sum : mg "sum" = none
  m_isinstance : mg "isinstance" = none
  m_int : mg "int" = none
  m_bool : mg "bool" = none
  m_all : mg "all" = none
  m_abs : mg "abs" = none
  m_tuple : mg "tuple" = none
section
variable {P : Program} {w : World} {K : PySem.W.Frag} {mg : Str → Option Value} {base : Heap}
/-! ### int(x), bits of a number -/
theorem Ev.is {σ : L2.St} {H : Hp} {te : TE} {x y : V} (h : Ev te σ H x) (e : x = y) : Ev te σ H y := e ▸ h
theorem ev_int1 {σ : L2.St} {H : Hp} {te : TE} {i : Int} (h : Ev te σ H (.int i)) : Ev (tCB (fun xs H Q => (∃ i, xs = [V.int i] ∧ Q (V.int i) H) ∨ ∃ k, xs = [V.bl k] ∧ Q (V.int (if k = true then 1 else 0)) H) (tCons te tNil)) σ H (.int i) :=
  ev_cb (ea_cons h ea_nil) fun H1 _ Q q => .inl ⟨i, rfl, q H1 (Ex.refl H1)⟩
theorem q_augR {σ : L2.St} {H : Hp} {te : TE} {D : Ends} {tz : TS} {i : Nat} {g : Int → Int → V} {a b : Int} (h1 : σ[i]? = some (some (.int a))) (h : Ev te σ H (.int b)) (k : ∀ H1, Ex H H1 → tz D (σ.set i (some (g a b))) H1) : tSeq (tAug i te (rI0 g)) tz D σ H :=
  ⟨_, h1, h H (Ex.refl H) _ fun H1 e => ⟨a, b, rfl, rfl, k H1 e⟩⟩
theorem s_augR {σ : L2.St} {H : Hp} {te : TE} {D : Ends} {i : Nat} {g : Int → Int → V} {a b : Int} (h1 : σ[i]? = some (some (.int a))) (h : Ev te σ H (.int b)) (k : ∀ H1, Ex H H1 → D.nx (σ.set i (some (g a b))) H1) : tAug i te (rI0 g) D σ H :=
  ⟨_, h1, h H (Ex.refl H) _ fun H1 e => ⟨a, b, rfl, rfl, k H1 e⟩⟩
theorem ev_atT {K : PySem.W.Frag} {σ : L2.St} {H : Hp} {tl ti : TE} {t : Addr} {xs : List V} {n : Int} {v : V} (h : Ev tl σ H (.ref t)) (hT : SqT K H t xs) (hi : Ev ti σ H (.int n)) (ha : atI xs n = some v) : Ev (tOp (rIxT K) tl ti) σ H v := fun H1 e Q q =>
  h H1 e _ fun H2 e2 => hi H2 (e.trans e2) _ fun H3 e3 => ⟨t, xs, n, v, rfl, rfl, ex_t ((e.trans e2).trans e3) hT, ha, q H3 (e2.trans e3)⟩
local macro_rules | `(tactic| walk_at "side") => `(tactic| first
  | omega
  | (show CDivW _ _; exact ⟨by omega, by decide⟩)
  | (show CDivW _ _; exact wide_div (b := 80) (by omega) (by omega) (by decide) (by decide)))
local macro_rules | `(tactic| walk_at "evown") => `(tactic| (refine' ev_int1 ?h1; (case h1 => walk_at "ev")))
/-- numbers from 0 on, as such -/
def cs (ds : List Nat) : List Int := ds.map fun d : Nat => (d : Int)
theorem cs_of {ns : List Int} {b : Int} (h : ∀ n ∈ ns, 0 ≤ n ∧ n < b) : ∃ ds : List Nat, ns = cs ds ∧ ds.length = ns.length ∧ ∀ d ∈ ds, (d : Int) < b := by
  refine ⟨ns.map Int.toNat, ?_, List.length_map .., fun d hd => ?_⟩
  · unfold cs
    rw [List.map_map]
    conv => lhs; rw [← List.map_id ns]
    refine List.map_congr_left fun n hn => ?_
    have := (h n hn).1
    show n = ((n.toNat : Nat) : Int)
    omega
  · obtain ⟨n, hn, rfl⟩ := List.mem_map.mp hd
    have := h n hn
    omega
theorem cs_len (ds : List Nat) : (cs ds).length = ds.length := List.length_map ..
theorem cs_at {ds : List Nat} {i : Nat} {d : Nat} (h : ds[i]? = some d) : (cs ds)[i]? = some (d : Int) := by unfold cs; rw [List.getElem?_map, h]; rfl
theorem cs_take (ds : List Nat) (i : Nat) : (cs ds).take i = cs (ds.take i) := by unfold cs; rw [List.map_take]
theorem cs_drop (ds : List Nat) (i : Nat) : (cs ds).drop i = cs (ds.drop i) := by unfold cs; rw [List.map_drop]
theorem cs_append (ds es : List Nat) : cs (ds ++ es) = cs ds ++ cs es := List.map_append ..

theorem ev_all {σ : L2.St} {H : Hp} {te : TE} {bs : List Bool} {b : Bool} (h : EvS K te σ H (bs.map V.bl)) (hb : bs.all id = b) : Ev (tCB (rAll K) (tCons te tNil)) σ H (.bl b) := fun H1 e Q q => h H1 e _ fun p H2 e2 hp => ⟨p, bs, rfl, hp, by rw [hb]; exact q H2 e2⟩

def sp_cell (K : PySem.W.Frag) : Sp := fun vs H Q _ => ∃ (a : Addr) (ns : List Int) (k : Int), vs = [.ref a, .int k] ∧ SqL K H a (ns.map V.int) ∧ 0 ≤ k ∧ RetV (.int (cellI ns k)) H Q
theorem ok_law_cell (T : TX K mg) : FnOk P w K mg base CX0 1 T.a_law_cell T.d_law_cell ["script", "k"] (sp_cell K) := by
  refine T.F_law_cell.ok sc_law_cell (fun vs H Q E h => by obtain ⟨a, ns, k, rfl, _⟩ := h; rfl) (fun cdv A outer s H vs Q E hr h => ?_)
  obtain ⟨a, ns, k, rfl, hS, hk, q⟩ := h
  refine ⟨_, (pss_cons (ps_if (pt_cmpR op_lt (pv 1) (pe_callB (r := rLenS K) call_len_seq (by rfl) T.m_len PySem.boot_len (pa_cons (pv 0) pa_nil)) (nomark _)) (pss_one (ps_ret (pe_ix (r := rIxL K) ix_list (pv 0) (pv 1) (fun _ _ => rfl)))) pss_nil)
      (pss_one (ps_ret pe_int))), ?_⟩
  have hl := (ev_lenS (K := K) (Ev.s (te := tVar 0) (σ := start ["script", "k"] [.ref a, .int k]) (ev_var rfl) hS))
  refine q_when (et_test (ev_I0 (ev_var rfl) hl)) ?_ ?_
  · intro hb H1 e1
    have hb : k < ns.length := by
      have := of_decide_eq_true hb
      rwa [List.length_map] at this
    refine s_ret (v := .int (cellI ns k)) (ev_ixS (i := 0) (n := k) (Ev.s (ev_var rfl) (ex_l e1 hS)) (ev_var rfl) ?_) fun H2 e2 => q H2 (e1.trans e2)
    exact at_of (j := k.toNat) (by omega) (at_int (cellI_in hk hb))
  · intro hb H1 e1
    have hb : ¬ k < ns.length := by
      have := of_decide_eq_false hb
      rwa [List.length_map] at this
    walk_at "ret"
    intro H2 e2
    exact ret_eq q (e1.trans e2) (by rw [cellI_out hb])
theorem ev_cell {σ : L2.St} {H : Hp} {ta tk : TE} {E : XK} {ns : List Int} {k : Int} {a : Addr} (ha : Ev ta σ H (.ref a)) (hS : SqL K H a (ns.map V.int)) (hk : Ev tk σ H (.int k)) (h0 : 0 ≤ k) : Ev (tCall (sp_cell K) [] E (tCons ta (tCons tk tNil))) σ H (.int (cellI ns k)) :=
  ev_call (ea_cons ha (ea_cons hk ea_nil)) fun H1 e Q q _ => ⟨a, ns, k, rfl, ex_l e hS, h0, q⟩
local macro_rules | `(tactic| walk_at "evown") => `(tactic| (refine' ev_cell ?h1 ?h2 ?h3 ?h4; (case h1 => exact ev_var rfl); (case h2 => walk_at "sq"); (case h3 => walk_at "ev"); (case h4 => walk_at "side")))

/-! ### weights, autocorrelation -/
def wgt (ns : List Int) : List Int := (List.range ns.length).map fun i => ns.getD i 0 * ((i : Int) + 1) * ((ns.length : Int) - i)
theorem wgt_len (ns : List Int) : (wgt ns).length = ns.length := by unfold wgt; rw [List.length_map, List.length_range]
theorem wgt_at {ns : List Int} {i : Nat} {n : Int} (h : ns[i]? = some n) : (wgt ns)[i]? = some (n * ((i : Int) + 1) * ((ns.length : Int) - i)) := by
  have hi := (List.getElem?_eq_some_iff.mp h).1
  unfold wgt
  rw [List.getElem?_map, List.getElem?_range hi]
  show some (ns.getD i 0 * _ * _) = _
  rw [List.getD_eq_getElem?_getD, h]
  rfl
def lagS (ns : List Int) (d : Nat) : Int := (List.zipWith (fun x y => x * y) (ns.drop d) ns).sum
def acor (ns : List Int) (m : Nat) : List Int := (List.range (m + 1)).map (lagS ns)
theorem acor_len (ns : List Int) (m : Nat) : (acor ns m).length = m + 1 := by unfold acor; rw [List.length_map, List.length_range]
theorem acor_at {ns : List Int} {m i : Nat} (h : i < m + 1) : (acor ns m)[i]? = some (lagS ns i) := by unfold acor; rw [List.getElem?_map, List.getElem?_range h]; rfl
def BdA (ns : List Int) : Prop := ∀ n ∈ ns, -(2 ^ 60) < n ∧ n < 2 ^ 60

def sp_isint : Sp := fun vs H Q _ => ∃ n : Int, vs = [.int n] ∧ RetV (.bl true) H Q
theorem ok_law_integer (T : TX K mg) : FnOk P w K mg base CX0 1 T.a_law_integer T.d_law_integer ["value"] sp_isint := by
  refine T.F_law_integer.ok sc_law_integer (fun vs H Q E h => by obtain ⟨n, rfl, _⟩ := h; rfl) (fun cdv A outer s H vs Q E hr h => ?_)
  obtain ⟨n, rfl, k⟩ := h
  refine ⟨_, (pss_one (ps_ret (pe_and (pe_callB (r := rIsi K) call_isi (by rfl) T.m_isinstance PyProof.Rows.boot_isinstance (pa_cons (pv 0) (pa_cons (pe_bltn (v := V.ty "int") (by rfl) T.m_int PyProof.Rows.boot_int rfl) pa_nil))) (pe_one (pe_not (pe_callB (r := rIsi K) call_isi (by rfl) T.m_isinstance PyProof.Rows.boot_isinstance (pa_cons (pv 0) (pa_cons (pe_bltn (v := V.ty "bool") (by rfl) T.m_bool PyProof.Rows.boot_bool rfl) pa_nil)))))))), ?_⟩
  walk_at "ret"
  intro H2 e2
  exact ret_eq k e2 rfl
theorem ev_isint {σ : L2.St} {H : Hp} {te : TE} {E : XK} {n : Int} (h : Ev te σ H (.int n)) : Ev (tCall sp_isint [] E (tCons te tNil)) σ H (.bl true) := ev_call (ea_cons h ea_nil) fun H1 _ Q q _ => ⟨n, rfl, q⟩

def sp_ints : Sp := fun vs H Q _ => ∃ (a : Addr) (ns : List Int), vs = [.ref a] ∧ H a = some (.lst (ns.map V.int)) ∧ ns.length ≤ 10000 ∧ RetV (.bl true) H Q
theorem ok_law_integers (T : TX K mg) : FnOk P w K mg base CX0 2 T.a_law_integers T.d_law_integers ["values"] sp_ints := by
  refine T.F_law_integers.ok sc_law_integers (fun vs H Q E h => by obtain ⟨a, ns, rfl, _⟩ := h; rfl) (fun cdv A outer s0 H vs Q E hr h => ?_)
  obtain ⟨a, ns, rfl, hA, hl, k⟩ := h
  refine ⟨_, (pss_cons (ps_if (pt_not (pt_val (pe_callB (r := rIsi K) call_isi (by rfl) T.m_isinstance PyProof.Rows.boot_isinstance (pa_cons (pv 0) (pa_cons (pe_bltn (v := V.ty "list") (by rfl) T.m_list PyProof.Rows.boot_list rfl) pa_nil))))) (pss_one (ps_ret pe_bl)) pss_nil)
      (pss_one (ps_ret (pe_callB (r := rAll K) (cr_all rfl) (by rfl) T.m_all PyProof.Rows.boot_all (pa_cons (pe_lc (own := [("value", 1)]) (g := gName 1) (tt := tYes) rfl sc_law_integers.nd (pi_list (pv 0)) (blkOk_by (N := ["values", "value"]) (sc := defScope s_law_integers) (by decide +kernel)) (fun _ _ _ _ _ => pg_name (i := 1) sc_law_integers.nd rfl (Or.inl rfl)) (fun _ _ _ _ _ => pts_nil) (fun _ _ _ _ _ => (pe_call (ok_law_integer T) (hr.mono (by decide)) (by rfl) T.g_law_integer T.F_law_integer.kp T.b_law_integer .nil pass0 (pa_cons (pv 1) pa_nil)))) pa_nil))))), ?_⟩
  walk_at "when"
  · intro hb
    exact absurd hb (by simp)
  intro _ H1 e1
  refine s_ret (v := .bl true) (ev_all (bs := ns.map fun _ => true) (EvR.s (EvL.r (EvL.is (xs := ns.map fun _ => V.bl true) (el_lcS _ (Ev.s (ev_var rfl) (sq_of (e1 _ _ hA))) (by rw [List.length_map, List.length_map]) (by rw [List.length_map]; omega) (fun _ => rfl) fun i x H2 e2 hx => ?_) (by rw [List.map_map]; rfl)))) (by simp)) fun H2 e2 => k.go (e1.trans e2)
  obtain ⟨n, hn, hi, rfl⟩ := int_at hx
  exact ⟨.bl true, by rw [List.getElem?_map, hn]; rfl, ev_isint (ev_var rfl)⟩
theorem ev_ints {σ : L2.St} {H : Hp} {te : TE} {E : XK} {ns : List Int} (h : EvR te σ H (ns.map V.int)) (hl : ns.length ≤ 10000) : Ev (tCall sp_ints [] E (tCons te tNil)) σ H (.bl true) := fun H1 e Q q =>
  h H1 e _ fun p H2 e2 hp => ⟨p, ns, rfl, hp, hl, fun H3 e3 => q H3 (e2.trans e3)⟩

/-! ### abs, int of a bool, the law's rows -/
theorem ev_abs {σ : L2.St} {H : Hp} {te : TE} {i : Int} (h : Ev te σ H (.int i)) : Ev (tCB (fun xs H Q => ∃ i, xs = [V.int i] ∧ Q (V.int (if i < 0 then -i else i)) H) (tCons te tNil)) σ H (.int (if i < 0 then -i else i)) :=
  ev_cb (ea_cons h ea_nil) fun H1 _ Q q => ⟨i, rfl, q H1 (Ex.refl H1)⟩
theorem ev_intB {σ : L2.St} {H : Hp} {te : TE} {b : Bool} (h : Ev te σ H (.bl b)) : Ev (tCB (fun xs H Q => (∃ i, xs = [V.int i] ∧ Q (V.int i) H) ∨ ∃ k, xs = [V.bl k] ∧ Q (V.int (if k = true then 1 else 0)) H) (tCons te tNil)) σ H (.int (if b = true then 1 else 0)) :=
  ev_cb (ea_cons h ea_nil) fun H1 _ Q q => .inr ⟨b, rfl, q H1 (Ex.refl H1)⟩
def sp_lrow : Sp := fun vs H Q _ => ∃ (c : Int) (n : Nat) (b : Int), vs = [.int c, .int (n : Int), .int b] ∧ n ≤ 1000 ∧ 0 < b ∧ b ≤ 2 ^ 50 ∧ ∀ p (ns : List Int) H', H p = none → Ex H H' → H' p = some (.lst (ns.map V.int)) → ns.length = n → (∀ x ∈ ns, 0 ≤ x ∧ x < b) → Q (.ref p) H'
theorem ok_law_row (T : TX K mg) : FnOk P w K mg base CX0 1 T.a_law_row T.d_law_row ["cell", "count", "bound"] sp_lrow := by
  refine T.F_law_row.ok sc_law_row (fun vs H Q E h => by obtain ⟨c, n, b, rfl, _⟩ := h; rfl) (fun cdv A outer s0 H vs Q E hr h => ?_)
  obtain ⟨c, n, b, rfl, hn, hb0, hb1, k⟩ := h
  refine ⟨_, (pss_cons (ps_set (i := 3) sc_law_row.nd rfl (Or.inl rfl) (pe_callB call_abs (by rfl) T.m_abs PyProof.Rows.boot_abs (pa_cons (pe_callTy call_int1 (by rfl) T.m_int PyProof.Rows.boot_int (pa_cons (pv 0) pa_nil)) pa_nil)))
      (pss_cons (ps_set (i := 4) sc_law_row.nd rfl (Or.inl rfl) (pe_op op_add (pe_op op_mod (pe_callTy call_int1 (by rfl) T.m_int PyProof.Rows.boot_int (pa_cons (pv 0) pa_nil)) pe_int) pe_int))
      (pss_cons (ps_set (i := 5) sc_law_row.nd rfl (Or.inl rfl) (pe_lst pa_nil))
      (pss_cons (ps_for PassesOwn.never rfl (pi_range1 (by rfl) T.m_range (pa_cons (pv 1) pa_nil)) (pg_name (i := 6) sc_law_row.nd rfl (Or.inl rfl)) (pss_one (ps_if (pt_cmpR op_ge (pv 3) (pv 2) (nomark _)) (pss_cons (ps_expr (pe_bm PySem.F.plainAttrs_list PySem.F.slot_list_append PySem.F.type_list_append mt_append (pv 5) (pa_cons (pe_op op_mod (pe_callTy call_int1 (by rfl) T.m_int PyProof.Rows.boot_int (pa_cons (pv 3) pa_nil)) (pv 2)) pa_nil)))
          (pss_one (ps_set (i := 3) sc_law_row.nd rfl (Or.inl rfl) (pe_op op_fdivW (pv 3) (pv 2))))) (pss_cons (ps_set (i := 4) sc_law_row.nd rfl (Or.inl rfl) (pe_op op_mod (pe_callTy call_int1 (by rfl) T.m_int PyProof.Rows.boot_int (pa_cons (pe_op op_add (pe_op op_add (pe_op op_mul (pv 4) pe_int) (pe_op op_mul pe_int (pv 6))) pe_int) pa_nil)) pe_int))
          (pss_one (ps_expr (pe_bm PySem.F.plainAttrs_list PySem.F.slot_list_append PySem.F.type_list_append mt_append (pv 5) (pa_cons (pe_op op_mod (pe_callTy call_int1 (by rfl) T.m_int PyProof.Rows.boot_int (pa_cons (pe_op op_fdivW (pe_op op_mul (pv 4) pe_int) pe_int) pa_nil)) (pv 2)) pa_nil))))))))
      (pss_one (ps_ret (pv 5))))))), ?_⟩
  have hlog : b.natAbs.log2 < 9000 := by
    have : b.natAbs < 2 ^ 51 := by omega
    have := (Nat.log2_lt (n := b.natAbs) (k := 51) (by omega)).mpr this
    omega
  refine q_asg (ev_abs (ev_int1 (ev_var rfl))) fun H1 e1 => ?_
  refine q_asg (ev_I0 (ev_I (ev_int1 (ev_var rfl)) ev_c (by decide)) ev_c) fun H2 e2 => ?_
  refine q_asgL (xs := []) (el_lst ea_nil (by decide)) fun p H3 hp3 e3 g3 => ?_
  have hp := fresh_back (e1.trans e2) hp3
  have e13 := (e1.trans e2).trans e3
  generalize (if c < 0 then -c else c) = re0
  generalize c % 1000003 + 1 = mx0
  refine q_forR1 (n := (n : Int)) (ea_cons (ev_var rfl) ea_nil) (by omega) (fun i σ' H' => ∃ (re mx : Int) (ns : List Int) (z6 : Option V), σ' = [some (.int c), some (.int (n : Int)), some (.int b), some (.int re), some (.int mx), some (.ref p), z6] ∧ Ex H H' ∧ H' p = some (.lst (ns.map V.int)) ∧ ns.length = i ∧ (∀ x ∈ ns, 0 ≤ x ∧ x < b)) (fun H4 e4 => ⟨re0, mx0, [], none, rfl, e13.trans e4, e4 _ _ g3, rfl, fun x hx => by cases hx⟩) ?_ ?_
  · rintro i σ' H4 hi ⟨re, mx, ns, z6, rfl, ex, gp, hnl, hns⟩
    have snoc : ∀ x : Int, 0 ≤ x → x < b → ∀ y ∈ ns ++ [x], 0 ≤ y ∧ y < b := fun x h0 h1 y hy => by
      rcases List.mem_append.mp hy with h | h
      · exact hns y h
      · rw [List.mem_singleton.mp h]
        exact ⟨h0, h1⟩
    have big : ns.length < 100000 := by omega
    refine s_if (et_test (ev_I0 (ev_var rfl) (ev_var rfl))) (fun _ H5 e5 => ?_) (fun _ H5 e5 => ?_)
    · refine q_app (v := .int (re % b)) (e5 _ _ gp) (ev_var rfl) (ev_I (ev_int1 (ev_var rfl)) (ev_var rfl) hb0) (by rw [List.length_map]; exact big) fun H6 e6 => ?_
      refine s_asg (v := .int (re / b)) (ev_I (ev_var rfl) (ev_var rfl) ⟨hb0, hlog⟩) fun H7 e7 => ⟨re / b, mx, ns ++ [re % b], _, rfl, (Ex.mut (ex.trans (e5.trans e6)) hp).trans e7, e7 _ _ (by rw [upd_same, List.map_append]; rfl), by rw [List.length_append, hnl]; rfl, snoc _ (Int.emod_nonneg _ (by omega)) (Int.emod_lt_of_pos _ hb0)⟩
    · obtain ⟨mx1, hmx⟩ : ∃ mx1, (mx * 48271 + 11 * (i : Int) + 7) % 2147483647 = mx1 := ⟨_, rfl⟩
      refine q_asg (v := .int mx1) (Ev.is (ev_I (ev_int1 (ev_I0 (ev_I0 (ev_I (ev_var rfl) ev_c (.inr (by decide))) (ev_I ev_c (ev_var rfl) (.inl (by decide)))) ev_c)) ev_c (by decide)) (congrArg V.int hmx)) fun H6 e6 => ?_
      refine s_app (v := .int ((mx1 * 2862933555777941757 / 1024) % b)) ((e5.trans e6) _ _ gp) (ev_var rfl) (ev_I (ev_int1 (ev_I (ev_I (ev_var rfl) ev_c (.inr (by decide))) ev_c ⟨by decide, by decide⟩)) (ev_var rfl) hb0) (by rw [List.length_map]; exact big) fun H7 e7 => ⟨re, mx1, ns ++ [(mx1 * 2862933555777941757 / 1024) % b], _, rfl, Ex.mut (ex.trans ((e5.trans e6).trans e7)) hp, by rw [upd_same, List.map_append]; rfl, by rw [List.length_append, hnl]; rfl, snoc _ (Int.emod_nonneg _ (by omega)) (Int.emod_lt_of_pos _ hb0)⟩
  · rintro σ' H4 ⟨re, mx, ns, z6, rfl, ex, gp, hnl, hns⟩
    rw [Int.toNat_natCast] at hnl
    exact s_ret (v := .ref p) (ev_var rfl) fun H5 e5 => k p ns H5 hp (ex.trans e5) (e5 _ _ gp) hnl hns

theorem takeG {α : Type} {zs : List α} {i : Nat} {z : α} (h : zs[i]? = some z) : zs.take (i + 1) = zs.take i ++ [z] := by
  rw [List.take_add_one, h]
  rfl
/-! ### the law's sums -/
def lagN (ns : List Int) (d : Nat) (i : Nat) : Int := ((List.range (i - d)).map fun t => ns.getD (t + d) 0 * ns.getD t 0).sum
theorem lagN_step (ns : List Int) (d i : Nat) : lagN ns d (i + 1) = lagN ns d i + if d ≤ i then ns.getD i 0 * ns.getD (i - d) 0 else 0 := by
  unfold lagN
  by_cases h : d ≤ i
  · rw [if_pos h, show i + 1 - d = (i - d) + 1 by omega, List.range_succ, List.map_append, List.sum_append]
    show _ + (ns.getD (i - d + d) 0 * ns.getD (i - d) 0 + 0) = _
    rw [show i - d + d = i by omega, Int.add_zero]
  · rw [if_neg h, show i + 1 - d = 0 by omega, show i - d = 0 by omega, Int.add_zero]
theorem lagN_zero (ns : List Int) (d : Nat) : lagN ns d 0 = 0 := by
  unfold lagN
  rw [Nat.zero_sub]
  rfl
theorem lagS_N (ns : List Int) (d : Nat) : lagS ns d = lagN ns d ns.length := by
  unfold lagS lagN
  congr 1
  apply List.ext_getElem?
  intro t
  rw [List.getElem?_zipWith, List.getElem?_drop, List.getElem?_map]
  by_cases h : t < ns.length - d
  · rw [List.getElem?_range h, gl_get (ns := ns) (i := d + t) (by omega), gl_get (ns := ns) (i := t) (by omega)]
    show some (ns.getD (d + t) 0 * ns.getD t 0) = some (ns.getD (t + d) 0 * ns.getD t 0)
    rw [Nat.add_comm]
  · rw [List.getElem?_eq_none (l := ns) (i := d + t) (by omega), List.getElem?_eq_none (l := List.range (ns.length - d)) (by rw [List.length_range]; omega)]
    rfl
theorem set_range {m d0 : Nat} {f g : Nat → Int} (h0 : ∀ d, d < m → d ≠ d0 → g d = f d) : ((List.range m).map fun d => V.int (f d)).set d0 (V.int (g d0)) = (List.range m).map fun d => V.int (g d) := by
  apply List.ext_getElem?
  intro t
  rw [List.getElem?_set, List.length_map, List.length_range]
  by_cases ht : t < m
  · rw [List.getElem?_map, List.getElem?_map, List.getElem?_range ht]
    by_cases hd : d0 = t
    · subst hd
      rw [if_pos rfl, if_pos ht]
      rfl
    · rw [if_neg hd]
      show some (V.int (f t)) = some (V.int (g t))
      rw [h0 t ht (fun e => hd e.symm)]
  · rw [List.getElem?_eq_none (l := (List.range m).map fun d => V.int (f d)) (by rw [List.length_map, List.length_range]; omega), List.getElem?_eq_none (l := (List.range m).map fun d => V.int (g d)) (by rw [List.length_map, List.length_range]; omega)]
    split
    · rw [if_neg (by omega)]
    · rfl

def sp_lsums (K : PySem.W.Frag) : Sp := fun vs H Q _ => ∃ (a : Addr) (ns : List Int) (m : Nat), vs = [.ref a, .int (m : Int)] ∧ SqL K H a (ns.map V.int) ∧ ns.length ≤ 1000 ∧ m ≤ 1000 ∧ BdA ns ∧ RetL ((acor ns m).map V.int) H Q
theorem ok_law_sums (T : TX K mg) : FnOk P w K mg base CX0 1 T.a_law_sums T.d_law_sums ["values", "most"] (sp_lsums K) := by
  refine T.F_law_sums.ok sc_law_sums (fun vs H Q E h => by obtain ⟨a, ns, m, rfl, _⟩ := h; rfl) (fun cdv A outer s0 H vs Q E hr h => ?_)
  obtain ⟨a, ns, m, rfl, hS, hl, hm, hbd, k⟩ := h
  refine ⟨_, (pss_cons (ps_set (i := 2) sc_law_sums.nd rfl (Or.inl rfl) (pe_op op_rep (pe_lst (pa_cons pe_int pa_nil)) (pe_op op_add (pv 1) pe_int)))
      (pss_cons (ps_for PassesOwn.never rfl (pi_range1 (by rfl) T.m_range (pa_cons (pe_callB (r := rLenS K) call_len_seq (by rfl) T.m_len PySem.boot_len (pa_cons (pv 0) pa_nil)) pa_nil)) (pg_name (i := 3) sc_law_sums.nd rfl (Or.inl rfl)) (pss_one (ps_for PassesOwn.never rfl (pi_range1 (by rfl) T.m_range (pa_cons (pe_op op_add (pv 3) pe_int) pa_nil)) (pg_name (i := 4) sc_law_sums.nd rfl (Or.inl rfl)) (pss_one (ps_if (pt_cmpR op_le (pe_op op_sub (pv 3) (pv 4)) (pv 1) (nomark _)) (pss_one (ps_asg (pe_op op_add (pe_ix (r := rIxL K) ix_list (pv 2) (pe_op op_sub (pv 3) (pv 4)) (fun _ _ => rfl)) (pe_op op_mul (pe_ix (r := rIxL K) ix_list (pv 0) (pv 3) (fun _ _ => rfl)) (pe_ix (r := rIxL K) ix_list (pv 0) (pv 4) (fun _ _ => rfl)))) (pg_sub (pv 2) (pe_op op_sub (pv 3) (pv 4)) set_list))) pss_nil)))))
      (pss_one (ps_ret (pv 2))))), ?_⟩
  refine q_asgL (xs := (List.range (m + 1)).map fun d => V.int (lagN ns d 0)) (EvL.is (el_rep (xs := [V.int 0]) (k := (m : Int) + 1) (EvL.r (el_lst (ea_cons ev_c ea_nil) (by decide))) (ev_I0 (ev_var rfl) ev_c) (by omega) (by show 1 * _ ≤ _; omega)) ?_) fun p H1 hp e1 g1 => ?_
  · rw [show ((m : Int) + 1).toNat = m + 1 by omega, rep_one]
    symm
    rw [List.eq_replicate_iff]
    refine ⟨by rw [List.length_map, List.length_range], fun b hb => ?_⟩
    obtain ⟨d, _, rfl⟩ := List.mem_map.mp hb
    rw [lagN_zero]
  have hlen : (ns.map V.int).length = ns.length := List.length_map ..
  refine q_forR1 (n := (ns.length : Int)) (ea_cons (Ev.is (ev_lenS (Ev.s (ev_var rfl) (ex_l e1 hS))) (by rw [hlen])) ea_nil) (by omega) (fun i σ' H' => ∃ z3 z4, σ' = [some (.ref a), some (.int (m : Int)), some (.ref p), z3, z4] ∧ Ex H H' ∧ H' p = some (.lst ((List.range (m + 1)).map fun d => V.int (lagN ns d i)))) (fun H2 e2 => ⟨none, none, rfl, e1.trans e2, e2 _ _ g1⟩) ?_ ?_
  · rintro i σ' H2 hi ⟨z3, z4, rfl, ex, gp⟩
    have hi : i < ns.length := by omega
    refine s_forR1 (n := (i : Int) + 1) (ea_cons (ev_I0 (ev_var rfl) ev_c) ea_nil) (by omega) (fun j σ2 H3 => ∃ z4, σ2 = [some (.ref a), some (.int (m : Int)), some (.ref p), some (.int (i : Int)), z4] ∧ Ex H H3 ∧ H3 p = some (.lst ((List.range (m + 1)).map fun d => V.int (lagN ns d i + if i < d + j ∧ d ≤ i then ns.getD i 0 * ns.getD (i - d) 0 else 0)))) (fun H3 e3 => ⟨z4, rfl, ex.trans e3, ?_⟩) ?_ ?_
    · rw [e3 _ _ gp]
      congr 2
      refine List.map_congr_left fun d _ => ?_
      rw [if_neg (by omega), Int.add_zero]
    · rintro j σ2 H3 hj ⟨y4, rfl, ex3, gp3⟩
      have hj : j ≤ i := by omega
      refine s_when (b := decide (i - j ≤ m)) (et_is (et_test (ev_I0 (ev_I0 (ev_var rfl) (ev_var rfl)) (ev_var rfl))) (decide_eq_decide.mpr (by omega))) (fun hb H4 e4 => ?_) (fun hb H4 e4 => ?_)
      · have hb := of_decide_eq_true hb
        have h1 := gl_get (ns := ns) (i := i) hi
        have h2 := gl_get (ns := ns) (i := j) (by omega)
        have hx : ((List.range (m + 1)).map fun d => V.int (lagN ns d i + if i < d + j ∧ d ≤ i then ns.getD i 0 * ns.getD (i - d) 0 else 0))[i - j]? = some (V.int (lagN ns (i - j) i)) := by
          rw [List.getElem?_map, List.getElem?_range (by omega)]
          show some (V.int (_ + if i < i - j + j ∧ _ then _ else _)) = _
          rw [if_neg (by omega), Int.add_zero]
        have hbi := hbd _ (List.mem_iff_getElem?.mpr ⟨i, h1⟩)
        have idx : ∀ H', Ev (tOp (rI0 fun i j => V.int (i - j)) (tVar 3) (tVar 4)) [some (.ref a), some (.int (m : Int)), some (.ref p), some (.int (i : Int)), some (.int (j : Int))] H' (.int ((i - j : Nat) : Int)) := fun H' => Ev.is (ev_I0 (ev_var rfl) (ev_var rfl)) (congrArg V.int (by omega))
        refine s_setL (j := i - j) (v := .int (lagN ns (i - j) i + ns.getD i 0 * ns.getD j 0)) (e4 _ _ gp3) (ev_I0 (ev_ixS (i := 0) (n := ((i - j : Nat) : Int)) (Ev.s (ev_var rfl) (sq_of (e4 _ _ gp3))) (idx _) (at_of (j := i - j) rfl hx)) (ev_I (ev_ixS (i := 0) (n := (i : Int)) (Ev.s (ev_var rfl) (ex_l (ex3.trans e4) hS)) (ev_var rfl) (at_of (j := i) rfl (at_int h1))) (ev_ixS (i := 0) (n := (j : Int)) (Ev.s (ev_var rfl) (ex_l (ex3.trans e4) hS)) (ev_var rfl) (at_of (j := j) rfl (at_int h2))) (.inl ⟨by omega, by omega⟩))) (ev_var rfl) (idx _) (by rw [List.length_map, List.length_range]; omega) fun H5 e5 => ⟨_, rfl, Ex.mut ((ex3.trans e4).trans e5) hp, ?_⟩
        rw [upd_same]
        congr 2
        have e0 : lagN ns (i - j) i + ns.getD i 0 * ns.getD j 0 = (fun d => lagN ns d i + if i < d + (j + 1) ∧ d ≤ i then ns.getD i 0 * ns.getD (i - d) 0 else 0) (i - j) := by
          show _ = lagN ns (i - j) i + if i < i - j + (j + 1) ∧ i - j ≤ i then ns.getD i 0 * ns.getD (i - (i - j)) 0 else 0
          rw [if_pos (by omega), show i - (i - j) = j by omega]
        rw [e0]
        refine set_range (m := m + 1) (d0 := i - j) (f := fun d => lagN ns d i + if i < d + j ∧ d ≤ i then ns.getD i 0 * ns.getD (i - d) 0 else 0) (g := fun d => lagN ns d i + if i < d + (j + 1) ∧ d ≤ i then ns.getD i 0 * ns.getD (i - d) 0 else 0) fun d hd hne => ?_
        show _ + _ = _ + _
        congr 1
        by_cases h : i < d + j ∧ d ≤ i
        · rw [if_pos h, if_pos (by omega)]
        · rw [if_neg h, if_neg (by omega)]
      · have hb := of_decide_eq_false hb
        refine ⟨_, rfl, ex3.trans e4, ?_⟩
        rw [e4 _ _ gp3]
        congr 2
        refine List.map_congr_left fun d hd => ?_
        have hd := List.mem_range.mp hd
        congr 2
        by_cases h : i < d + j ∧ d ≤ i
        · rw [if_pos h, if_pos (by omega)]
        · rw [if_neg h, if_neg (by omega)]
    · rintro σ2 H3 ⟨y4, rfl, ex3, gp3⟩
      refine ⟨_, _, rfl, ex3, ?_⟩
      rw [gp3]
      congr 2
      refine List.map_congr_left fun d hd => ?_
      rw [lagN_step, show ((i : Int) + 1).toNat = i + 1 by omega]
      congr 2
      by_cases h : d ≤ i
      · rw [if_pos h, if_pos (by omega)]
      · rw [if_neg h, if_neg (by omega)]
  · rintro σ' H2 ⟨z3, z4, rfl, ex, gp⟩
    refine s_ret (v := .ref p) (ev_var rfl) fun H3 e3 => k p H3 hp (ex.trans e3) ?_
    rw [e3 _ _ gp, Int.toNat_natCast]
    unfold acor
    rw [List.map_map]
    congr 2
    refine List.map_congr_left fun d _ => ?_
    show V.int (lagN ns d ns.length) = V.int (lagS ns d)
    rw [lagS_N]
theorem el_lsums {σ : L2.St} {H : Hp} {te tm : TE} {E : XK} {ns : List Int} {m : Nat} (h : EvS K te σ H (ns.map V.int)) (hM : Ev tm σ H (.int (m : Int))) (hl : ns.length ≤ 1000) (hm : m ≤ 1000) (hb : BdA ns) : EvL (tCall (sp_lsums K) [] E (tCons te (tCons tm tNil))) σ H ((acor ns m).map V.int) := fun H1 e Q q =>
  h H1 e _ fun p H2 e2 hp => hM H2 (e.trans e2) _ fun H3 e3 => ⟨p, ns, m, rfl, ex_l e3 hp, hl, hm, hb, fun r H4 hr e4 g4 => q r H4 (fresh_back (e2.trans e3) hr) ((e2.trans e3).trans e4) g4⟩

theorem ev_go {te : TE} {σ : L2.St} {H : Hp} {v : V} {Q : VK} (h : Ev te σ H v) (k : ∀ H2, Ex H H2 → Q v H2) : te σ H Q := h H (Ex.refl H) Q k
theorem et_go {t : TT} {σ : L2.St} {H : Hp} {b : Bool} {Q : Bool → Hp → Prop} (h : EvT t σ H b) (k : ∀ H2, Ex H H2 → Q b H2) : t σ H Q := h H (Ex.refl H) Q k
theorem el_go {te : TE} {σ : L2.St} {H : Hp} {xs : List V} {Q : VK} (h : EvL te σ H xs) (k : ∀ p H2, H p = none → Ex H H2 → H2 p = some (.lst xs) → Q (.ref p) H2) : te σ H Q := h H (Ex.refl H) Q k
theorem eu_go {te : TE} {σ : L2.St} {H : Hp} {xs : List V} {Q : VK} (h : EvU te σ H xs) (k : ∀ p H2, H p = none → Ex H H2 → H2 p = some (.tup xs) → Q (.ref p) H2) : te σ H Q := h H (Ex.refl H) Q k
theorem ea_go {t : TA} {σ : L2.St} {H : Hp} {vs : List V} {Q : List V → Hp → Prop} (h : EvA t σ H vs) (k : ∀ H2, Ex H H2 → Q vs H2) : t σ H Q := h H (Ex.refl H) Q k

def FrO (a : Addr) (H H' : Hp) : Prop := ∀ b o, b ≠ a → H b = some o → H' b = some o
theorem FrO.ex {a : Addr} {H H' : Hp} (e : Ex H H') : FrO a H H' := fun b o _ h => e b o h
theorem FrO.trans {a : Addr} {H H1 H2 : Hp} (x : FrO a H H1) (y : FrO a H1 H2) : FrO a H H2 := fun b o hb h => y b o hb (x b o hb h)
theorem FrO.upd {a : Addr} {H H' : Hp} {o : HO} (f : FrO a H H') : FrO a H (upd H' a o) := fun b u hb h => by rw [upd_ne hb]; exact f b u hb h
theorem FrO.after {a : Addr} {H0 G H' : Hp} (f : FrO a G H') (e : Ex H0 G) (hn : H0 a = none) : Ex H0 H' := fun b o hb => f b o (by rintro rfl; rw [hn] at hb; cases hb) (e b o hb)
theorem sq_keep {K : PySem.W.Frag} {H B H' : Hp} {p a : Addr} {xs : List V} {e1 : Ex H B} {hp : H p = none} (f : FrO p B H') (h : SqL K H a xs) : SqL K H' a xs := ex_l (FrO.after f e1 hp) h

def EvX (te : TE) (σ : L2.St) (H : Hp) (S : V → Hp → Prop) : Prop := ∀ H1, Ex H H1 → ∀ Q : VK, (∀ v H2, Ex H1 H2 → S v H2 → Q v H2) → te σ H1 Q

namespace DT
/-! ### sums and determinants -/
/-- the sum of f below n -/
def S : Nat → (Nat → Int) → Int
  | 0, _ => 0
  | n + 1, f => S n f + f n
theorem S_congr {f g : Nat → Int} : ∀ {n : Nat}, (∀ i, i < n → f i = g i) → S n f = S n g
  | 0, _ => rfl
  | n + 1, h => by
    show S n f + f n = S n g + g n
    rw [S_congr (fun i hi => h i (by omega)), h n (by omega)]
theorem S_add (f g : Nat → Int) : ∀ n, S n (fun i => f i + g i) = S n f + S n g
  | 0 => rfl
  | n + 1 => by
    show S n _ + (f n + g n) = S n f + f n + (S n g + g n)
    rw [S_add f g n]
    omega
theorem S_mul (c : Int) (f : Nat → Int) : ∀ n, S n (fun i => c * f i) = c * S n f
  | 0 => (Int.mul_zero c).symm
  | n + 1 => by
    show S n _ + c * f n = c * (S n f + f n)
    rw [S_mul c f n, Int.mul_add]
theorem S_mulr (c : Int) (f : Nat → Int) (n : Nat) : S n (fun i => f i * c) = S n f * c := by
  rw [Int.mul_comm, ← S_mul]
  exact S_congr fun i _ => Int.mul_comm _ _
theorem S_neg (f : Nat → Int) (n : Nat) : S n (fun i => -f i) = -S n f := by
  have h := S_mul (-1) f n
  rw [Int.neg_one_mul] at h
  rw [← h]
  exact S_congr fun i _ => (Int.neg_one_mul _).symm
theorem S_sub (f g : Nat → Int) (n : Nat) : S n (fun i => f i - g i) = S n f - S n g := by
  have h := S_add f (fun i => -g i) n
  rw [S_neg] at h
  rw [Int.sub_eq_add_neg, ← h]
  exact S_congr fun i _ => Int.sub_eq_add_neg
theorem S_zero {f : Nat → Int} : ∀ {n : Nat}, (∀ i, i < n → f i = 0) → S n f = 0
  | 0, _ => rfl
  | n + 1, h => by
    show S n f + f n = 0
    rw [S_zero (fun i hi => h i (by omega)), h n (by omega)]
    rfl
theorem S_one {f : Nat → Int} {i : Nat} : ∀ {n : Nat}, i < n → (∀ j, j < n → j ≠ i → f j = 0) → S n f = f i
  | 0, h, _ => by omega
  | n + 1, h, h0 => by
    show S n f + f n = f i
    by_cases e : i = n
    · subst e
      rw [S_zero fun j hj => h0 j (by omega) (by omega), Int.zero_add]
    · rw [S_one (i := i) (by omega) fun j hj hne => h0 j (by omega) hne, h0 n (by omega) (by omega), Int.add_zero]
theorem S_two {f : Nat → Int} {i : Nat} : ∀ {n : Nat}, i + 1 < n → (∀ j, j < n → j ≠ i → j ≠ i + 1 → f j = 0) → S n f = f i + f (i + 1)
  | 0, h, _ => by omega
  | n + 1, h, h0 => by
    show S n f + f n = _
    by_cases e : i + 1 = n
    · subst e
      rw [S_one (i := i) (by omega) fun j hj hne => h0 j (by omega) hne (by omega)]
    · rw [S_two (i := i) (by omega) fun j hj h1 h2 => h0 j (by omega) h1 h2, h0 n (by omega) (by omega) (by omega), Int.add_zero]
theorem S_comm (f : Nat → Nat → Int) (m : Nat) : ∀ n, S n (fun i => S m (fun j => f i j)) = S m (fun j => S n (fun i => f i j))
  | 0 => (S_zero fun _ _ => rfl).symm
  | n + 1 => by
    show S n _ + S m (f n) = S m fun j => S n (fun i => f i j) + f n j
    rw [S_comm f m n, ← S_add]
theorem S_first (f : Nat → Int) : ∀ n, S (n + 1) f = f 0 + S n (fun i => f (i + 1))
  | 0 => by show (0 : Int) + f 0 = f 0 + 0; omega
  | n + 1 => by
    show S (n + 1) f + f (n + 1) = f 0 + (S n (fun i => f (i + 1)) + f (n + 1))
    rw [S_first f n]
    omega
theorem S_rev (f : Nat → Int) : ∀ n, S n (fun i => f (n - 1 - i)) = S n f
  | 0 => rfl
  | n + 1 => by
    rw [S_first]
    show f (n - 0) + S n (fun i => f (n - (i + 1))) = S n f + f n
    rw [← S_rev f n, S_congr (f := fun i => f (n - (i + 1))) (g := fun i => f (n - 1 - i)) fun i _ => by rw [show n - (i + 1) = n - 1 - i by omega]]
    show f n + _ = _
    omega
def sg (j : Nat) : Int := if j % 2 = 0 then 1 else -1
theorem sg_succ (j : Nat) : sg (j + 1) = -sg j := by
  unfold sg
  by_cases h : j % 2 = 0
  · rw [if_pos h, if_neg (by omega)]
  · rw [if_neg h, if_pos (by omega)]; rfl
def del (j : Nat) (A : Nat → Nat → Int) : Nat → Nat → Int := fun i r => A (if i < j then i else i + 1) (r + 1)
def det : Nat → (Nat → Nat → Int) → Int
  | 0, _ => 1
  | n + 1, A => S (n + 1) fun j => sg j * A j 0 * det n (del j A)
def rp (A : Nat → Nat → Int) (i : Nat) (v : Nat → Int) : Nat → Nat → Int := fun j => if j = i then v else A j
theorem rp_at (A : Nat → Nat → Int) (i : Nat) (v : Nat → Int) : rp A i v i = v := if_pos rfl
theorem rp_ne {A : Nat → Nat → Int} {i j : Nat} {v : Nat → Int} (h : j ≠ i) : rp A i v j = A j := if_neg h
theorem rp_self (A : Nat → Nat → Int) (i : Nat) : rp A i (A i) = A := by
  funext j
  unfold rp
  split
  · rename_i h; rw [h]
  · rfl
theorem det_congr : ∀ {n : Nat} {A B : Nat → Nat → Int}, (∀ j r, j < n → r < n → A j r = B j r) → det n A = det n B
  | 0, _, _, _ => rfl
  | n + 1, A, B, h => by
    refine S_congr fun j hj => ?_
    rw [h j 0 hj (by omega), det_congr (A := del j A) (B := del j B) fun i r hi hr => h _ _ (by split <;> omega) (by omega)]
theorem del_same (A : Nat → Nat → Int) (i : Nat) (v : Nat → Int) : del i (rp A i v) = del i A := by
  funext m r
  unfold del
  rw [rp_ne (by split <;> omega)]
theorem del_lt {A : Nat → Nat → Int} {i j : Nat} (v : Nat → Int) (h : j < i) : del j (rp A i v) = rp (del j A) (i - 1) fun r => v (r + 1) := by
  funext m r
  unfold del
  by_cases e : m = i - 1
  · subst e
    rw [rp_at, if_neg (by omega), show i - 1 + 1 = i by omega, rp_at]
  · rw [rp_ne e, rp_ne (by split <;> omega)]
theorem del_gt {A : Nat → Nat → Int} {i j : Nat} (v : Nat → Int) (h : i < j) : del j (rp A i v) = rp (del j A) i fun r => v (r + 1) := by
  funext m r
  unfold del
  by_cases e : m = i
  · subst e
    rw [rp_at, if_pos h, rp_at]
  · rw [rp_ne e, rp_ne (by split <;> omega)]
theorem det_lin (a b : Int) (u v : Nat → Int) : ∀ {n : Nat} {A : Nat → Nat → Int} {i : Nat}, i < n → det n (rp A i fun r => a * u r + b * v r) = a * det n (rp A i u) + b * det n (rp A i v) := by
  intro n
  induction n generalizing u v with
  | zero => intro A i h; omega
  | succ n ih =>
    intro A i hi
    show S (n + 1) _ = a * S (n + 1) _ + b * S (n + 1) _
    rw [← S_mul, ← S_mul, ← S_add]
    refine S_congr fun j hj => ?_
    by_cases e : j = i
    · subst e
      rw [del_same, del_same, del_same, rp_at, rp_at, rp_at]
      grind
    · rw [rp_ne e, rp_ne e, rp_ne e]
      rcases Nat.lt_or_gt_of_ne e with h | h
      · rw [del_lt _ h, del_lt _ h, del_lt _ h, ih (fun r => u (r + 1)) (fun r => v (r + 1)) (by omega)]
        grind
      · rw [del_gt _ h, del_gt _ h, del_gt _ h, ih (fun r => u (r + 1)) (fun r => v (r + 1)) (by omega)]
        grind
theorem det_adj : ∀ {n : Nat} {A : Nat → Nat → Int} {i : Nat}, i + 1 < n → A i = A (i + 1) → det n A = 0 := by
  intro n
  induction n with
  | zero => intro A i h; omega
  | succ n ih =>
    intro A i hi he
    show S (n + 1) _ = 0
    rw [S_two (i := i) hi fun j hj h1 h2 => ?_]
    · have hd : del i A = del (i + 1) A := by
        funext m r
        unfold del
        by_cases e : m = i
        · subst e
          rw [if_neg (by omega), if_pos (by omega), he]
        · by_cases h : m < i
          · rw [if_pos h, if_pos (by omega)]
          · rw [if_neg h, if_neg (by omega)]
      rw [hd, he, sg_succ]
      grind
    · rcases Nat.lt_or_ge j i with h | h
      · rw [ih (A := del j A) (i := i - 1) (by omega) (by
          funext r
          unfold del
          rw [if_neg (by omega), if_neg (by omega), show i - 1 + 1 = i by omega, he])]
        exact Int.mul_zero _
      · rw [ih (A := del j A) (i := i) (by omega) (by
          funext r
          unfold del
          rw [if_pos (by omega), if_pos (by omega), he])]
        exact Int.mul_zero _
theorem rp_rp_eq (A : Nat → Nat → Int) (i : Nat) (u v : Nat → Int) : rp (rp A i u) i v = rp A i v := by
  funext j
  unfold rp
  split <;> rfl
theorem rp_comm (A : Nat → Nat → Int) {i j : Nat} (h : i ≠ j) (u v : Nat → Int) : rp (rp A i u) j v = rp (rp A j v) i u := by
  funext m
  unfold rp
  by_cases e1 : m = i
  · subst e1
    rw [if_neg h, if_pos rfl, if_pos rfl]
  · by_cases e2 : m = j
    · subst e2
      rw [if_pos rfl, if_neg e1, if_pos rfl]
    · rw [if_neg e2, if_neg e1, if_neg e1, if_neg e2]
theorem det_swap {n : Nat} {A : Nat → Nat → Int} {i : Nat} (h : i + 1 < n) (u v : Nat → Int) : det n (rp (rp A i u) (i + 1) v) = -det n (rp (rp A i v) (i + 1) u) := by
  have ne : i ≠ i + 1 := by omega
  have B : ∀ x y : Nat → Int, x = y → det n (rp (rp A i x) (i + 1) y) = 0 := fun x y e => det_adj h (by rw [rp_ne ne, rp_at, rp_at, e])
  have l1 : ∀ x, det n (rp (rp A i x) (i + 1) fun r => 1 * u r + 1 * v r) = det n (rp (rp A i x) (i + 1) u) + det n (rp (rp A i x) (i + 1) v) := fun x => by rw [det_lin 1 1 u v h, Int.one_mul, Int.one_mul]
  have l2 : ∀ y, det n (rp (rp A i fun r => 1 * u r + 1 * v r) (i + 1) y) = det n (rp (rp A i u) (i + 1) y) + det n (rp (rp A i v) (i + 1) y) := fun y => by
    rw [rp_comm A ne, det_lin 1 1 u v (by omega : i < n), Int.one_mul, Int.one_mul, rp_comm A ne, rp_comm A ne]
  have h0 := B (fun r => 1 * u r + 1 * v r) _ rfl
  rw [l2, l1, l1, B u u rfl, B v v rfl] at h0
  omega
theorem det_alt {n : Nat} : ∀ (d : Nat) {A : Nat → Nat → Int} {i : Nat}, i + d + 1 < n → A i = A (i + d + 1) → det n A = 0
  | 0, A, i, h, e => det_adj h e
  | d + 1, A, i, h, e => by
    have h1 : rp (rp A (i + d + 1) (A (i + d + 1))) (i + d + 1 + 1) (A (i + d + 1 + 1)) = A := by rw [rp_self, rp_self]
    rw [← h1, det_swap (by omega), det_alt d (i := i) (by omega)]
    · rfl
    · rw [rp_ne (by omega), rp_ne (by omega), rp_ne (by omega), rp_at]
      exact e
theorem det_eq {n i j : Nat} {A : Nat → Nat → Int} (hi : i < n) (hj : j < n) (hne : i ≠ j) (e : A i = A j) : det n A = 0 := by
  rcases Nat.lt_or_gt_of_ne hne with h | h
  · obtain ⟨d, rfl⟩ : ∃ d, j = i + d + 1 := ⟨j - i - 1, by omega⟩
    exact det_alt d hj e
  · obtain ⟨d, rfl⟩ : ∃ d, i = j + d + 1 := ⟨i - j - 1, by omega⟩
    exact det_alt d hi e.symm
theorem det_comb {n i : Nat} {A : Nat → Nat → Int} (x : Nat → Int) (hi : i < n) : ∀ m, m ≤ n → det n (rp A i fun r => S m fun j => x j * A j r) = if i < m then x i * det n A else 0
  | 0, _ => by
    have h := det_lin (n := n) (A := A) (i := i) 0 0 (fun _ => 0) (fun _ => 0) hi
    rw [Int.zero_mul, Int.zero_mul, Int.add_zero] at h
    rw [if_neg (by omega)]
    exact h
  | m + 1, hm => by
    have h := det_lin (n := n) (A := A) (i := i) 1 (x m) (fun r => S m fun j => x j * A j r) (A m) hi
    rw [det_comb x hi m (by omega), Int.one_mul] at h
    have e : (fun r => S (m + 1) fun j => x j * A j r) = fun r => 1 * S m (fun j => x j * A j r) + x m * A m r := by
      funext r
      rw [Int.one_mul]
      rfl
    rw [e, h]
    by_cases c : i = m
    · subst c
      rw [rp_self, if_neg (by omega), if_pos (by omega), Int.zero_add]
    · rw [det_eq (A := rp A i (A m)) hi (show m < n by omega) c (by rw [rp_at, rp_ne (fun z => c z.symm)]), Int.mul_zero, Int.add_zero]
      by_cases c2 : i < m
      · rw [if_pos c2, if_pos (by omega)]
      · rw [if_neg c2, if_neg (by omega)]
theorem cramer {n i : Nat} {A : Nat → Nat → Int} {v x : Nat → Int} (hi : i < n) (h : ∀ r, r < n → v r = S n fun j => x j * A j r) : det n (rp A i v) = x i * det n A := by
  have e := det_comb (A := A) x hi n (Nat.le_refl n)
  rw [if_pos hi] at e
  rw [← e]
  refine det_congr fun j r hj hr => ?_
  unfold rp
  split
  · exact h r hr
  · rfl
theorem det_last : ∀ {n : Nat} {A : Nat → Nat → Int}, (∀ r, r < n → A n r = 0) → det (n + 1) A = A n n * det n A
  | 0, A, _ => by
    show (0 : Int) + sg 0 * A 0 0 * 1 = A 0 0 * 1
    unfold sg
    rw [if_pos rfl]
    omega
  | n + 1, A, h => by
    show S (n + 1) (fun j => sg j * A j 0 * det (n + 1) (del j A)) + sg (n + 1) * A (n + 1) 0 * det (n + 1) (del (n + 1) A) = A (n + 1) (n + 1) * S (n + 1) fun j => sg j * A j 0 * det n (del j A)
    rw [h 0 (by omega), Int.mul_zero, Int.zero_mul, Int.add_zero, ← S_mul]
    refine S_congr fun j hj => ?_
    have hn : ∀ r, del j A n r = A (n + 1) (r + 1) := fun r => by unfold del; rw [if_neg (by omega)]
    rw [det_last (A := del j A) fun r hr => by rw [hn]; exact h _ (by omega), hn]
    grind
/-! ### one step of an elimination without fractions -/
variable {A : Nat → Nat → Int} {k : Nat}
/-- column x of the solutions of the leading k rows -/
def Sol (A : Nat → Nat → Int) (k : Nat) (u b : Nat → Int) : Prop := ∀ r, r < k → S k (fun l => u l * A l r) = det k A * b r
/-- what is left of b at row r -/
def rem (A : Nat → Nat → Int) (k : Nat) (u b : Nat → Int) (r : Nat) : Int := det k A * b r - S k fun l => u l * A l r
theorem rem_det {v : Nat → Int} (h : Sol A k v (A k)) (h0 : det k A ≠ 0) : rem A k v (A k) k = det (k + 1) A := by
  have e1 : det (k + 1) (rp A k fun r => rem A k v (A k) r) = rem A k v (A k) k * det k A := by
    rw [det_last (A := rp A k fun r => rem A k v (A k) r) fun r hr => by
      rw [rp_at]
      unfold rem
      rw [h r hr]
      omega]
    rw [rp_at]
    congr 1
    exact det_congr fun j r hj hr => by rw [rp_ne (by omega)]
  have e2 := cramer (n := k + 1) (i := k) (A := A) (v := fun r => rem A k v (A k) r) (x := fun j => if j = k then det k A else -v j) (by omega) fun r hr => by
    show rem A k v (A k) r = S k (fun j => (if j = k then det k A else -v j) * A j r) + (if k = k then det k A else -v k) * A k r
    rw [if_pos rfl, S_congr (g := fun l => -(v l * A l r)) fun j hj => by rw [if_neg (by omega), Int.neg_mul], S_neg]
    unfold rem
    omega
  rw [e1, if_pos rfl, Int.mul_comm] at e2
  exact Int.eq_of_mul_eq_mul_left h0 e2
theorem step {u v b : Nat → Int} (hu : Sol A k u b) (hv : Sol A k v (A k)) (h0 : det k A ≠ 0) (h1 : det (k + 1) A ≠ 0) {i : Nat} (hi : i < k) : det (k + 1) A * u i - rem A k u b k * v i = det k A * det (k + 1) (rp A i b) := by
  have hg := rem_det hv h0
  have key := cramer (n := k + 1) (i := i) (A := A) (v := fun r => (det k A * det (k + 1) A) * b r) (x := fun j => if j = k then det k A * rem A k u b k else det (k + 1) A * u j - rem A k u b k * v j) (by omega) fun r hr => by
    show (det k A * det (k + 1) A) * b r = S k (fun j => (if j = k then det k A * rem A k u b k else det (k + 1) A * u j - rem A k u b k * v j) * A j r) + (if k = k then det k A * rem A k u b k else _) * A k r
    rw [if_pos rfl, S_congr (g := fun j => det (k + 1) A * (u j * A j r) - rem A k u b k * (v j * A j r)) fun j hj => by rw [if_neg (by omega)]; grind, S_sub, S_mul, S_mul]
    by_cases hrk : r < k
    · rw [hu r hrk, hv r hrk]
      grind
    · obtain rfl : r = k := by omega
      have a1 : S r (fun l => u l * A l r) = det r A * b r - rem A r u b r := by unfold rem; omega
      have a2 : S r (fun l => v l * A l r) = det r A * A r r - det (r + 1) A := by rw [← hg]; unfold rem; omega
      rw [a1, a2]
      grind
  have l := det_lin (n := k + 1) (A := A) (i := i) (det k A * det (k + 1) A) 0 b (fun _ => 0) (by omega)
  have e : (fun r => det k A * det (k + 1) A * b r + 0 * 0) = fun r => (det k A * det (k + 1) A) * b r := by funext r; omega
  rw [e, key, if_neg (by omega), Int.zero_mul, Int.add_zero] at l
  refine Int.eq_of_mul_eq_mul_left h1 ?_
  grind
theorem step_last {u v b : Nat → Int} (hu : Sol A k u b) (hv : Sol A k v (A k)) (h0 : det k A ≠ 0) : rem A k u b k = det (k + 1) (rp A k b) := by
  have e1 : det (k + 1) (rp A k fun r => rem A k u b r) = rem A k u b k * det k A := by
    rw [det_last (A := rp A k fun r => rem A k u b r) fun r hr => by
      rw [rp_at]
      unfold rem
      rw [hu r hr]
      omega]
    rw [rp_at]
    congr 1
    exact det_congr fun j r hj hr => by rw [rp_ne (by omega)]
  have l := det_lin (n := k + 1) (A := A) (i := k) (det k A) (-1) b (fun r => S k fun l => u l * A l r) (by omega)
  have e2 := det_comb (n := k + 1) (i := k) (A := A) u (by omega) k (by omega)
  rw [if_neg (by omega)] at e2
  have e3 : (fun r => det k A * b r + -1 * S k fun l => u l * A l r) = fun r => rem A k u b r := by funext r; unfold rem; omega
  rw [e3, e1, e2] at l
  refine Int.eq_of_mul_eq_mul_left h0 ?_
  grind
/-- the solutions, by determinants -/
def U (A : Nat → Nat → Int) (k : Nat) (b : Nat → Int) : Nat → Int := fun i => det k (rp A i b)
theorem sol_succ {b : Nat → Int} (hu : Sol A k (U A k b) b) (hv : Sol A k (U A k (A k)) (A k)) (h0 : det k A ≠ 0) (h1 : det (k + 1) A ≠ 0) : Sol A (k + 1) (U A (k + 1) b) b := by
  intro r hr
  refine Int.eq_of_mul_eq_mul_left h0 ?_
  show det k A * (S k (fun l => U A (k + 1) b l * A l r) + U A (k + 1) b k * A k r) = _
  have hl : U A (k + 1) b k = rem A k (U A k b) b k := (step_last hu hv h0).symm
  have hg := rem_det hv h0
  rw [Int.mul_add, ← S_mul, S_congr (g := fun l => det (k + 1) A * (U A k b l * A l r) - rem A k (U A k b) b k * (U A k (A k) l * A l r)) fun l hl => by
    have := step hu hv h0 h1 hl
    unfold U at *
    grind, S_sub, S_mul, S_mul, hl]
  by_cases hrk : r < k
  · rw [hu r hrk, hv r hrk]
    grind
  · obtain rfl : r = k := by omega
    have a1 : S r (fun l => U A r b l * A l r) = det r A * b r - rem A r (U A r b) b r := by unfold rem; omega
    have a2 : S r (fun l => U A r (A r) l * A l r) = det r A * A r r - det (r + 1) A := by rw [← hg]; unfold rem; omega
    rw [a1, a2]
    grind
theorem sol_all (n : Nat) (h : ∀ k, k ≤ n → det k A ≠ 0) : ∀ k, k ≤ n → ∀ b, Sol A k (U A k b) b
  | 0, _, b => fun r hr => by omega
  | k + 1, hk, b => sol_succ (sol_all n h k (by omega) b) (sol_all n h k (by omega) (A k)) (h k (by omega)) (h (k + 1) hk)
/-! ### Toeplitz matrices -/
theorem sol_uniq {w b : Nat → Int} (h : Sol A k w b) (h0 : det k A ≠ 0) {i : Nat} (hi : i < k) : w i = U A k b i := by
  have key := cramer (n := k) (i := i) (A := A) (v := fun r => det k A * b r) (x := w) hi fun r hr => (h r hr).symm
  have l := det_lin (n := k) (A := A) (i := i) (det k A) 0 b (fun _ => 0) hi
  have e : (fun r => det k A * b r + 0 * 0) = fun r => det k A * b r := by funext r; omega
  rw [e, key, Int.zero_mul, Int.add_zero, Int.mul_comm] at l
  exact Int.eq_of_mul_eq_mul_left h0 l
def tp (c : Nat → Int) : Nat → Nat → Int := fun j r => c (if j ≤ r then r - j else j - r)
theorem tp_symm (c : Nat → Int) (i j : Nat) : tp c i j = tp c j i := by
  unfold tp
  congr 1
  split <;> split <;> omega
theorem tp_le (c : Nat → Int) {i j : Nat} (h : i ≤ j) : tp c i j = c (j - i) := by
  unfold tp
  rw [if_pos h]
theorem tp_ge (c : Nat → Int) {i j : Nat} (h : j ≤ i) : tp c i j = c (i - j) := by rw [tp_symm, tp_le c h]
def c1 (c : Nat → Int) : Nat → Int := fun r => c (r + 1)
variable {c : Nat → Int}
theorem sol_rev {u : Nat → Int} (h : Sol (tp c) k u (c1 c)) : Sol (tp c) k (fun l => u (k - 1 - l)) (tp c k) := by
  intro r hr
  rw [← S_rev, S_congr (g := fun l => u l * tp c l (k - 1 - r)) fun l hl => ?_, h _ (by omega)]
  · unfold c1
    rw [tp_ge c (by omega), show k - 1 - r + 1 = k - r by omega]
  · show u (k - 1 - (k - 1 - l)) * tp c (k - 1 - l) r = _
    rw [show k - 1 - (k - 1 - l) = l by omega]
    congr 1
    unfold tp
    congr 1
    split <;> split <;> omega
/-- the last numerator -/
def lastN (c : Nat → Int) (k : Nat) (u : Nat → Int) : Int := det k (tp c) * c (k + 1) - S k fun l => u l * c (k - l)
theorem last_rem (u : Nat → Int) : rem (tp c) k u (c1 c) k = lastN c k u := by
  unfold rem lastN
  congr 1
  exact S_congr fun l hl => by rw [tp_le c (by omega)]
theorem den_eq {u : Nat → Int} (h : Sol (tp c) k u (c1 c)) (h0 : det k (tp c) ≠ 0) : det (k + 1) (tp c) = det k (tp c) * c 0 - S k fun l => u l * c (l + 1) := by
  rw [← rem_det (sol_rev h) h0]
  unfold rem
  rw [tp_le c (Nat.le_refl k), Nat.sub_self]
  congr 1
  rw [← S_rev]
  refine S_congr fun l hl => ?_
  show u (k - 1 - (k - 1 - l)) * tp c (k - 1 - l) k = _
  rw [show k - 1 - (k - 1 - l) = l by omega, tp_le c (by omega), show k - (k - 1 - l) = l + 1 by omega]
theorem lev_num {u : Nat → Int} (h : Sol (tp c) k u (c1 c)) (h0 : det k (tp c) ≠ 0) (h1 : det (k + 1) (tp c) ≠ 0) {i : Nat} (hi : i < k) : det (k + 1) (tp c) * u i - lastN c k u * u (k - 1 - i) = det k (tp c) * U (tp c) (k + 1) (c1 c) i := by
  have := step h (sol_rev h) h0 h1 hi
  rw [last_rem] at this
  exact this
theorem lev_last {u : Nat → Int} (h : Sol (tp c) k u (c1 c)) (h0 : det k (tp c) ≠ 0) : U (tp c) (k + 1) (c1 c) k = lastN c k u := by
  rw [← last_rem]
  exact (step_last h (sol_rev h) h0).symm
theorem lev_den (h : Sol (tp c) k (U (tp c) k (c1 c)) (c1 c)) (h' : Sol (tp c) (k + 1) (U (tp c) (k + 1) (c1 c)) (c1 c)) (h0 : det k (tp c) ≠ 0) (h1 : det (k + 1) (tp c) ≠ 0) : det k (tp c) * det (k + 2) (tp c) = det (k + 1) (tp c) * det (k + 1) (tp c) - lastN c k (U (tp c) k (c1 c)) * lastN c k (U (tp c) k (c1 c)) := by
  obtain ⟨u, hu⟩ : ∃ u, U (tp c) k (c1 c) = u := ⟨_, rfl⟩
  rw [hu] at h ⊢
  have a1 := den_eq h h0
  have a2 := den_eq h' h1
  have a3 := lev_last h h0
  have a4 : det k (tp c) * S k (fun l => U (tp c) (k + 1) (c1 c) l * c (l + 1)) = det (k + 1) (tp c) * S k (fun l => u l * c (l + 1)) - lastN c k u * S k (fun l => u l * c (k - l)) := by
    rw [← S_mul, ← S_mul, ← S_rev (fun l => u l * c (k - l)), ← S_mul, ← S_sub]
    refine S_congr fun l hl => ?_
    have := lev_num h h0 h1 hl
    rw [show k - (k - 1 - l) = l + 1 by omega]
    grind
  have a5 : S (k + 1) (fun l => U (tp c) (k + 1) (c1 c) l * c (l + 1)) = S k (fun l => U (tp c) (k + 1) (c1 c) l * c (l + 1)) + U (tp c) (k + 1) (c1 c) k * c (k + 1) := rfl
  rw [a5, a3] at a2
  have a6 : lastN c k u = det k (tp c) * c (k + 1) - S k fun l => u l * c (k - l) := rfl
  generalize S k (fun l => U (tp c) (k + 1) (c1 c) l * c (l + 1)) = m at *
  generalize S k (fun l => u l * c (l + 1)) = X at *
  generalize S k (fun l => u l * c (k - l)) = Y at *
  generalize lastN c k u = L at *
  generalize det (k + 2) (tp c) = d2 at *
  generalize det (k + 1) (tp c) = d1 at *
  generalize det k (tp c) = d0 at *
  grind
/-! ### positive definite -/
def PD (c : Nat → Int) : Prop := ∀ (k : Nat) (b : Nat → Int), b 0 ≠ 0 → 0 < S (k + 1) fun i => S (k + 1) fun j => b i * b j * tp c i j
theorem den_pos (hc : PD c) {u : Nat → Int} (h : Sol (tp c) k u (c1 c)) (h0 : 0 < det k (tp c)) : 0 < det (k + 1) (tp c) := by
  have hd := den_eq h (by omega)
  have hp := hc k (fun i => if i = 0 then det k (tp c) else -u (i - 1)) (by rw [if_pos rfl]; omega)
  rw [S_first, S_first] at hp
  rw [if_pos rfl, tp_le c (Nat.le_refl 0)] at hp
  have b1 : S k (fun i => (det k (tp c) * if i + 1 = 0 then det k (tp c) else -u (i + 1 - 1)) * tp c 0 (i + 1)) = -(det k (tp c) * S k fun l => u l * c (l + 1)) := by
    rw [← S_mul, ← S_neg]
    refine S_congr fun i hi => ?_
    rw [if_neg (by omega), tp_le c (by omega)]
    show det k (tp c) * -u i * c (i + 1) = _
    grind
  have b2 : S k (fun i => S (k + 1) fun j => ((if i + 1 = 0 then det k (tp c) else -u (i + 1 - 1)) * if j = 0 then det k (tp c) else -u (j - 1)) * tp c (i + 1) j) = 0 := by
    refine S_zero fun i hi => ?_
    rw [S_first, if_neg (by omega), if_pos rfl, tp_ge c (by omega)]
    show -u i * det k (tp c) * c (i + 1) + S k (fun j => (-u i * if j + 1 = 0 then _ else -u (j + 1 - 1)) * tp c (i + 1) (j + 1)) = 0
    rw [S_congr (g := fun j => u i * (u j * tp c j i)) fun j hj => ?_, S_mul, h i hi]
    · unfold c1
      grind
    · rw [if_neg (by omega)]
      have e : tp c (i + 1) (j + 1) = tp c j i := by
        unfold tp
        congr 1
        split <;> split <;> omega
      rw [e]
      show -u i * -u j * tp c j i = _
      grind
  rw [b1, b2] at hp
  have hq : 0 < det k (tp c) * det (k + 1) (tp c) := by
    rw [hd]
    generalize det k (tp c) = d at *
    generalize S k (fun l => u l * c (l + 1)) = X at *
    grind
  exact Int.pos_of_mul_pos_right hq (by omega)
theorem lev_all (hc : PD c) : ∀ k, 0 < det k (tp c) ∧ Sol (tp c) k (U (tp c) k (c1 c)) (c1 c)
  | 0 => ⟨by show (0 : Int) < 1; decide, fun r hr => by omega⟩
  | k + 1 => by
    obtain ⟨h0, hu⟩ := lev_all hc k
    have h1 := den_pos hc hu h0
    refine ⟨h1, ?_⟩
    have hv := sol_rev hu
    have hv' : Sol (tp c) k (U (tp c) k (tp c k)) (tp c k) := fun r hr => by
      rw [← hv r hr]
      exact S_congr fun l hl => by rw [← sol_uniq hv (by omega) hl]
    exact sol_succ hu hv' (by omega) (by omega)
/-! ### bounds -/
theorem last_lt (hc : PD c) (k : Nat) : -det (k + 1) (tp c) < lastN c k (U (tp c) k (c1 c)) ∧ lastN c k (U (tp c) k (c1 c)) < det (k + 1) (tp c) := by
  have h0 := lev_all hc k
  have h1 := lev_all hc (k + 1)
  have h2 := lev_all hc (k + 2)
  have hd := lev_den h0.2 h1.2 (by omega) (by omega)
  have hp : 0 < det k (tp c) * det (k + 2) (tp c) := Int.mul_pos h0.1 h2.1
  rw [hd] at hp
  have h1 := h1.1
  generalize lastN c k (U (tp c) k (c1 c)) = L at *
  generalize det (k + 1) (tp c) = d at *
  constructor
  · rcases Int.lt_or_le (-d) L with h | h
    · exact h
    · have : d * d ≤ -L * -L := Int.mul_le_mul (by omega) (by omega) (by omega) (by omega)
      rw [Int.neg_mul_neg] at this
      omega
  · rcases Int.lt_or_le L d with h | h
    · exact h
    · have : d * d ≤ L * L := Int.mul_le_mul h h (by omega) (by omega)
      omega
theorem den_le (hc : PD c) : ∀ k, det (k + 1) (tp c) ≤ c 0 * det k (tp c)
  | 0 => by
    have := den_eq (lev_all hc 0).2 (by show (1 : Int) ≠ 0; decide)
    rw [this]
    show (1 : Int) * c 0 - 0 ≤ c 0 * 1
    omega
  | k + 1 => by
    have ih := den_le hc k
    have h0 := lev_all hc k
    have h1 := lev_all hc (k + 1)
    have hd := lev_den h0.2 h1.2 (by omega) (by omega)
    have hL : 0 ≤ lastN c k (U (tp c) k (c1 c)) * lastN c k (U (tp c) k (c1 c)) := by
      rcases Int.lt_or_le (lastN c k (U (tp c) k (c1 c))) 0 with h | h
      · rw [← Int.neg_mul_neg]
        exact Int.mul_nonneg (by omega) (by omega)
      · exact Int.mul_nonneg h h
    have h3 : det (k + 1) (tp c) * det (k + 1) (tp c) ≤ det (k + 1) (tp c) * (c 0 * det k (tp c)) := Int.mul_le_mul_of_nonneg_left ih (by omega)
    have h4 : det k (tp c) * det (k + 2) (tp c) ≤ det k (tp c) * (c 0 * det (k + 1) (tp c)) := by
      rw [hd]
      generalize lastN c k (U (tp c) k (c1 c)) * lastN c k (U (tp c) k (c1 c)) = L2 at *
      generalize det (k + 1) (tp c) = d1 at *
      generalize det k (tp c) = d0 at *
      generalize c 0 = c0 at *
      have : d1 * (c0 * d0) = d0 * (c0 * d1) := by grind
      omega
    exact Int.le_of_mul_le_mul_left h4 h0.1
theorem den_pow (hc : PD c) : ∀ k, det k (tp c) ≤ c 0 ^ k
  | 0 => by rw [Int.pow_zero]; exact Int.le_refl 1
  | k + 1 => by
    have h1 := den_le hc k
    have h2 := den_pow hc k
    have h0 : 0 ≤ c 0 := by
      have := (lev_all hc 1).1
      have h : det 1 (tp c) ≤ c 0 * 1 := den_le hc 0
      omega
    have h3 : c 0 * det k (tp c) ≤ c 0 * c 0 ^ k := Int.mul_le_mul_of_nonneg_left h2 h0
    rw [Int.pow_succ, Int.mul_comm (c 0 ^ k)]
    omega
theorem num_le (hc : PD c) : ∀ k i, i < k → -(2 ^ k * det k (tp c)) ≤ U (tp c) k (c1 c) i ∧ U (tp c) k (c1 c) i ≤ 2 ^ k * det k (tp c)
  | 0, i, h => by omega
  | k + 1, i, hi => by
    have h0 := lev_all hc k
    have h1 := lev_all hc (k + 1)
    have hl := last_lt hc k
    have hp : (1 : Int) ≤ 2 ^ (k + 1) := by
      have : (0 : Int) < 2 ^ (k + 1) := Int.pow_pos (by decide)
      omega
    by_cases e : i = k
    · subst e
      rw [lev_last h0.2 (by omega)]
      have : 1 * det (i + 1) (tp c) ≤ 2 ^ (i + 1) * det (i + 1) (tp c) := Int.mul_le_mul_of_nonneg_right hp (by omega)
      omega
    · have ih1 := num_le hc k i (by omega)
      have ih2 := num_le hc k (k - 1 - i) (by omega)
      have hs := lev_num h0.2 (by omega) (by omega) (show i < k by omega)
      have hd0 := h0.1
      have hd1 := h1.1
      generalize U (tp c) (k + 1) (c1 c) i = m at *
      generalize U (tp c) k (c1 c) i = x at *
      generalize U (tp c) k (c1 c) (k - 1 - i) = y at *
      generalize lastN c k (U (tp c) k (c1 c)) = L at *
      generalize det (k + 1) (tp c) = d1 at *
      generalize det k (tp c) = d0 at *
      obtain ⟨p, hpe⟩ : ∃ p : Int, 2 ^ k = p := ⟨_, rfl⟩
      have hp0 : 0 < p := by rw [← hpe]; exact Int.pow_pos (by decide)
      rw [Int.pow_succ, hpe]
      rw [hpe] at ih1 ih2
      obtain ⟨B, hB⟩ : ∃ B, p * d0 = B := ⟨_, rfl⟩
      rw [hB] at ih1 ih2
      have hB0 : 0 ≤ B := by rw [← hB]; exact Int.mul_nonneg (by omega) (by omega)
      have a1 : d1 * x ≤ d1 * B := Int.mul_le_mul_of_nonneg_left ih1.2 (by omega)
      have a2 : d1 * -B ≤ d1 * x := Int.mul_le_mul_of_nonneg_left ih1.1 (by omega)
      have a3 : L * y ≤ d1 * B ∧ -(d1 * B) ≤ L * y := by
        rcases Int.lt_or_le L 0 with h | h
        · have b1 : -L * y ≤ -L * B := Int.mul_le_mul_of_nonneg_left ih2.2 (by omega)
          have b2 : -L * -B ≤ -L * y := Int.mul_le_mul_of_nonneg_left ih2.1 (by omega)
          have b3 : -L * B ≤ d1 * B := Int.mul_le_mul_of_nonneg_right (by omega) hB0
          simp only [Int.neg_mul, Int.mul_neg, Int.neg_neg] at b1 b2 b3
          omega
        · have b1 : L * y ≤ L * B := Int.mul_le_mul_of_nonneg_left ih2.2 h
          have b2 : L * -B ≤ L * y := Int.mul_le_mul_of_nonneg_left ih2.1 h
          have b3 : L * B ≤ d1 * B := Int.mul_le_mul_of_nonneg_right (by omega) hB0
          rw [Int.mul_neg] at b2
          omega
      rw [Int.mul_neg] at a2
      have a4 : d0 * (p * 2 * d1) = 2 * (d1 * B) := by rw [← hB]; grind
      constructor
      · refine Int.le_of_mul_le_mul_left ?_ hd0
        rw [Int.mul_neg, a4, ← hs]
        omega
      · refine Int.le_of_mul_le_mul_left ?_ hd0
        rw [a4, ← hs]
        omega
/-! ### sums of products of a finite row -/
theorem S_split (g : Nat → Int) (a : Nat) : ∀ b, S (a + b) g = S a g + S b fun t => g (a + t)
  | 0 => by show S a g = S a g + 0; omega
  | b + 1 => by
    show S (a + b) g + g (a + b) = S a g + (S b (fun t => g (a + t)) + g (a + b))
    rw [S_split g a b]
    omega
theorem S_nonneg {f : Nat → Int} : ∀ {n : Nat}, (∀ i, i < n → 0 ≤ f i) → 0 ≤ S n f
  | 0, _ => Int.le_refl 0
  | n + 1, h => by
    show 0 ≤ S n f + f n
    have := S_nonneg (n := n) fun i hi => h i (by omega)
    have := h n (by omega)
    omega
theorem S_pos {f : Nat → Int} {i : Nat} : ∀ {n : Nat}, i < n → (∀ j, j < n → 0 ≤ f j) → 0 < f i → 0 < S n f
  | 0, h, _, _ => by omega
  | n + 1, h, h0, hp => by
    show 0 < S n f + f n
    by_cases e : i = n
    · subst e
      have := S_nonneg (n := i) fun j hj => h0 j (by omega)
      omega
    · have := S_pos (n := n) (by omega) (fun j hj => h0 j (by omega)) hp
      have := h0 n (by omega)
      omega
theorem sq_pos {x : Int} (h : x ≠ 0) : 0 < x * x := by
  rcases Int.lt_or_gt_of_ne h with h | h
  · exact Int.mul_pos_of_neg_of_neg h h
  · exact Int.mul_pos h h
theorem sq_nn (x : Int) : 0 ≤ x * x := by
  by_cases h : x = 0
  · rw [h]; decide
  · exact Int.le_of_lt (sq_pos h)
theorem pd_ac {x : Nat → Int} {N t0 : Nat} (hN : ∀ t, N ≤ t → x t = 0) (h0 : x t0 ≠ 0) (hl : ∀ t, t0 < t → x t = 0) (hc : ∀ j, c j = S N fun t => x t * x (t + j)) : PD c := by
  intro k b hb
  obtain ⟨z, hz⟩ : ∃ z : Nat → Int, z = fun t => if t < k then 0 else x (t - k) := ⟨_, rfl⟩
  have z0 : ∀ t, t < k → z t = 0 := fun t h => by rw [hz]; exact if_pos h
  have z1 : ∀ t, z (k + t) = x t := fun t => by
    rw [hz]
    show (if k + t < k then 0 else x (k + t - k)) = _
    rw [if_neg (by omega), Nat.add_sub_cancel_left]
  have z2 : ∀ t, k + N ≤ t → z t = 0 := fun t h => by
    obtain ⟨s, rfl⟩ : ∃ s, t = k + s := ⟨t - k, by omega⟩
    rw [z1]
    exact hN s (by omega)
  have tn : t0 < N := by
    rcases Nat.lt_or_ge t0 N with h | h
    · exact h
    · exact absurd (hN t0 h) h0
  have sh : ∀ i d, i ≤ k → S (k + N) (fun t => z (t + i) * z (t + i + d)) = c d := fun i d hi => by
    rw [hc]
    have e1 : S (i + (k + N)) (fun s => z s * z (s + d)) = S (k + N) fun t => z (t + i) * z (t + i + d) := by
      rw [S_split, S_zero fun s hs => by rw [z0 s (by omega), Int.zero_mul], Int.zero_add]
      exact S_congr fun t _ => by rw [Nat.add_comm i t]
    rw [← e1, Nat.add_comm i, S_split, S_split]
    rw [S_zero (n := k) fun s hs => by rw [z0 s hs, Int.zero_mul], S_zero (n := i) fun s hs => by rw [z2 _ (by omega), Int.zero_mul]]
    rw [Int.zero_add, Int.add_zero]
    exact S_congr fun t _ => by rw [z1, Nat.add_assoc, z1]
  have pr : ∀ i j, i ≤ k → j ≤ k → S (k + N) (fun t => z (t + i) * z (t + j)) = tp c i j := fun i j hi hj => by
    rcases Nat.le_total i j with h | h
    · rw [tp_le c h, ← sh i (j - i) hi]
      exact S_congr fun t _ => by rw [show t + i + (j - i) = t + j by omega]
    · rw [tp_ge c h, ← sh j (i - j) hj]
      exact S_congr fun t _ => by rw [show t + j + (i - j) = t + i by omega, Int.mul_comm]
  have hs : S (k + N) (fun t => (S (k + 1) fun i => b i * z (t + i)) * S (k + 1) fun i => b i * z (t + i)) = S (k + 1) fun i => S (k + 1) fun j => b i * b j * tp c i j := by
    have e1 : ∀ t, ((S (k + 1) fun i => b i * z (t + i)) * S (k + 1) fun i => b i * z (t + i)) = S (k + 1) fun i => S (k + 1) fun j => b i * b j * (z (t + i) * z (t + j)) := fun t => by
      rw [← S_mulr]
      refine S_congr fun i _ => ?_
      rw [← S_mul]
      exact S_congr fun j _ => by grind
    rw [S_congr fun t _ => e1 t, S_comm]
    refine S_congr fun i hi => ?_
    rw [S_comm]
    refine S_congr fun j hj => ?_
    rw [S_mul, pr i j (by omega) (by omega)]
  rw [← hs]
  refine S_pos (i := k + t0) (by omega) (fun t _ => sq_nn _) (sq_pos ?_)
  rw [S_one (i := 0) (by omega) fun i hi hne => by rw [Nat.add_assoc, z1, hl _ (by omega), Int.mul_zero], Nat.add_zero, z1]
  intro h
  rcases Int.mul_eq_zero.mp h with h | h
  · exact hb h
  · exact h0 h
end DT

namespace DT
/-! ### bordered minors, sizes -/
section
variable {A : Nat → Nat → Int} {k : Nat}
def brd (A : Nat → Nat → Int) (k i j : Nat) : Int := rem A k (U A k (A j)) (A j) i
theorem brd_zero (A : Nat → Nat → Int) (i j : Nat) : brd A 0 i j = A j i := by
  show (1 : Int) * A j i - 0 = A j i
  omega
theorem brd_diag (hv : Sol A k (U A k (A k)) (A k)) (h0 : det k A ≠ 0) : brd A k k k = det (k + 1) A := rem_det hv h0
theorem brd_step (hs : ∀ b, Sol A k (U A k b) b) (h0 : det k A ≠ 0) (h1 : det (k + 1) A ≠ 0) (i j : Nat) : brd A k i j * brd A k k k - brd A k i k * brd A k k j = det k A * brd A (k + 1) i j := by
  have hg := brd_diag (hs (A k)) h0
  have hl : U A (k + 1) (A j) k = brd A k k j := (step_last (hs (A j)) (hs (A k)) h0).symm
  have hS : det k A * S (k + 1) (fun l => U A (k + 1) (A j) l * A l i) = det (k + 1) A * S k (fun l => U A k (A j) l * A l i) - brd A k k j * S k (fun l => U A k (A k) l * A l i) + det k A * (brd A k k j * A k i) := by
    show det k A * (S k (fun l => U A (k + 1) (A j) l * A l i) + U A (k + 1) (A j) k * A k i) = _
    rw [hl, Int.mul_add, ← S_mul, ← S_mul, ← S_mul, ← S_sub]
    congr 1
    refine S_congr fun l hl => ?_
    have := step (hs (A j)) (hs (A k)) h0 h1 hl
    unfold U at *
    unfold brd U
    grind
  have e1 : brd A (k + 1) i j = det (k + 1) A * A j i - S (k + 1) (fun l => U A (k + 1) (A j) l * A l i) := rfl
  have e2 : brd A k i j = det k A * A j i - S k (fun l => U A k (A j) l * A l i) := rfl
  have e3 : brd A k i k = det k A * A k i - S k (fun l => U A k (A k) l * A l i) := rfl
  rw [hg, e1, Int.mul_sub, hS, e2, e3]
  grind
end
def Bt (N : Nat) (x : Int) : Prop := x.natAbs < 2 ^ N
section
variable {N M : Nat} {x y : Int}
theorem Bt.mono (h : Bt N x) (hn : N ≤ M) : Bt M x := Nat.lt_of_lt_of_le h (Nat.pow_le_pow_right (by decide) hn)
theorem Bt.log (h : Bt N x) : x.natAbs.log2 ≤ N := by
  by_cases h0 : x.natAbs = 0
  · rw [h0]
    exact Nat.zero_le _
  · have := (Nat.log2_lt h0).mpr h
    omega
theorem Bt.mul (h1 : Bt N x) (h2 : Bt M y) : Bt (N + M) (x * y) := by
  unfold Bt at *
  rw [Int.natAbs_mul, Nat.pow_add]
  exact Nat.mul_lt_mul'' h1 h2
theorem Bt.add (h1 : Bt N x) (h2 : Bt N y) : Bt (N + 1) (x + y) := by
  unfold Bt at *
  have := Int.natAbs_add_le x y
  rw [Nat.pow_succ]
  omega
theorem Bt.neg (h : Bt N x) : Bt N (-x) := by
  unfold Bt at *
  rwa [Int.natAbs_neg]
theorem Bt.sub (h1 : Bt N x) (h2 : Bt N y) : Bt (N + 1) (x - y) := by
  rw [Int.sub_eq_add_neg]
  exact h1.add h2.neg
theorem Bt.S {f : Nat → Int} {s : Nat} : ∀ {n : Nat}, (∀ i, i < n → Bt N (f i)) → n ≤ 2 ^ s → Bt (N + s) (S n f) := by
  intro n h hn
  have key : ∀ m, m ≤ n → (DT.S m f).natAbs + m ≤ m * 2 ^ N := by
    intro m
    induction m with
    | zero => intro _; show (0 : Int).natAbs + 0 ≤ 0 * 2 ^ N; rw [Nat.zero_mul]; decide
    | succ m ih =>
      intro hm
      have h1 := ih (by omega)
      have h2 : (f m).natAbs < 2 ^ N := h m (by omega)
      have h3 := Int.natAbs_add_le (DT.S m f) (f m)
      show (DT.S m f + f m).natAbs + (m + 1) ≤ (m + 1) * 2 ^ N
      rw [Nat.succ_mul]
      omega
  have h1 := key n (Nat.le_refl n)
  have h2 : n * 2 ^ N ≤ 2 ^ s * 2 ^ N := Nat.mul_le_mul_right _ hn
  have h3 : 0 < 2 ^ (N + s) := Nat.two_pow_pos _
  show (DT.S n f).natAbs < 2 ^ (N + s)
  rw [Nat.pow_add, Nat.mul_comm] at *
  by_cases h0 : n = 0
  · subst h0
    exact h3
  · omega
end
theorem sg_abs (j : Nat) : (sg j).natAbs = 1 := by
  unfold sg
  split <;> rfl
theorem det_bt {m : Nat} : ∀ {n : Nat} {A : Nat → Nat → Int}, (∀ j r, Bt m (A j r)) → n ≤ 64 → Bt (n * (m + 6) + 1) (det n A)
  | 0, A, _, _ => by show (1 : Int).natAbs < 2 ^ (0 * (m + 6) + 1); rw [Nat.zero_mul]; decide
  | n + 1, A, h, hn => by
    have h1 : Bt (m + (n * (m + 6) + 1) + 6) (det (n + 1) A) := Bt.S (s := 6) (fun j hj => by
      have a1 : Bt m (sg j * A j 0) := by
        unfold Bt
        rw [Int.natAbs_mul, sg_abs, Nat.one_mul]
        exact h j 0
      exact a1.mul (det_bt (A := del j A) (fun i r => h _ _) (by omega))) (by omega)
    refine h1.mono ?_
    rw [Nat.succ_mul]
    omega
theorem rp_bt {m i : Nat} {A : Nat → Nat → Int} {b : Nat → Int} (h : ∀ j r, Bt m (A j r)) (hb : ∀ r, Bt m (b r)) : ∀ j r, Bt m (rp A i b j r) := fun j r => by
  unfold rp
  split
  · exact hb r
  · exact h j r
theorem tp_bt {m : Nat} {c : Nat → Int} (h : ∀ j, Bt m (c j)) : ∀ j r, Bt m (tp c j r) := fun _ _ => h _
theorem U_bt {m n i : Nat} {A : Nat → Nat → Int} {b : Nat → Int} (h : ∀ j r, Bt m (A j r)) (hb : ∀ r, Bt m (b r)) (hn : n ≤ 64) : Bt (n * (m + 6) + 1) (U A n b i) := det_bt (rp_bt h hb) hn
theorem brd_bt {m k : Nat} {A : Nat → Nat → Int} (h : ∀ j r, Bt m (A j r)) (hk : k ≤ 64) (i j : Nat) : Bt (k * (m + 6) + m + 8) (brd A k i j) := by
  have h1 : Bt (k * (m + 6) + 1 + m) (det k A * A j i) := (det_bt h hk).mul (h j i)
  have h2 : Bt (k * (m + 6) + 1 + m + 6) (S k fun l => U A k (A j) l * A l i) := Bt.S (s := 6) (fun l _ => (U_bt h (fun r => h j r) hk).mul (h l i)) (by omega)
  exact ((h1.mono (by omega)).sub h2).mono (by omega)
end DT

-- LEV
/-! ### the predictors of an autocorrelation: what the program finds -/
open DT (Bt PD tp Sol)
def lf (n : Nat) (f : Nat → Int) : List Int := (List.range n).map f
theorem lf_len (n : Nat) (f : Nat → Int) : (lf n f).length = n := by unfold lf; rw [List.length_map, List.length_range]
theorem lf_at {n i : Nat} {f : Nat → Int} (h : i < n) : (lf n f)[i]? = some (f i) := by unfold lf; rw [List.getElem?_map, List.getElem?_range h]; rfl
theorem lf_succ (n : Nat) (f : Nat → Int) : lf (n + 1) f = lf n f ++ [f n] := by unfold lf; rw [List.range_succ, List.map_append]; rfl
theorem lf_congr {n : Nat} {f g : Nat → Int} (h : ∀ i, i < n → f i = g i) : lf n f = lf n g := List.map_congr_left fun i hi => h i (List.mem_range.mp hi)
theorem lf_sum (f : Nat → Int) : ∀ n, (lf n f).sum = DT.S n f
  | 0 => rfl
  | n + 1 => by
    rw [lf_succ, List.sum_append, lf_sum f n]
    show DT.S n f + (f n + 0) = DT.S n f + f n
    omega
theorem lf_rev (n : Nat) (f : Nat → Int) : (lf n f).reverse = lf n fun i => f (n - 1 - i) := by
  apply List.ext_getElem?
  intro i
  by_cases h : i < n
  · rw [List.getElem?_reverse (by rw [lf_len]; exact h), lf_len, lf_at (by omega), lf_at h]
  · rw [List.getElem?_eq_none (by rw [List.length_reverse, lf_len]; omega), List.getElem?_eq_none (by rw [lf_len]; omega)]
def Dn (c : Nat → Int) (k : Nat) : Int := DT.det k (tp c)
def Un (c : Nat → Int) (k : Nat) : Nat → Int := DT.U (tp c) k (DT.c1 c)
theorem cmulw {N M : Nat} {x y : Int} (h1 : Bt N x) (h2 : Bt M y) (h : N + M < 1000000) : CMulW x y := by
  have a := h1.log
  have b := h2.log
  show x.natAbs.log2 + y.natAbs.log2 < 1000000
  omega
theorem cdivw {N : Nat} {x y : Int} (h0 : 0 < y) (h1 : Bt N y) (h : N < 9000) : CDivW x y := ⟨h0, by have := h1.log; omega⟩
theorem dn_bt {c : Nat → Int} {m k : Nat} (h : ∀ j, Bt m (c j)) (hk : k ≤ 64) : Bt (k * (m + 6) + 1) (Dn c k) := DT.det_bt (DT.tp_bt h) hk
theorem un_bt {c : Nat → Int} {m k i : Nat} (h : ∀ j, Bt m (c j)) (hk : k ≤ 64) : Bt (k * (m + 6) + 1) (Un c k i) := DT.U_bt (DT.tp_bt h) (fun r => h _) hk
theorem ln_bt {c u : Nat → Int} {m k : Nat} (h : ∀ j, Bt m (c j)) (hu : ∀ i, Bt (k * (m + 6) + 1) (u i)) (hk : k ≤ 64) : Bt (k * (m + 6) + m + 8) (DT.lastN c k u) := by
  have h1 : Bt (k * (m + 6) + 1 + m) (DT.det k (tp c) * c (k + 1)) := (dn_bt h hk).mul (h _)
  have h2 : Bt (k * (m + 6) + 1 + m + 6) (DT.S k fun l => u l * c (k - l)) := DT.Bt.S (s := 6) (fun l _ => (hu l).mul (h _)) (by omega)
  exact ((h1.mono (by omega)).sub h2).mono (by omega)
def sp_last (K : PySem.W.Frag) : Sp := fun vs H Q _ => ∃ (a b : Addr) (c u : Nat → Int) (n k m : Nat), vs = [.ref a, .ref b, .int (Dn c k)] ∧ SqL K H a ((lf n c).map V.int) ∧ SqL K H b ((lf k u).map V.int) ∧ k + 1 < n ∧ n ≤ 64 ∧ m ≤ 100 ∧ (∀ j, Bt m (c j)) ∧ (∀ i, Bt (k * (m + 6) + 1) (u i)) ∧ RetV (.int (DT.lastN c k u)) H Q
theorem ok_last_numerator (T : TX K mg) : FnOk P w K mg base CX0 1 T.a_last_numerator T.d_last_numerator ["correlation", "numerators", "denominator"] (sp_last K) := by
  refine T.F_last_numerator.ok sc_last_numerator (fun vs H Q E h => by obtain ⟨a, b, c, u, n, k, m, rfl, _⟩ := h; rfl) (fun cdv A outer s H vs Q E hr h => ?_)
  obtain ⟨a, b, c, u, n, k, m, rfl, hA, hB, hkn, hn, hm, hc, hu, q⟩ := h
  refine ⟨_, (pss_cons (ps_set (i := 3) sc_last_numerator.nd rfl (Or.inr rfl) (pe_op op_add (pe_callB (r := rLenS K) call_len_seq (by rfl) T.m_len PySem.boot_len (pa_cons (pv 1) pa_nil)) pe_int))
      (pss_cons (ps_set (i := 4) sc_last_numerator.nd rfl (Or.inl rfl) (pe_callB (r := rSum K) (cr_sum rfl) (by rfl) T.m_sum PyProof.Rows.boot_sum (pa_cons (pe_lc (own := [("at", 5)]) (g := gName 5) (tt := tYes) rfl sc_last_numerator.nd (pi_range1 (by rfl) T.m_range (pa_cons (pe_callB (r := rLenS K) call_len_seq (by rfl) T.m_len PySem.boot_len (pa_cons (pv 1) pa_nil)) pa_nil)) (blkOk_by (N := ["correlation", "numerators", "denominator", "order", "known", "at"]) (sc := defScope s_last_numerator) (by decide +kernel)) (fun _ _ _ _ _ => pg_name (i := 5) sc_last_numerator.nd rfl (Or.inl rfl)) (fun _ _ _ _ _ => pts_nil) (fun _ _ _ _ _ => (pe_op op_mulW (pe_ix (r := rIxL K) ix_list (pv 1) (pv 5) (fun _ _ => rfl)) (pe_ix (r := rIxL K) ix_list (pv 0) (pe_op op_sub (pe_op op_sub (pv 3) pe_int) (pv 5)) (fun _ _ => rfl))))) pa_nil)))
      (pss_one (ps_ret (pe_op op_sub (pe_op op_mulW (pv 2) (pe_ix (r := rIxL K) ix_list (pv 0) (pv 3) (fun _ _ => rfl))) (pv 4)))))), ?_⟩
  have hlB : ∀ {σ : L2.St} {G : Hp}, Ex H G → σ[1]? = some (some (.ref b)) → Ev (tCB (rLenS K) (tCons (tVar 1) tNil)) σ G (.int (k : Int)) := fun e h => Ev.is (ev_lenS (K := K) (Ev.s (ev_var h) (ex_l e hB))) (by rw [List.length_map, lf_len])
  refine q_asg (v := .int ((k + 1 : Nat) : Int)) (Ev.is (ev_I0 (g := fun i j => .int (i + j)) (hlB (Ex.refl _) rfl) ev_c) (congrArg V.int (by omega))) fun H1 e1 => ?_
  have hkm : k * (m + 6) ≤ 64 * 106 := Nat.mul_le_mul (by omega) (by omega)
  refine q_asg (v := .int (DT.S k fun l => u l * c (k - l))) (Ev.is (ev_sum (K := K) (ns := lf k fun l => u l * c (k - l)) (EvR.s (EvL.r (el_lcR (n := (k : Int)) _ (ea_cons (hlB e1 rfl) ea_nil) (by omega) (by rw [List.length_map, lf_len, Int.toNat_natCast]) (by rw [List.length_map, lf_len]; omega) (fun _ => rfl) fun i H2 e2 hi => ?_)))) (by rw [lf_sum])) fun H2 e2 => ?_
  · rw [List.length_map, lf_len] at hi
    exact ⟨_, at_int (lf_at hi), ev_I (ev_at (n := (i : Int)) (Ev.s (ev_var rfl) (ex_l (e1.trans e2) hB)) (ev_var rfl) (at_of (j := i) rfl (at_int (lf_at hi)))) (ev_at (n := ((k - i : Nat) : Int)) (Ev.s (ev_var rfl) (ex_l (e1.trans e2) hA)) (Ev.is (ev_I0 (g := fun i j => .int (i - j)) (ev_I0 (g := fun i j => .int (i - j)) (ev_var rfl) ev_c) (ev_var rfl)) (congrArg V.int (by omega))) (at_of (j := k - i) rfl (at_int (lf_at (by omega))))) (cmulw (hu i) (hc _) (by omega))⟩
  exact s_ret (v := .int (DT.lastN c k u)) (ev_I0 (g := fun i j => .int (i - j)) (ev_I (ev_var rfl) (ev_at (n := ((k + 1 : Nat) : Int)) (Ev.s (ev_var rfl) (ex_l (e1.trans e2) hA)) (ev_var rfl) (at_of (j := k + 1) rfl (at_int (lf_at (by omega))))) (cmulw (dn_bt hc (by omega)) (hc _) (by omega))) (ev_var rfl)) fun H3 e3 => q H3 (e1.trans (e2.trans e3))
theorem el_listRev {σ : L2.St} {H : Hp} {te : TE} {xs : List V} (h : EvS K te σ H xs) : EvL (tListRev K te) σ H xs.reverse := fun H1 e Q q =>
  h H1 e _ fun p H2 e2 hp => ⟨p, xs, rfl, hp, fun r hr => q r _ (fresh_back e2 hr) (e2.trans (Ex.new hr)) upd_same⟩
theorem q_appX {σ : L2.St} {H : Hp} {ta te : TE} {l : Addr} {xs : List V} {D : Ends} {tz : TS} {S : V → Hp → Prop} (hl : H l = some (.lst xs)) (ha : Ev ta σ H (.ref l)) (h : EvX te σ H S) (hz : xs.length < 100000) (k : ∀ v H1, Ex H H1 → S v H1 → tz D σ (upd H1 l (.lst (xs ++ [v])))) : tSeq (tDrop (tBM K "list" rAppend ta (tCons te tNil))) tz D σ H :=
  ha H (Ex.refl _) _ fun H1 e1 => ⟨.inl ⟨rfl, xs, sq_of (e1 _ _ hl)⟩, h H1 e1 _ fun v H2 e2 hv => ⟨l, xs, v, rfl, rfl, (e1.trans e2) _ _ hl, sz_lt hz, k v H2 (e1.trans e2) hv⟩⟩
theorem s_par {σ : L2.St} {H : Hp} {ta : TA} {i j : Nat} {v w : V} {D : Ends} (h : EvA ta σ H [v, w]) (k : ∀ H1, Ex H H1 → D.nx ((σ.set i (some v)).set j (some w)) H1) : tPar i j ta D σ H := h H (Ex.refl _) _ fun H1 e => ⟨v, w, rfl, k H1 e⟩
theorem s_asgTup2 {σ : L2.St} {H : Hp} {ta : TA} {i j : Nat} {v w : V} {D : Ends} (h : EvA ta σ H [v, w]) (k : ∀ H1, Ex H H1 → D.nx ((σ.set i (some v)).set j (some w)) H1) : tAsg (tTup ta) (gTup K 2 (gCons (gName i) (gCons (gName j) gNil))) D σ H := eu_tup h (show 2 ≤ 100000 by decide) H (Ex.refl _) _ fun p H1 _ e g => ⟨p, [v, w], rfl, st_of g, rfl, v, [w], rfl, w, [], rfl, rfl, k H1 e⟩
theorem ex_tupN2 {σ : L2.St} {H : Hp} {t1 t2 : TE} {x y : V} (h1 : Ev t1 σ H x) (h2 : Ev t2 σ H y) : EvX (tTup (tCons t1 (tCons t2 tNil))) σ H (fun v H' => ∃ t, v = .ref t ∧ H t = none ∧ H' t = some (.tup [x, y])) := fun H1 e Q q =>
  h1 H1 e _ fun H2 e2 => h2 H2 (e.trans e2) _ fun H3 e3 => ⟨sz_of (show 2 ≤ 100000 by decide), fun t ht => q (.ref t) _ ((e2.trans e3).trans (Ex.new ht)) ⟨t, rfl, fresh_back (e.trans (e2.trans e3)) ht, upd_same⟩⟩
/-- the entry of order k + 1 -/
def ExAt (c : Nat → Int) (H : Hp) (t : Addr) (k : Nat) : Prop := ∃ nl, H t = some (.tup [.ref nl, .int (Dn c (k + 1))]) ∧ H nl = some (.lst ((lf (k + 1) (Un c (k + 1))).map V.int))
theorem ExAt.ex {c : Nat → Int} {H H' : Hp} {t : Addr} {k : Nat} (h : ExAt c H t k) (e : Ex H H') : ExAt c H' t k := by
  obtain ⟨nl, h1, h2⟩ := h
  exact ⟨nl, e _ _ h1, e _ _ h2⟩
def ExL (c : Nat → Int) (H : Hp) (L t : Addr) (k : Nat) : Prop := ∃ nl, nl ≠ L ∧ t ≠ L ∧ H t = some (.tup [.ref nl, .int (Dn c (k + 1))]) ∧ H nl = some (.lst ((lf (k + 1) (Un c (k + 1))).map V.int))
theorem ExL.to {c : Nat → Int} {H H' : Hp} {L t : Addr} {k : Nat} (h : ExL c H L t k) (e : ∀ a o, a ≠ L → H a = some o → H' a = some o) : ExL c H' L t k := by
  obtain ⟨nl, h1, h2, h3, h4⟩ := h
  exact ⟨nl, h1, h2, e _ _ h2 h3, e _ _ h1 h4⟩
def sp_exact (K : PySem.W.Frag) : Sp := fun vs H Q _ => ∃ (a : Addr) (c : Nat → Int) (n m : Nat), vs = [.ref a] ∧ SqL K H a ((lf n c).map V.int) ∧ 1 ≤ n ∧ n ≤ 64 ∧ m ≤ 100 ∧ (∀ j, Bt m (c j)) ∧ (c 0 ≠ 0 → PD c) ∧
  ∀ L (ts : List Addr) H', H L = none → Ex H H' → H' L = some (.lst (ts.map V.ref)) → ts.length = (if c 0 = 0 then 0 else n - 1) → (∀ k t, ts[k]? = some t → ExAt c H' t k) → Q (.ref L) H'
theorem ok_exact_predictors (T : TX K mg) : FnOk P w K mg base CX0 2 T.a_exact_predictors T.d_exact_predictors ["correlation"] (sp_exact K) := by
  refine T.F_exact_predictors.ok sc_exact_predictors (fun vs H Q E h => by obtain ⟨a, c, n, m, rfl, _⟩ := h; rfl) (fun cdv A outer s H vs Q E hr h => ?_)
  obtain ⟨a, c, n, m, rfl, hA, hn1, hn, hm, hc, hpd, k⟩ := h
  refine ⟨_, (pss_cons (ps_set (i := 1) sc_exact_predictors.nd rfl (Or.inl rfl) (pe_lst pa_nil))
      (pss_cons (ps_if (pt_cmpR op_eq (pe_ix (r := rIxL K) ix_list (pv 0) pe_int (fun _ _ => rfl)) pe_int (nomark _)) (pss_one (ps_ret (pv 1))) pss_nil)
      (pss_cons (ps_set (i := 2) sc_exact_predictors.nd rfl (Or.inl rfl) (pe_lst pa_nil))
      (pss_cons (ps_set (i := 3) sc_exact_predictors.nd rfl (Or.inr rfl) pe_int)
      (pss_cons (ps_set (i := 4) sc_exact_predictors.nd rfl (Or.inr rfl) (pe_ix (r := rIxL K) ix_list (pv 0) pe_int (fun _ _ => rfl)))
      (pss_cons (ps_for PassesOwn.never rfl (pi_range2 (by rfl) T.m_range (pa_cons pe_int (pa_cons (pe_callB (r := rLenS K) call_len_seq (by rfl) T.m_len PySem.boot_len (pa_cons (pv 0) pa_nil)) pa_nil))) (pg_name (i := 5) sc_exact_predictors.nd rfl (Or.inl rfl)) (pss_cons (ps_set (i := 6) sc_exact_predictors.nd rfl (Or.inr rfl) (pe_call (ok_last_numerator T) (hr.mono (by decide)) (by rfl) T.g_last_numerator T.F_last_numerator.kp T.b_last_numerator .nil pass0 (pa_cons (pv 0) (pa_cons (pv 2) (pa_cons (pv 3) pa_nil)))))
        (pss_cons (ps_set (i := 7) sc_exact_predictors.nd rfl (Or.inl rfl) (pe_listRev rfl (by rfl) T.m_list (by rfl) T.m_reversed (pv 2)))
        (pss_cons (ps_set (i := 2) sc_exact_predictors.nd rfl (Or.inl rfl) (pe_op op_cat (pe_lc (own := [("a", 8), ("b", 9)]) (g := (gTup K 2 (gCons (gName 8) (gCons (gName 9) gNil)))) (tt := tYes) rfl sc_exact_predictors.nd (pi_zip (by rfl) T.m_zip (pa_cons (pv 2) (pa_cons (pv 7) pa_nil))) (blkOk_by (N := ["correlation", "found", "numerators", "before", "denominator", "order", "last", "mirrored", "a", "b"]) (sc := defScope s_exact_predictors) (by decide +kernel)) (fun _ _ _ _ _ => (pg_tup rfl (pgs_cons (pg_name (i := 8) sc_exact_predictors.nd rfl (Or.inl rfl)) (pgs_cons (pg_name (i := 9) sc_exact_predictors.nd rfl (Or.inl rfl)) pgs_nil)))) (fun _ _ _ _ _ => pts_nil) (fun _ _ _ _ _ => (pe_op op_fdivW (pe_op op_sub (pe_op op_mulW (pv 4) (pv 8)) (pe_op op_mulW (pv 6) (pv 9))) (pv 3)))) (pe_lst (pa_cons (pv 6) pa_nil))))
        (pss_cons (ps_expr (pe_bm PySem.F.plainAttrs_list PySem.F.slot_list_append PySem.F.type_list_append mt_append (pv 1) (pa_cons (pe_tup (pa_cons (pv 2) (pa_cons (pv 4) pa_nil))) pa_nil)))
        (pss_one (ps_asg (pe_tup (pa_cons (pv 4) (pa_cons (pe_op op_fdivW (pe_op op_sub (pe_op op_mulW (pv 4) (pv 4)) (pe_op op_mulW (pv 6) (pv 6))) (pv 3)) pa_nil))) (pg_tup rfl (pgs_cons (pg_name (i := 3) sc_exact_predictors.nd rfl (Or.inr rfl)) (pgs_cons (pg_name (i := 4) sc_exact_predictors.nd rfl (Or.inr rfl)) pgs_nil))))))))))
      (pss_one (ps_ret (pv 1))))))))), ?_⟩
  have at0 : ∀ {σ : L2.St} {G : Hp}, Ex H G → σ[0]? = some (some (.ref a)) → Ev (tOp (rIxL K) (tVar 0) (tC (.int 0))) σ G (.int (c 0)) := fun e h => ev_at (n := 0) (Ev.s (ev_var h) (ex_l e hA)) ev_c (at_of (j := 0) rfl (at_int (lf_at (by omega))))
  refine q_asgL (xs := []) (el_lst ea_nil (by decide)) fun L H1 hL e1 g1 => ?_
  refine q_when (b := decide (c 0 = 0)) (et_test (Ev.is (ev_eq (at0 e1 rfl) ev_c rfl) (congrArg V.bl (decide_eq_decide.mpr ⟨V.int.inj, congrArg V.int⟩)))) (fun hb H2 e2 => ?_) (fun hb H2 e2 => ?_)
  · exact s_ret (ev_var rfl) fun H3 e3 => k L [] H3 hL (e1.trans (e2.trans e3)) ((e2.trans e3) _ _ g1) (by rw [if_pos (of_decide_eq_true hb)]; rfl) fun k t h => by cases h
  have hc0 := of_decide_eq_false hb
  have hp := hpd hc0
  have hall := DT.lev_all hp
  refine q_asgL (xs := []) (el_lst ea_nil (by decide)) fun nl0 H3 hnl0 e3 gnl0 => ?_
  refine q_asg (v := .int (Dn c 0)) ev_c fun H4 e4 => ?_
  have e14 := e1.trans (e2.trans (e3.trans e4))
  have hD1 : Dn c 1 = c 0 := by
    have := DT.den_eq (hall 0).2 (by show (1 : Int) ≠ 0; decide)
    show DT.det (0 + 1) (tp c) = c 0
    rw [this]
    show (1 : Int) * c 0 - 0 = c 0
    omega
  refine q_asg (v := .int (Dn c 1)) (Ev.is (at0 e14 rfl) (congrArg V.int hD1.symm)) fun H5 e5 => ?_
  have hnlL : nl0 ≠ L := by rintro rfl; rw [e2 _ _ g1] at hnl0; cases hnl0
  refine q_forR2 (lo := 1) (n := (n : Int)) (ea_cons ev_c (ea_cons (Ev.is (ev_lenS (K := K) (Ev.s (ev_var rfl) (ex_l (e14.trans e5) hA))) (by rw [List.length_map, lf_len])) ea_nil)) (by omega) (fun i σ' H' => ∃ (nl : Addr) (ts : List Addr) (z5 z6 z7 z8 z9 : Option V), σ' = [some (.ref a), some (.ref L), some (.ref nl), some (.int (Dn c i)), some (.int (Dn c (i + 1))), z5, z6, z7, z8, z9] ∧ Ex H H' ∧ H' L = some (.lst (ts.map V.ref)) ∧ ts.length = i ∧ (∀ k t, ts[k]? = some t → ExL c H' L t k) ∧ nl ≠ L ∧ H' nl = some (.lst ((lf i (Un c i)).map V.int))) (fun H6 e6 => ⟨nl0, [], none, none, none, none, none, rfl, e14.trans (e5.trans e6), (e2.trans (e3.trans (e4.trans (e5.trans e6)))) _ _ g1, rfl, (fun k t h => by cases h), hnlL, (e4.trans (e5.trans e6)) _ _ gnl0⟩) ?_ ?_
  · rintro i σ' G hi ⟨nl, ts, z5, z6, z7, z8, z9, rfl, ex, gL, htl, hts, hne, gnl⟩
    have hi' : i + 1 < n := by omega
    have h0 := hall i
    have h1 := hall (i + 1)
    have hsm : ∀ q : Nat, q ≤ 64 → q * (m + 6) ≤ 64 * 106 := fun q hq => Nat.mul_le_mul hq (by omega)
    have hi6 := hsm i (by omega)
    have hi7 := hsm (i + 1) (by omega)
    refine q_asg (v := .int (DT.lastN c i (Un c i))) (ev_call (vs := [.ref a, .ref nl, .int (Dn c i)]) (ea_cons (ev_var rfl) (ea_cons (ev_var rfl) (ea_cons (ev_var rfl) ea_nil))) fun G1 f1 Q1 q1 _ => ⟨a, nl, c, Un c i, n, i, m, rfl, ex_l (ex.trans f1) hA, sq_of (f1 _ _ gnl), hi', hn, hm, hc, fun j => un_bt hc (by omega), q1⟩) fun G1 f1 => ?_
    have hlb : Bt (i * (m + 6) + m + 8) (DT.lastN c i (Un c i)) := ln_bt hc (fun j => un_bt hc (by omega)) (by omega)
    have hlast : Un c (i + 1) i = DT.lastN c i (Un c i) := DT.lev_last h0.2 (by omega)
    obtain ⟨la, hla⟩ : ∃ la, DT.lastN c i (Un c i) = la := ⟨_, rfl⟩
    have hdd : Dn c i * Dn c (i + 2) = Dn c (i + 1) * Dn c (i + 1) - la * la := by
      rw [← hla]
      exact DT.lev_den h0.2 h1.2 (by omega) (by omega)
    have hnum : ∀ l, l < i → Dn c (i + 1) * Un c i l - la * Un c i (i - 1 - l) = Dn c i * Un c (i + 1) l := fun l hl => by
      rw [← hla]
      exact DT.lev_num h0.2 (by omega) (by omega) hl
    rw [hla] at hlb hlast ⊢
    have gnl1 := f1 _ _ gnl
    refine q_asgL (xs := (lf i fun l => Un c i (i - 1 - l)).map V.int) (EvL.is (el_listRev (Ev.s (ev_var rfl) (sq_of gnl1))) (by rw [← List.map_reverse, lf_rev])) fun mr G2 hmr f2 gmr => ?_
    have gnl2 := f2 _ _ gnl1
    have hDb := dn_bt (k := i + 1) hc (by omega)
    have hDb0 := dn_bt (k := i) hc (by omega)
    have hDp : 0 < Dn c i := h0.1
    show tSeq _ _ _ [some (.ref a), some (.ref L), some (.ref nl), some (.int (Dn c i)), some (.int (Dn c (i + 1))), some (.int (1 + (i : Int))), some (.int la), some (.ref mr), z8, z9] _
    refine q_asgL (xs := (lf (i + 1) (Un c (i + 1))).map V.int) (EvL.is (el_cat (xs := (lf i (Un c (i + 1))).map V.int) (ys := [V.int la]) (EvL.r (el_lcZ (K := K) (xs := (lf i (Un c i)).map V.int) (ys := (lf i fun l => Un c i (i - 1 - l)).map V.int) ((lf i (Un c (i + 1))).map V.int) (Ev.s (ev_var rfl) (sq_of gnl2)) (Ev.s (ev_var rfl) (sq_of gmr)) (by simp only [List.length_map, lf_len]; omega) (by rw [List.length_map, lf_len]; omega) (fun _ _ => rfl) fun l x y G3 f3 hx hy => ?_)) (EvL.r (el_lst (vs := [V.int la]) (ea_cons (ev_var rfl) ea_nil) (show 1 ≤ 100000 by decide))) (by rw [List.length_map, lf_len]; show i + 1 ≤ _; omega)) (by rw [lf_succ, List.map_append, hlast]; rfl)) fun n2 G3 hn2 f3 gn2 => ?_
    · obtain ⟨x, hx1, hxl, rfl⟩ := int_at hx
      obtain ⟨y, hy1, _, rfl⟩ := int_at hy
      rw [lf_len] at hxl
      rw [lf_at hxl] at hx1 hy1
      obtain rfl := Option.some.inj hx1
      obtain rfl := Option.some.inj hy1
      refine ⟨_, at_int (lf_at hxl), Ev.is (ev_I (ev_I0 (g := fun i j => .int (i - j)) (ev_I (ev_var rfl) (ev_var rfl) (cmulw hDb (un_bt (k := i) hc (by omega)) (by omega))) (ev_I (ev_var rfl) (ev_var rfl) (cmulw hlb (un_bt (k := i) hc (by omega)) (by omega)))) (ev_var rfl) (cdivw hDp hDb0 (by omega))) (congrArg V.int ?_)⟩
      rw [hnum l hxl, Int.mul_ediv_cancel_left _ (by omega)]
    have f13 := f1.trans (f2.trans f3)
    have gL3 := f13 _ _ gL
    have hn2L : n2 ≠ L := by rintro rfl; rw [(f1.trans f2) _ _ gL] at hn2; cases hn2
    refine q_appX gL3 (ev_var rfl) (ex_tupN2 (ev_var rfl) (ev_var rfl)) (by rw [List.length_map]; omega) fun v G4 f4 hv => ?_
    obtain ⟨t, rfl, htn, gt⟩ := hv
    have gL4 := f4 _ _ gL3
    have htL : t ≠ L := by rintro rfl; rw [gL3] at htn; cases htn
    have to : ∀ x o, x ≠ L → G x = some o → upd G4 L (.lst (ts.map V.ref ++ [.ref t])) x = some o := fun x o hx h => by rw [upd_ne hx]; exact (f13.trans f4) _ _ h
    have exm : Ex H (upd G4 L (.lst (ts.map V.ref ++ [.ref t]))) := Ex.mut (ex.trans (f13.trans f4)) hL
    have gLn : upd G4 L (.lst (ts.map V.ref ++ [.ref t])) L = some (.lst ((ts ++ [t]).map V.ref)) := by rw [upd_same, List.map_append]; rfl
    have gtn : upd G4 L (.lst (ts.map V.ref ++ [.ref t])) t = some (.tup [.ref n2, .int (Dn c (i + 1))]) := by rw [upd_ne htL]; exact gt
    have gnn : upd G4 L (.lst (ts.map V.ref ++ [.ref t])) n2 = some (.lst ((lf (i + 1) (Un c (i + 1))).map V.int)) := by rw [upd_ne hn2L]; exact f4 _ _ gn2
    generalize upd G4 L (.lst (ts.map V.ref ++ [.ref t])) = G5 at *
    show tAsg _ _ _ [some (.ref a), some (.ref L), some (.ref n2), some (.int (Dn c i)), some (.int (Dn c (i + 1))), some (.int (1 + (i : Int))), some (.int la), some (.ref mr), z8, z9] _
    refine s_asgTup2 (v := .int (Dn c (i + 1))) (w := .int (Dn c (i + 2))) (ea_cons (ev_var rfl) (ea_cons (Ev.is (ev_I (ev_I0 (g := fun i j => .int (i - j)) (ev_I (ev_var rfl) (ev_var rfl) (cmulw hDb hDb (by omega))) (ev_I (ev_var rfl) (ev_var rfl) (cmulw hlb hlb (by omega)))) (ev_var rfl) (cdivw hDp hDb0 (by omega))) (congrArg V.int (by rw [← hdd, Int.mul_ediv_cancel_left _ (by omega)]))) ea_nil)) fun G6 f6 => ⟨n2, ts ++ [t], _, _, _, _, _, rfl, exm.trans f6, f6 _ _ gLn, by rw [List.length_append, htl]; rfl, fun j t' hj => ?_, hn2L, f6 _ _ gnn⟩
    rcases Nat.lt_or_ge j ts.length with hlt | hge
    · rw [List.getElem?_append_left hlt] at hj
      exact (hts j t' hj).to fun x o hx h => f6 _ _ (to x o hx h)
    · rw [List.getElem?_append_right hge] at hj
      have hj0 : j - ts.length = 0 := by
        rcases Nat.eq_zero_or_pos (j - ts.length) with h | h
        · exact h
        · rw [List.getElem?_eq_none (by show 1 ≤ _; omega)] at hj; cases hj
      rw [hj0] at hj
      obtain rfl : t = t' := Option.some.inj hj
      obtain rfl : j = i := by omega
      exact ⟨n2, hn2L, htL, f6 _ _ gtn, f6 _ _ gnn⟩
  · rintro σ' G ⟨nl, ts, z5, z6, z7, z8, z9, rfl, ex, gL, htl, hts, hne, gnl⟩
    refine s_ret (ev_var rfl) fun G1 f1 => k L ts G1 hL (ex.trans f1) (f1 _ _ gL) (by rw [htl, if_neg hc0]; omega) fun j t hj => ?_
    obtain ⟨nl', _, _, h3, h4⟩ := hts j t hj
    exact ⟨nl', f1 _ _ h3, f1 _ _ h4⟩

/-! ### the autocorrelation of a row is positive definite -/
def gx (ns : List Int) : Nat → Int := fun t => ns.getD t 0
theorem gx_out {ns : List Int} {t : Nat} (h : ns.length ≤ t) : gx ns t = 0 := by
  unfold gx
  rw [List.getD_eq_getElem?_getD, List.getElem?_eq_none h]
  rfl
theorem lag_S (ns : List Int) (d : Nat) : lagS ns d = DT.S ns.length fun t => gx ns t * gx ns (t + d) := by
  have e : lagS ns d = DT.S (ns.length - d) fun t => gx ns t * gx ns (t + d) := by
    rw [lagS_N]
    unfold lagN
    rw [show (List.range (ns.length - d)).map (fun t => ns.getD (t + d) 0 * ns.getD t 0) = lf (ns.length - d) fun t => ns.getD (t + d) 0 * ns.getD t 0 from rfl, lf_sum]
    exact DT.S_congr fun t _ => Int.mul_comm _ _
  rw [e]
  by_cases h : d ≤ ns.length
  · obtain ⟨r, hr⟩ : ∃ r, r = ns.length - d := ⟨_, rfl⟩
    rw [← hr, show ns.length = r + d by omega, DT.S_split, DT.S_zero (n := d) fun t ht => by rw [gx_out (t := r + t + d) (by omega), Int.mul_zero], Int.add_zero]
  · rw [show ns.length - d = 0 by omega]
    exact (DT.S_zero fun t ht => by rw [gx_out (t := t + d) (by omega), Int.mul_zero]).symm
theorem last_nz {x : Nat → Int} : ∀ {N : Nat}, (∀ t, N ≤ t → x t = 0) → (∃ t, x t ≠ 0) → ∃ t0, x t0 ≠ 0 ∧ ∀ t, t0 < t → x t = 0
  | 0, hN, ⟨t, h⟩ => absurd (hN t (Nat.zero_le _)) h
  | N + 1, hN, h => by
    by_cases h0 : x N = 0
    · exact last_nz (N := N) (fun t ht => by
        rcases Nat.eq_or_lt_of_le ht with e | e
        · rw [← e]; exact h0
        · exact hN t e) h
    · exact ⟨N, h0, fun t ht => hN t ht⟩
theorem lag_pd {ns : List Int} (h : lagS ns 0 ≠ 0) : PD (lagS ns) := by
  have hx : ∃ t, gx ns t ≠ 0 := by
    refine Classical.byContradiction fun z => h ?_
    rw [lag_S]
    refine DT.S_zero fun t _ => ?_
    have : gx ns t = 0 := Classical.byContradiction fun y => z ⟨t, y⟩
    rw [this, Int.zero_mul]
  obtain ⟨t0, h1, h2⟩ := last_nz (N := ns.length) (fun t ht => gx_out ht) hx
  exact DT.pd_ac (x := gx ns) (N := ns.length) (fun t ht => gx_out ht) h1 h2 fun j => lag_S ns j
theorem gx_bt {ns : List Int} {b : Nat} (h : ∀ x ∈ ns, Bt b x) (t : Nat) : Bt b (gx ns t) := by
  by_cases ht : t < ns.length
  · unfold gx
    rw [List.getD_eq_getElem?_getD, List.getElem?_eq_getElem ht]
    exact h _ (List.getElem_mem ht)
  · rw [gx_out (by omega)]
    exact Nat.two_pow_pos _
theorem lag_bt {ns : List Int} {b s : Nat} (h : ∀ x ∈ ns, Bt b x) (hl : ns.length ≤ 2 ^ s) (d : Nat) : Bt (b + b + s) (lagS ns d) := by
  rw [lag_S]
  exact DT.Bt.S (fun t _ => (gx_bt h t).mul (gx_bt h _)) hl
theorem acor_lf (ns : List Int) (m : Nat) : acor ns m = lf (m + 1) (lagS ns) := rfl

-- K60B
/-! ### rows of numbers in a list -/
open DT (Bt PD tp Sol)
def RwAt (H0 H : Hp) (qs : List Addr) (n : Nat) (w : Nat) (R : Nat → Nat → Int) : Prop := qs.length = n ∧ (∀ (i j : Nat) (q : Addr), qs[i]? = some q → qs[j]? = some q → i = j) ∧ ∀ (i : Nat) (q : Addr), qs[i]? = some q → H0 q = none ∧ H q = some (.lst ((lf w (R i)).map V.int))
section
variable {H0 H H' : Hp} {qs : List Addr} {n w : Nat} {R R' : Nat → Nat → Int}
theorem RwAt.keep (h : RwAt H0 H qs n w R) (e : ∀ (i : Nat) (q : Addr) (o : HO), qs[i]? = some q → H q = some o → H' q = some o) : RwAt H0 H' qs n w R := ⟨h.1, h.2.1, fun i q hq => ⟨(h.2.2 i q hq).1, e i q _ hq (h.2.2 i q hq).2⟩⟩
theorem RwAt.ex (h : RwAt H0 H qs n w R) (e : Ex H H') : RwAt H0 H' qs n w R := h.keep fun _ _ _ _ g => e _ _ g
theorem RwAt.get (h : RwAt H0 H qs n w R) {i : Nat} (hi : i < n) : ∃ q, qs[i]? = some q ∧ H0 q = none ∧ H q = some (.lst ((lf w (R i)).map V.int)) := by
  have hl : i < qs.length := by rw [h.1]; exact hi
  exact ⟨qs[i], List.getElem?_eq_getElem hl, h.2.2 i _ (List.getElem?_eq_getElem hl)⟩
theorem RwAt.snoc {q : Addr} (h : RwAt H0 H qs n w R) (h0 : H0 q = none) (hq : H q = none) (e : ∀ (i : Nat) (x : Addr) (o : HO), qs[i]? = some x → H x = some o → H' x = some o) (hg : H' q = some (.lst ((lf w (R n)).map V.int))) : RwAt H0 H' (qs ++ [q]) (n + 1) w R := by
  have nq : ∀ (i : Nat) (x : Addr), qs[i]? = some x → x ≠ q := fun i x hx => by rintro rfl; rw [(h.2.2 i _ hx).2] at hq; cases hq
  have sp : ∀ (i : Nat) (x : Addr), (qs ++ [q])[i]? = some x → (i < n ∧ qs[i]? = some x) ∨ (i = n ∧ x = q) := fun i x hx => by
    rcases Nat.lt_or_ge i qs.length with hlt | hge
    · rw [List.getElem?_append_left hlt] at hx
      exact .inl ⟨by rw [← h.1]; exact hlt, hx⟩
    · rw [List.getElem?_append_right hge] at hx
      have hj0 : i - qs.length = 0 := by
        rcases Nat.eq_zero_or_pos (i - qs.length) with z | z
        · exact z
        · rw [List.getElem?_eq_none (by show 1 ≤ _; omega)] at hx; cases hx
      rw [hj0] at hx
      exact .inr ⟨by rw [← h.1]; omega, (Option.some.inj hx).symm⟩
  refine ⟨by rw [List.length_append, h.1]; rfl, fun i j x hi hj => ?_, fun i x hx => ?_⟩
  · rcases sp i x hi with ⟨a, b⟩ | ⟨a, b⟩
    · rcases sp j x hj with ⟨c, d⟩ | ⟨c, d⟩
      · exact h.2.1 i j x b d
      · exact absurd d (nq i x b)
    · rcases sp j x hj with ⟨c, d⟩ | ⟨c, d⟩
      · exact absurd b (nq j x d)
      · rw [a, c]
  · rcases sp i x hx with ⟨a, b⟩ | ⟨a, rfl⟩
    · exact ⟨(h.2.2 i x b).1, e i x _ b (h.2.2 i x b).2⟩
    · rw [a]
      exact ⟨h0, hg⟩
theorem lf_set {n j : Nat} {f g : Nat → Int} {x : Int} (h : ∀ d, d < n → d ≠ j → g d = f d) (hx : g j = x) : ((lf n f).map V.int).set j (.int x) = (lf n g).map V.int := by
  have := set_range (m := n) (d0 := j) (f := f) (g := g) h
  rw [hx] at this
  unfold lf
  rw [List.map_map, List.map_map]
  exact this
theorem RwAt.put (h : RwAt H0 H qs n w R) {i j : Nat} {q : Addr} {x : Int} (hq : qs[i]? = some q) (hR : ∀ a b, R' a b = if a = i ∧ b = j then x else R a b) : RwAt H0 (upd H q (.lst (((lf w (R i)).map V.int).set j (.int x)))) qs n w R' := by
  refine ⟨h.1, h.2.1, fun a y hy => ⟨(h.2.2 a y hy).1, ?_⟩⟩
  by_cases e : a = i
  · subst e
    rw [hq] at hy
    obtain rfl := Option.some.inj hy
    rw [upd_same]
    congr 2
    exact lf_set (fun d _ hd => by rw [hR, if_neg (fun z => hd z.2)]) (by rw [hR, if_pos ⟨rfl, rfl⟩])
  · have hne : y ≠ q := by rintro rfl; exact e (h.2.1 a i y hy hq)
    rw [upd_ne hne, (h.2.2 a y hy).2]
    congr 3
    exact lf_congr fun d _ => by rw [hR, if_neg (fun z => e z.1)]
theorem RwAt.to (h : RwAt H0 H qs n w R) (e : ∀ i j, i < n → j < w → R i j = R' i j) : RwAt H0 H qs n w R' := ⟨h.1, h.2.1, fun i q hq => by
  have hi : i < n := by rw [← h.1]; exact (List.getElem?_eq_some_iff.mp hq).1
  rw [(h.2.2 i q hq).2]
  exact ⟨(h.2.2 i q hq).1, by congr 3; exact lf_congr fun j hj => e i j hi hj⟩⟩
theorem ev_rw {σ : L2.St} {tl ti tj : TE} {L : Addr} {i j : Nat} (hR : RwAt H0 H qs n w R) (hL : H L = some (.lst (qs.map V.ref))) (hi : i < n) (hj : j < w) (el : Ev tl σ H (.ref L)) (ei : Ev ti σ H (.int (i : Int))) (ej : Ev tj σ H (.int (j : Int))) : Ev (tOp (rIxL K) (tOp (rIxL K) tl ti) tj) σ H (.int (R i j)) := by
  obtain ⟨q, h1, _, h3⟩ := hR.get hi
  exact ev_at (n := (j : Int)) (Ev.s (ev_at (n := (i : Int)) (Ev.s el (sq_of hL)) ei (at_of (j := i) rfl (by rw [List.getElem?_map, h1]; rfl))) (sq_of h3)) ej (at_of (j := j) rfl (at_int (lf_at hj)))
theorem ev_rwq {σ : L2.St} {tl ti : TE} {L q : Addr} {i : Nat} (hL : H L = some (.lst (qs.map V.ref))) (hq : qs[i]? = some q) (el : Ev tl σ H (.ref L)) (ei : Ev ti σ H (.int (i : Int))) : Ev (tOp (rIxL K) tl ti) σ H (.ref q) :=
  ev_at (n := (i : Int)) (Ev.s el (sq_of hL)) ei (at_of (j := i) rfl (by rw [List.getElem?_map, hq]; rfl))
end
theorem s_appX {σ : L2.St} {H : Hp} {ta te : TE} {l : Addr} {xs : List V} {D : Ends} {S : V → Hp → Prop} (hl : H l = some (.lst xs)) (ha : Ev ta σ H (.ref l)) (h : EvX te σ H S) (hz : xs.length < 100000) (k : ∀ v H1, Ex H H1 → S v H1 → D.nx σ (upd H1 l (.lst (xs ++ [v])))) : tDrop (tBM K "list" rAppend ta (tCons te tNil)) D σ H :=
  ha H (Ex.refl _) _ fun H1 e1 => ⟨.inl ⟨rfl, xs, sq_of (e1 _ _ hl)⟩, h H1 e1 _ fun v H2 e2 hv => ⟨l, xs, v, rfl, rfl, (e1.trans e2) _ _ hl, sz_lt hz, k v H2 (e1.trans e2) hv⟩⟩
theorem ex_ofL {σ : L2.St} {H : Hp} {te : TE} {xs : List V} (h : EvL te σ H xs) : EvX te σ H (fun v H' => ∃ p, v = .ref p ∧ H p = none ∧ H' p = some (.lst xs)) := fun H1 e Q q => h H1 e _ fun p H2 hp e2 g => q (.ref p) H2 e2 ⟨p, rfl, fresh_back e hp, g⟩
theorem ev_absd {σ : L2.St} {H : Hp} {t1 t2 : TE} {i j : Nat} (h1 : Ev t1 σ H (.int (i : Int))) (h2 : Ev t2 σ H (.int (j : Int))) : Ev (tCB (fun xs H Q => ∃ i, xs = [V.int i] ∧ Q (V.int (if i < 0 then -i else i)) H) (tCons (tOp (rI0 fun i j => .int (i - j)) t1 t2) tNil)) σ H (.int (((if j ≤ i then i - j else j - i : Nat)) : Int)) :=
  Ev.is (ev_abs (ev_I0 (g := fun i j => .int (i - j)) h1 h2)) (congrArg V.int (by split <;> split <;> omega))
/-! ### the law's minors -/
def sp_minors (K : PySem.W.Frag) : Sp := fun vs H Q _ => ∃ (a : Addr) (c : Nat → Int) (n w m : Nat), vs = [.ref a, .int (n : Int)] ∧ SqL K H a ((lf w c).map V.int) ∧ n ≤ w ∧ n ≤ 60 ∧ m ≤ 100 ∧ (∀ j, Bt m (c j)) ∧ PD c ∧ RetL ((lf n fun k => Dn c (k + 1)).map V.int) H Q
theorem ok_law_minors (T : TX K mg) : FnOk P w K mg base CX0 1 T.a_law_minors T.d_law_minors ["sums", "size"] (sp_minors K) := by
  refine T.F_law_minors.ok sc_law_minors (fun vs H Q E h => by obtain ⟨a, c, n, w, m, rfl, _⟩ := h; rfl) (fun cdv A outer s H vs Q E hr h => ?_)
  obtain ⟨a, c, n, wd, m, rfl, hA, hnw, hn, hm, hc, hpd, kk⟩ := h
  refine ⟨_, (pss_cons (ps_set (i := 2) sc_law_minors.nd rfl (Or.inl rfl) (pe_lst pa_nil))
      (pss_cons (ps_for PassesOwn.never rfl (pi_range1 (by rfl) T.m_range (pa_cons (pv 1) pa_nil)) (pg_name (i := 3) sc_law_minors.nd rfl (Or.inr rfl)) (pss_one (ps_expr (pe_bm PySem.F.plainAttrs_list PySem.F.slot_list_append PySem.F.type_list_append mt_append (pv 2) (pa_cons (pe_lc (own := [("j", 4)]) (g := gName 4) (tt := tYes) rfl sc_law_minors.nd (pi_range1 (by rfl) T.m_range (pa_cons (pv 1) pa_nil)) (blkOk_by (N := ["sums", "size", "rows", "i", "j", "minors", "before", "k", "product"]) (sc := defScope s_law_minors) (by decide +kernel)) (fun _ _ _ _ _ => pg_name (i := 4) sc_law_minors.nd rfl (Or.inl rfl)) (fun _ _ _ _ _ => pts_nil) (fun _ _ _ _ _ => (pe_ix (r := rIxL K) ix_list (pv 0) (pe_callB call_abs (by rfl) T.m_abs PyProof.Rows.boot_abs (pa_cons (pe_op op_sub (pv 3) (pv 4)) pa_nil)) (fun _ _ => rfl)))) pa_nil)))))
      (pss_cons (ps_set (i := 5) sc_law_minors.nd rfl (Or.inl rfl) (pe_lst pa_nil))
      (pss_cons (ps_set (i := 6) sc_law_minors.nd rfl (Or.inl rfl) pe_int)
      (pss_cons (ps_for PassesOwn.never rfl (pi_range1 (by rfl) T.m_range (pa_cons (pv 1) pa_nil)) (pg_name (i := 7) sc_law_minors.nd rfl (Or.inl rfl)) (pss_cons (ps_expr (pe_bm PySem.F.plainAttrs_list PySem.F.slot_list_append PySem.F.type_list_append mt_append (pv 5) (pa_cons (pe_ix (r := rIxL K) ix_list (pe_ix (r := rIxL K) ix_list (pv 2) (pv 7) (fun _ _ => rfl)) (pv 7) (fun _ _ => rfl)) pa_nil)))
        (pss_cons (ps_for PassesOwn.never rfl (pi_range2 (by rfl) T.m_range (pa_cons (pe_op op_add (pv 7) pe_int) (pa_cons (pv 1) pa_nil))) (pg_name (i := 3) sc_law_minors.nd rfl (Or.inr rfl)) (pss_one (ps_for PassesOwn.never rfl (pi_range2 (by rfl) T.m_range (pa_cons (pe_op op_add (pv 7) pe_int) (pa_cons (pv 1) pa_nil))) (pg_name (i := 4) sc_law_minors.nd rfl (Or.inl rfl)) (pss_cons (ps_set (i := 8) sc_law_minors.nd rfl (Or.inl rfl) (pe_op op_sub (pe_op op_mulW (pe_ix (r := rIxL K) ix_list (pe_ix (r := rIxL K) ix_list (pv 2) (pv 3) (fun _ _ => rfl)) (pv 4) (fun _ _ => rfl)) (pe_ix (r := rIxL K) ix_list (pe_ix (r := rIxL K) ix_list (pv 2) (pv 7) (fun _ _ => rfl)) (pv 7) (fun _ _ => rfl))) (pe_op op_mulW (pe_ix (r := rIxL K) ix_list (pe_ix (r := rIxL K) ix_list (pv 2) (pv 3) (fun _ _ => rfl)) (pv 7) (fun _ _ => rfl)) (pe_ix (r := rIxL K) ix_list (pe_ix (r := rIxL K) ix_list (pv 2) (pv 7) (fun _ _ => rfl)) (pv 4) (fun _ _ => rfl)))))
            (pss_one (ps_asg (pe_op op_fdivW (pv 8) (pv 6)) (pg_sub (pe_ix (r := rIxL K) ix_list (pv 2) (pv 3) (fun _ _ => rfl)) (pv 4) set_list)))))))
        (pss_one (ps_set (i := 6) sc_law_minors.nd rfl (Or.inl rfl) (pe_ix (r := rIxL K) ix_list (pe_ix (r := rIxL K) ix_list (pv 2) (pv 7) (fun _ _ => rfl)) (pv 7) (fun _ _ => rfl)))))))
      (pss_one (ps_ret (pv 5)))))))), ?_⟩
  have hall := DT.lev_all hpd
  have hD0 : ∀ k, DT.det k (tp c) ≠ 0 := fun k => by have := (hall k).1; omega
  have hsol : ∀ k, ∀ b, Sol (tp c) k (DT.U (tp c) k b) b := fun k => DT.sol_all k (fun j _ => hD0 j) k (Nat.le_refl k)
  have hbrd : ∀ k i j, k ≤ 60 → Bt (60 * 106 + 108) (DT.brd (tp c) k i j) := fun k i j hk => (DT.brd_bt (DT.tp_bt hc) (by omega) i j).mono (by
    have : k * (m + 6) ≤ 60 * 106 := Nat.mul_le_mul hk (by omega)
    omega)
  refine q_asgL (xs := []) (el_lst ea_nil (by decide)) fun L H1 hL e1 g1 => ?_
  refine q_forR1 (n := (n : Int)) (ea_cons (ev_var rfl) ea_nil) (by omega) (fun i σ' H' => ∃ (qs : List Addr) (z3 z4 : Option V), σ' = [some (.ref a), some (.int (n : Int)), some (.ref L), z3, z4, none, none, none, none] ∧ Ex H H' ∧ H' L = some (.lst (qs.map V.ref)) ∧ RwAt H H' qs i n (fun i j => tp c j i) ∧ ∀ (j : Nat) (q : Addr), qs[j]? = some q → q ≠ L) (fun H2 e2 => ⟨[], none, none, rfl, e1.trans e2, e2 _ _ g1, ⟨rfl, (fun i j q h => by cases h), fun i q h => by cases h⟩, fun j q h => by cases h⟩) ?_ ?_
  · rintro i σ' H2 hi ⟨qs, z3, z4, rfl, ex, gL, hR, hqL⟩
    refine s_appX gL (ev_var rfl) (ex_ofL (xs := (lf n fun j => tp c j i).map V.int) (el_lcR (n := (n : Int)) _ (ea_cons (ev_var rfl) ea_nil) (by omega) (by rw [List.length_map, lf_len, Int.toNat_natCast]) (by rw [List.length_map, lf_len]; omega) (fun _ => rfl) fun j G eG hj => ?_)) (by rw [List.length_map, hR.1]; omega) fun v H3 e3 hv => ?_
    · rw [List.length_map, lf_len] at hj
      refine ⟨_, at_int (lf_at hj), ev_at (n := (((if j ≤ i then i - j else j - i : Nat)) : Int)) (Ev.s (ev_var rfl) (ex_l (ex.trans eG) hA)) (ev_absd (ev_var rfl) (ev_var rfl)) (at_of (j := if j ≤ i then i - j else j - i) rfl (at_int (lf_at (by split <;> omega))))⟩
    · obtain ⟨q, rfl, hq, gq⟩ := hv
      have hqL' : q ≠ L := by rintro rfl; rw [gL] at hq; cases hq
      refine ⟨qs ++ [q], _, _, rfl, Ex.mut (ex.trans e3) hL, by rw [upd_same, List.map_append]; rfl, hR.snoc (fresh_back ex hq) hq (fun j x o hx h => by rw [upd_ne (hqL j x hx)]; exact e3 _ _ h) (by rw [upd_ne hqL']; exact gq), fun j x hx => ?_⟩
      rcases List.mem_append.mp (List.mem_of_getElem? hx) with z | z
      · obtain ⟨l, hl⟩ := List.mem_iff_getElem?.mp z
        exact hqL l x hl
      · rw [List.mem_singleton.mp z]
        exact hqL'
  rintro σ' H2 ⟨qs, z3, z4, rfl, ex2, gL2, hR2, hqL⟩
  rw [Int.toNat_natCast] at hR2
  refine q_asgL (xs := []) (el_lst ea_nil (by decide)) fun M H3 hM e3 gM3 => ?_
  have hML : M ≠ L := by rintro rfl; rw [gL2] at hM; cases hM
  have hqM : ∀ (j : Nat) (q : Addr), qs[j]? = some q → q ≠ M := fun j q hq => by rintro rfl; rw [(hR2.2.2 j _ hq).2] at hM; cases hM
  have hMf : H M = none := fresh_back ex2 hM
  refine q_asg (v := .int (Dn c 0)) ev_c fun H4 e4 => ?_
  have e34 := e3.trans e4
  refine q_forR1 (n := (n : Int)) (ea_cons (ev_var rfl) ea_nil) (by omega) (fun k σ' H' => ∃ (R : Nat → Nat → Int) (z3 z4 z7 z8 : Option V), σ' = [some (.ref a), some (.int (n : Int)), some (.ref L), z3, z4, some (.ref M), some (.int (Dn c k)), z7, z8] ∧ Ex H H' ∧ H' L = some (.lst (qs.map V.ref)) ∧ RwAt H H' qs n n R ∧ H' M = some (.lst ((lf k fun k => Dn c (k + 1)).map V.int)) ∧ ∀ i j, k ≤ i → k ≤ j → i < n → j < n → R i j = DT.brd (tp c) k i j) (fun H5 e5 => ⟨_, z3, z4, none, none, rfl, ex2.trans (e34.trans e5), (e34.trans e5) _ _ gL2, hR2.ex (e34.trans e5), (e4.trans e5) _ _ gM3, fun i j _ _ _ _ => (DT.brd_zero (tp c) i j).symm⟩) ?_ ?_
  · rintro k σ' G hk' ⟨R, z3, z4, z7, z8, rfl, ex, gL, hR, gM, hB⟩
    have hk : k < n := by omega
    have hdiag : DT.brd (tp c) k k k = Dn c (k + 1) := DT.brd_diag (hsol k _) (hD0 k)
    refine q_appX gM (ev_var rfl) (S := fun v H' => v = .int (Dn c (k + 1))) (fun G1 f1 Q q => (ev_rw (hR.ex f1) (f1 _ _ gL) hk hk (ev_var rfl) (ev_var rfl) (ev_var rfl)) G1 (Ex.refl _) _ fun G2 f2 => q _ G2 f2 (by rw [hB k k (Nat.le_refl k) (Nat.le_refl k) hk hk, hdiag])) (by rw [List.length_map, lf_len]; omega) fun v G1 f1 hv => ?_
    rw [hv]
    have hMs : (lf k fun k => Dn c (k + 1)).map V.int ++ [V.int (Dn c (k + 1))] = (lf (k + 1) fun k => Dn c (k + 1)).map V.int := by rw [lf_succ, List.map_append]; rfl
    rw [hMs]
    have ex1 : Ex H (upd G1 M (.lst ((lf (k + 1) fun k => Dn c (k + 1)).map V.int))) := Ex.mut (ex.trans f1) hMf
    have gL1 : upd G1 M (.lst ((lf (k + 1) fun k => Dn c (k + 1)).map V.int)) L = some (.lst (qs.map V.ref)) := by rw [upd_ne hML.symm]; exact f1 _ _ gL
    have hR1 : RwAt H (upd G1 M (.lst ((lf (k + 1) fun k => Dn c (k + 1)).map V.int))) qs n n R := hR.keep fun i q o hq h => by rw [upd_ne (hqM i q hq)]; exact f1 _ _ h
    have gM1 : upd G1 M (.lst ((lf (k + 1) fun k => Dn c (k + 1)).map V.int)) M = some (.lst ((lf (k + 1) fun k => Dn c (k + 1)).map V.int)) := upd_same
    generalize upd G1 M (.lst ((lf (k + 1) fun k => Dn c (k + 1)).map V.int)) = G2 at *
    show tSeq _ _ _ [some (.ref a), some (.int (n : Int)), some (.ref L), z3, z4, some (.ref M), some (.int (Dn c k)), some (.int (k : Int)), z8] _
    have hDb : Bt (60 * 106 + 1) (Dn c k) := (dn_bt hc (by omega)).mono (by
      have : k * (m + 6) ≤ 60 * 106 := Nat.mul_le_mul (by omega) (by omega)
      omega)
    refine q_forR2 (lo := (k : Int) + 1) (n := (n : Int)) (ea_cons (ev_I0 (g := fun i j => .int (i + j)) (ev_var rfl) ev_c) (ea_cons (ev_var rfl) ea_nil)) (by omega) (fun t σ' H' => ∃ (R : Nat → Nat → Int) (z3 z4 z8 : Option V), σ' = [some (.ref a), some (.int (n : Int)), some (.ref L), z3, z4, some (.ref M), some (.int (Dn c k)), some (.int (k : Int)), z8] ∧ Ex H H' ∧ H' L = some (.lst (qs.map V.ref)) ∧ RwAt H H' qs n n R ∧ H' M = some (.lst ((lf (k + 1) fun k => Dn c (k + 1)).map V.int)) ∧ ∀ i j, k ≤ i → k ≤ j → i < n → j < n → R i j = if k < j ∧ k < i ∧ i < k + 1 + t then DT.brd (tp c) (k + 1) i j else DT.brd (tp c) k i j) (fun G3 f3 => ⟨R, z3, z4, z8, rfl, ex1.trans f3, f3 _ _ gL1, hR1.ex f3, f3 _ _ gM1, fun i j hi hj hin hjn => by rw [if_neg (by omega)]; exact hB i j hi hj hin hjn⟩) ?_ ?_
    · rintro t σ' G3 ht ⟨R, z3, z4, z8, rfl, ex, gL, hR, gM, hB⟩
      obtain ⟨i, hi⟩ : ∃ i, i = k + 1 + t := ⟨_, rfl⟩
      have hin : i < n := by omega
      show tFor _ _ _ _ [some (.ref a), some (.int (n : Int)), some (.ref L), some (.int ((k : Int) + 1 + (t : Int))), z4, some (.ref M), some (.int (Dn c k)), some (.int (k : Int)), z8] _
      rw [show (k : Int) + 1 + (t : Int) = (i : Int) by omega]
      refine s_forR2 (lo := (k : Int) + 1) (n := (n : Int)) (ea_cons (ev_I0 (g := fun i j => .int (i + j)) (ev_var rfl) ev_c) (ea_cons (ev_var rfl) ea_nil)) (by omega) (fun s σ' H' => ∃ (R : Nat → Nat → Int) (z4 z8 : Option V), σ' = [some (.ref a), some (.int (n : Int)), some (.ref L), some (.int (i : Int)), z4, some (.ref M), some (.int (Dn c k)), some (.int (k : Int)), z8] ∧ Ex H H' ∧ H' L = some (.lst (qs.map V.ref)) ∧ RwAt H H' qs n n R ∧ H' M = some (.lst ((lf (k + 1) fun k => Dn c (k + 1)).map V.int)) ∧ ∀ i' j, k ≤ i' → k ≤ j → i' < n → j < n → R i' j = if k < j ∧ k < i' ∧ (i' < i ∨ (i' = i ∧ j < k + 1 + s)) then DT.brd (tp c) (k + 1) i' j else DT.brd (tp c) k i' j) (fun G4 f4 => ⟨R, z4, z8, rfl, ex.trans f4, f4 _ _ gL, hR.ex f4, f4 _ _ gM, fun i' j hi' hj hin' hjn' => by
        rw [hB i' j hi' hj hin' hjn']
        by_cases h : k < j ∧ k < i' ∧ i' < k + 1 + t
        · rw [if_pos h, if_pos (by omega)]
        · rw [if_neg h, if_neg (by omega)]⟩) ?_ ?_
      · rintro s σ' G4 hs ⟨R, z4, z8, rfl, ex, gL, hR, gM, hB⟩
        obtain ⟨j, hj⟩ : ∃ j, j = k + 1 + s := ⟨_, rfl⟩
        have hjn : j < n := by omega
        show tSeq _ _ _ [some (.ref a), some (.int (n : Int)), some (.ref L), some (.int (i : Int)), some (.int ((k : Int) + 1 + (s : Int))), some (.ref M), some (.int (Dn c k)), some (.int (k : Int)), z8] _
        rw [show (k : Int) + 1 + (s : Int) = (j : Int) by omega]
        have r1 : R i j = DT.brd (tp c) k i j := by rw [hB i j (by omega) (by omega) (by omega) (by omega), if_neg (by omega)]
        have r2 : R k k = DT.brd (tp c) k k k := by rw [hB k k (by omega) (by omega) (by omega) (by omega), if_neg (by omega)]
        have r3 : R i k = DT.brd (tp c) k i k := by rw [hB i k (by omega) (by omega) (by omega) (by omega), if_neg (by omega)]
        have r4 : R k j = DT.brd (tp c) k k j := by rw [hB k j (by omega) (by omega) (by omega) (by omega), if_neg (by omega)]
        have hst := DT.brd_step (hsol k) (hD0 k) (hD0 (k + 1)) i j
        refine q_asg (v := .int (Dn c k * DT.brd (tp c) (k + 1) i j)) (Ev.is (ev_I0 (g := fun i j => .int (i - j)) (ev_I (ev_rw hR gL hin hjn (ev_var rfl) (ev_var rfl) (ev_var rfl)) (ev_rw hR gL hk hk (ev_var rfl) (ev_var rfl) (ev_var rfl)) (by rw [r1, r2]; exact cmulw (hbrd k i j (by omega)) (hbrd k k k (by omega)) (by decide))) (ev_I (ev_rw hR gL hin hk (ev_var rfl) (ev_var rfl) (ev_var rfl)) (ev_rw hR gL hk hjn (ev_var rfl) (ev_var rfl) (ev_var rfl)) (by rw [r3, r4]; exact cmulw (hbrd k i k (by omega)) (hbrd k k j (by omega)) (by decide)))) (congrArg V.int (by rw [r1, r2, r3, r4]; exact hst))) fun G5 f5 => ?_
        obtain ⟨q, hq, hq0, gq⟩ := hR.get hin
        refine s_setL (l := q) (j := j) (v := .int (DT.brd (tp c) (k + 1) i j)) (f5 _ _ gq) (Ev.is (ev_I (ev_var rfl) (ev_var rfl) (cdivw (hall k).1 hDb (by decide))) (congrArg V.int (Int.mul_ediv_cancel_left _ (hD0 k)))) (ev_rwq (f5 _ _ gL) hq (ev_var rfl) (ev_var rfl)) (ev_var rfl) (by rw [List.length_map, lf_len]; exact hjn) fun G6 f6 => ?_
        have f56 := f5.trans f6
        refine ⟨fun i' j' => if i' = i ∧ j' = j then DT.brd (tp c) (k + 1) i j else R i' j', _, _, rfl, Ex.mut (ex.trans f56) hq0, by rw [upd_ne (hqL i q hq).symm]; exact f56 _ _ gL, (hR.ex f56).put hq (fun _ _ => rfl), by rw [upd_ne (hqM i q hq).symm]; exact f56 _ _ gM, fun i' j' hi' hj' hin' hjn' => ?_⟩
        show (if i' = i ∧ j' = j then _ else R i' j') = _
        by_cases h : i' = i ∧ j' = j
        · obtain ⟨rfl, rfl⟩ := h
          rw [if_pos ⟨rfl, rfl⟩, if_pos (by omega)]
        · rw [if_neg h, hB i' j' hi' hj' hin' hjn']
          by_cases h2 : k < j' ∧ k < i' ∧ (i' < i ∨ (i' = i ∧ j' < k + 1 + s))
          · rw [if_pos h2, if_pos (by omega)]
          · rw [if_neg h2, if_neg (by omega)]
      · rintro σ' G4 ⟨R, z4, z8, rfl, ex, gL, hR, gM, hB⟩
        refine ⟨R, _, z4, z8, rfl, ex, gL, hR, gM, fun i' j hi' hj hin' hjn' => ?_⟩
        rw [hB i' j hi' hj hin' hjn']
        by_cases h : k < j ∧ k < i' ∧ i' < k + 1 + (t + 1)
        · rw [if_pos h, if_pos (by omega)]
        · rw [if_neg h, if_neg (by omega)]
    · rintro σ' G3 ⟨R, z3, z4, z8, rfl, ex, gL, hR, gM, hB⟩
      have r2 : R k k = Dn c (k + 1) := by rw [hB k k (by omega) (by omega) (by omega) (by omega), if_neg (by omega)]; exact hdiag
      refine s_asg (v := .int (Dn c (k + 1))) (Ev.is (ev_rw hR gL hk hk (ev_var rfl) (ev_var rfl) (ev_var rfl)) (congrArg V.int r2)) fun G4 f4 => ⟨R, z3, z4, _, _, rfl, ex.trans f4, f4 _ _ gL, hR.ex f4, f4 _ _ gM, fun i j hi hj hin hjn => ?_⟩
      rw [hB i j (by omega) (by omega) hin hjn, if_pos (by omega)]
  · rintro σ' G ⟨R, z3, z4, z7, z8, rfl, ex, gL, hR, gM, hB⟩
    rw [Int.toNat_natCast] at gM
    exact s_ret (ev_var rfl) fun G1 f1 => kk M G1 hMf (ex.trans f1) (f1 _ _ gM)

-- K60C
open DT (Bt PD tp Sol)
/-! ### the law -/
def sp_solves (K : PySem.W.Frag) : Sp := fun vs H Q _ => ∃ (a b : Addr) (c : Nat → Int) (s w m : Nat), vs = [.ref a, .int (Dn c s), .ref b] ∧ SqL K H a ((lf s (Un c s)).map V.int) ∧ SqL K H b ((lf w c).map V.int) ∧ s + 1 ≤ w ∧ s ≤ 60 ∧ m ≤ 100 ∧ (∀ j, Bt m (c j)) ∧ PD c ∧ RetV (.bl true) H Q
theorem ok_law_solves (T : TX K mg) : FnOk P w K mg base CX0 1 T.a_law_solves T.d_law_solves ["numerators", "denominator", "sums"] (sp_solves K) := by
  refine T.F_law_solves.ok sc_law_solves (fun vs H Q E h => by obtain ⟨a, b, c, s, w, m, rfl, _⟩ := h; rfl) (fun cdv A outer s0 H vs Q E hr h => ?_)
  obtain ⟨a, b, c, s, wd, m, rfl, hA, hB, hsw, hs, hm, hc, hpd, q⟩ := h
  refine ⟨_, (pss_cons (ps_set (i := 3) sc_law_solves.nd rfl (Or.inl rfl) (pe_callB (r := rLenS K) call_len_seq (by rfl) T.m_len PySem.boot_len (pa_cons (pv 0) pa_nil)))
      (pss_cons (ps_for PassesOwn.never rfl (pi_range2 (by rfl) T.m_range (pa_cons pe_int (pa_cons (pe_op op_add (pv 3) pe_int) pa_nil))) (pg_name (i := 4) sc_law_solves.nd rfl (Or.inl rfl)) (pss_cons (ps_set (i := 5) sc_law_solves.nd rfl (Or.inl rfl) pe_int)
        (pss_cons (ps_for PassesOwn.never rfl (pi_range2 (by rfl) T.m_range (pa_cons pe_int (pa_cons (pe_op op_add (pv 3) pe_int) pa_nil))) (pg_name (i := 6) sc_law_solves.nd rfl (Or.inl rfl)) (pss_one (ps_set (i := 5) sc_law_solves.nd rfl (Or.inl rfl) (pe_op op_add (pv 5) (pe_op op_mulW (pe_ix (r := rIxL K) ix_list (pv 0) (pe_op op_sub (pv 6) pe_int) (fun _ _ => rfl)) (pe_ix (r := rIxL K) ix_list (pv 2) (pe_callB call_abs (by rfl) T.m_abs PyProof.Rows.boot_abs (pa_cons (pe_op op_sub (pv 4) (pv 6)) pa_nil)) (fun _ _ => rfl)))))))
        (pss_one (ps_if (pt_cmpR op_ne (pv 5) (pe_op op_mulW (pv 1) (pe_ix (r := rIxL K) ix_list (pv 2) (pv 4) (fun _ _ => rfl))) (nomark _)) (pss_one (ps_ret pe_bl)) pss_nil)))))
      (pss_one (ps_ret pe_bl)))), ?_⟩
  have hsol := (DT.lev_all hpd s).2
  have hb6 : s * (m + 6) ≤ 60 * 106 := Nat.mul_le_mul hs (by omega)
  have hub : ∀ l, Bt (60 * 106 + 1) (Un c s l) := fun l => (un_bt hc (by omega)).mono (by omega)
  have hdb : Bt (60 * 106 + 1) (Dn c s) := (dn_bt hc (by omega)).mono (by omega)
  have hcb : ∀ j, Bt 100 (c j) := fun j => (hc j).mono hm
  refine q_asg (v := .int (s : Int)) (Ev.is (ev_lenS (K := K) (Ev.s (ev_var rfl) hA)) (by rw [List.length_map, lf_len])) fun H1 e1 => ?_
  refine q_forR2 (lo := 1) (n := (s : Int) + 1) (ea_cons ev_c (ea_cons (ev_I0 (g := fun i j => .int (i + j)) (ev_var rfl) ev_c) ea_nil)) (by omega) (fun i σ' H' => ∃ z4 z5 z6 : Option V, σ' = [some (.ref a), some (.int (Dn c s)), some (.ref b), some (.int (s : Int)), z4, z5, z6] ∧ Ex H H') (fun H2 e2 => ⟨none, none, none, rfl, e1.trans e2⟩) ?_ ?_
  · rintro i σ' H2 hi ⟨z4, z5, z6, rfl, ex⟩
    have hi : i < s := by omega
    refine q_asg (v := .int 0) ev_c fun H3 e3 => ?_
    refine q_forR2 (lo := 1) (n := (s : Int) + 1) (ea_cons ev_c (ea_cons (ev_I0 (g := fun i j => .int (i + j)) (ev_var rfl) ev_c) ea_nil)) (by omega) (fun t σ' H' => ∃ z6 : Option V, σ' = [some (.ref a), some (.int (Dn c s)), some (.ref b), some (.int (s : Int)), some (.int (1 + (i : Int))), some (.int (DT.S t fun l => Un c s l * tp c l i)), z6] ∧ Ex H H') (fun H4 e4 => ⟨z6, rfl, ex.trans (e3.trans e4)⟩) ?_ ?_
    · rintro t σ' H4 ht ⟨z6, rfl, ex4⟩
      have ht : t < s := by omega
      refine s_asg (v := .int (DT.S (t + 1) fun l => Un c s l * tp c l i)) (ev_I0 (g := fun i j => .int (i + j)) (ev_var rfl) (ev_I (ev_at (n := (t : Int)) (Ev.s (ev_var rfl) (ex_l ex4 hA)) (Ev.is (ev_I0 (g := fun i j => .int (i - j)) (ev_var rfl) ev_c) (congrArg V.int (by omega))) (at_of (j := t) rfl (at_int (lf_at ht)))) (ev_at (n := (((if 1 + t ≤ 1 + i then 1 + i - (1 + t) else 1 + t - (1 + i) : Nat)) : Int)) (Ev.s (ev_var rfl) (ex_l ex4 hB)) (ev_absd (i := 1 + i) (j := 1 + t) (Ev.is (ev_var rfl) (congrArg V.int (by omega))) (Ev.is (ev_var rfl) (congrArg V.int (by omega)))) (at_of (j := if 1 + t ≤ 1 + i then 1 + i - (1 + t) else 1 + t - (1 + i)) rfl (by
        rw [show (if 1 + t ≤ 1 + i then 1 + i - (1 + t) else 1 + t - (1 + i)) = if t ≤ i then i - t else t - i by split <;> split <;> omega]
        exact at_int (lf_at (f := c) (by split <;> omega))))) (cmulw (hub t) (hcb _) (by decide)))) fun H5 e5 => ⟨_, rfl, ex4.trans e5⟩
    · rintro σ' H4 ⟨z6, rfl, ex4⟩
      have hss : DT.S s (fun l => Un c s l * tp c l i) = Dn c s * c (i + 1) := hsol i hi
      rw [show ((s : Int) + 1 - 1).toNat = s by omega, hss]
      refine s_when (b := false) (et_is (et_test (ev_ne (ev_var rfl) (ev_I (ev_var rfl) (ev_at (n := ((i + 1 : Nat) : Int)) (Ev.s (ev_var rfl) (ex_l ex4 hB)) (Ev.is (ev_var rfl) (congrArg V.int (by omega))) (at_of (j := i + 1) rfl (at_int (lf_at (by omega))))) (cmulw hdb (hcb _) (by decide))) rfl)) (by rw [decide_eq_true rfl]; rfl)) (fun hb => by cases hb) fun _ H5 e5 => ⟨_, _, _, rfl, ex4.trans e5⟩
  · rintro σ' H2 ⟨z4, z5, z6, rfl, ex⟩
    exact s_ret (v := .bl true) ev_c fun H3 e3 => q H3 (ex.trans e3)
def sp_law (K : PySem.W.Frag) : Sp := fun vs H Q _ => ∃ (a : Addr) (ns : List Int), vs = [.ref a] ∧ SqL K H a (ns.map V.int) ∧ ns.length ≤ 63 ∧ ∀ H', Q (.bl true) H'
theorem ok_law (T : TX K mg) : FnOk P w K mg base CX0 3 T.a_law T.d_law ["script"] (sp_law K) := by
  refine T.F_law.ok sc_law (fun vs H Q E h => by obtain ⟨a, ns, rfl, _⟩ := h; rfl) (fun cdv A outer s H vs Q E hr h => ?_)
  obtain ⟨a, ns, rfl, hS, hlen, k⟩ := h
  refine ⟨_, (pss_cons (ps_set (i := 1) sc_law.nd rfl (Or.inl rfl) (pe_call (ok_law_cell T) (hr.mono (by decide)) (by rfl) T.g_law_cell T.F_law_cell.kp T.b_law_cell .nil pass0 (pa_cons (pv 0) (pa_cons pe_int pa_nil))))
      (pss_cons (ps_setLc (i := 2) (own := [("x", 11)]) (g := gName 11) (tt := tYes) rfl sc_law.nd rfl rfl (sw_true rfl rfl rfl (by decide +kernel)) (pi_list (pe_call (ok_law_row T) (hr.mono (by decide)) (by rfl) T.g_law_row T.F_law_row.kp T.b_law_row .nil pass0 (pa_cons (pe_call (ok_law_cell T) (hr.mono (by decide)) (by rfl) T.g_law_cell T.F_law_cell.kp T.b_law_cell .nil pass0 (pa_cons (pv 0) (pa_cons pe_int pa_nil))) (pa_cons (pe_op op_add pe_int (pe_op op_mod (pe_callTy call_int1 (by rfl) T.m_int PyProof.Rows.boot_int (pa_cons (pv 1) pa_nil)) pe_int)) (pa_cons pe_int pa_nil))))) (blkOk_by (N := ["script", "first", "samples", "most", "sums", "given", "actual", "minors", "k", "numerators", "denominator", "x"]) (sc := defScope s_law) (by decide +kernel)) (fun _ _ _ _ _ => pg_name (i := 11) sc_law.nd rfl (Or.inl rfl)) (fun _ _ _ _ _ => pts_nil) (fun _ _ _ _ _ => (pe_op op_sub (pv 11) pe_int)))
      (pss_cut (ps_if (pt_cmpR op_eq (pe_op op_mod (pe_op op_fdiv (pe_callTy call_int1 (by rfl) T.m_int PyProof.Rows.boot_int (pa_cons (pv 1) pa_nil)) pe_int) pe_int) pe_int (nomark _)) (pss_one (ps_set (i := 2) sc_law.nd rfl (Or.inl rfl) (pe_op op_rep (pe_lst (pa_cons pe_int pa_nil)) (pe_callB (r := rLenS K) call_len_seq (by rfl) T.m_len PySem.boot_len (pa_cons (pv 2) pa_nil))))) pss_nil)
      (pss_cons (ps_set (i := 3) sc_law.nd rfl (Or.inl rfl) (pe_op op_mod (pe_callTy call_int1 (by rfl) T.m_int PyProof.Rows.boot_int (pa_cons (pe_call (ok_law_cell T) (hr.mono (by decide)) (by rfl) T.g_law_cell T.F_law_cell.kp T.b_law_cell .nil pass0 (pa_cons (pv 0) (pa_cons pe_int pa_nil))) pa_nil)) pe_int))
      (pss_cons (ps_if (pt_cmpR op_eq (pe_op op_mod (pe_op op_fdiv (pe_callTy call_int1 (by rfl) T.m_int PyProof.Rows.boot_int (pa_cons (pe_call (ok_law_cell T) (hr.mono (by decide)) (by rfl) T.g_law_cell T.F_law_cell.kp T.b_law_cell .nil pass0 (pa_cons (pv 0) (pa_cons pe_int pa_nil))) pa_nil)) pe_int) pe_int) pe_int (nomark _)) (pss_one (ps_set (i := 3) sc_law.nd rfl (Or.inl rfl) (pe_op op_add (pv 3) pe_int))) pss_nil)
      (pss_cons (ps_set (i := 4) sc_law.nd rfl (Or.inl rfl) (pe_call (ok_law_sums T) (hr.mono (by decide)) (by rfl) T.g_law_sums T.F_law_sums.kp T.b_law_sums .nil pass0 (pa_cons (pv 2) (pa_cons (pv 3) pa_nil))))
      (pss_cons (ps_set (i := 5) sc_law.nd rfl (Or.inl rfl) (pe_callTy (r := rListS K) call_list_of (by rfl) T.m_list PyProof.Rows.boot_list (pa_cons (pv 4) pa_nil)))
      (pss_cons (ps_set (i := 6) sc_law.nd rfl (Or.inl rfl) (pe_call (ok_exact_predictors T) (hr.mono (by decide)) (by rfl) T.g_exact_predictors T.F_exact_predictors.kp T.b_exact_predictors .nil pass0 (pa_cons (pv 5) pa_nil)))
      (pss_cons (ps_if (PW.pt (pw_or (pt_not (pt_val (pe_callB (r := rIsi K) call_isi (by rfl) T.m_isinstance PyProof.Rows.boot_isinstance (pa_cons (pv 6) (pa_cons (pe_bltn (v := V.ty "list") (by rfl) T.m_list PyProof.Rows.boot_list rfl) pa_nil))))) (pw_or1 (pt_cmpR (op_neD (hu64 hr)) (pv 5) (pv 4) (nomark _))))) (pss_one (ps_ret pe_bl)) pss_nil)
      (pss_cons (ps_if (pt_cmpR op_eq (pe_ix (r := rIxL K) ix_list (pv 4) pe_int (fun _ _ => rfl)) pe_int (nomark _)) (pss_one (ps_ret (pe_cmpR (op_eqD (hu64 hr)) (pv 6) (pe_lst pa_nil) (nomark _)))) pss_nil)
      (pss_cons (ps_if (pt_cmpR op_ne (pe_callB (r := rLenS K) call_len_seq (by rfl) T.m_len PySem.boot_len (pa_cons (pv 6) pa_nil)) (pv 3) (nomark _)) (pss_one (ps_ret pe_bl)) pss_nil)
      (pss_cons (ps_set (i := 7) sc_law.nd rfl (Or.inl rfl) (pe_call (ok_law_minors T) (hr.mono (by decide)) (by rfl) T.g_law_minors T.F_law_minors.kp T.b_law_minors .nil pass0 (pa_cons (pv 4) (pa_cons (pv 3) pa_nil))))
      (pss_cons (ps_for PassesOwn.never rfl (pi_range1 (by rfl) T.m_range (pa_cons (pv 3) pa_nil)) (pg_name (i := 8) sc_law.nd rfl (Or.inl rfl)) (pss_cons (ps_if (PW.pt (pw_or (pt_not (pt_val (pe_callB (r := rIsi K) call_isi (by rfl) T.m_isinstance PyProof.Rows.boot_isinstance (pa_cons (pe_ix (r := rIxL K) ix_list (pv 6) (pv 8) (fun _ _ => rfl)) (pa_cons (pe_bltn (v := V.ty "tuple") (by rfl) T.m_tuple PyProof.Rows.boot_tuple rfl) pa_nil))))) (pw_or1 (pt_cmpR op_ne (pe_callB (r := rLenS K) call_len_seq (by rfl) T.m_len PySem.boot_len (pa_cons (pe_ix (r := rIxL K) ix_list (pv 6) (pv 8) (fun _ _ => rfl)) pa_nil)) pe_int (nomark _))))) (pss_one (ps_ret pe_bl)) pss_nil)
        (pss_cons (ps_set (i := 9) sc_law.nd rfl (Or.inl rfl) (pe_ix (r := rIxT K) ix_tup (pe_ix (r := rIxL K) ix_list (pv 6) (pv 8) (fun _ _ => rfl)) pe_int (fun _ _ => rfl)))
        (pss_cons (ps_set (i := 10) sc_law.nd rfl (Or.inl rfl) (pe_ix (r := rIxT K) ix_tup (pe_ix (r := rIxL K) ix_list (pv 6) (pv 8) (fun _ _ => rfl)) pe_int (fun _ _ => rfl)))
        (pss_cons (ps_if (PW.pt (pw_or (pt_not (pt_val (pe_call (ok_law_integers T) (hr.mono (by decide)) (by rfl) T.g_law_integers T.F_law_integers.kp T.b_law_integers .nil pass0 (pa_cons (pv 9) pa_nil)))) (pw_or (pt_cmpR op_ne (pe_callB (r := rLenS K) call_len_seq (by rfl) T.m_len PySem.boot_len (pa_cons (pv 9) pa_nil)) (pe_op op_add (pv 8) pe_int) (nomark _)) (pw_or1 (pt_not (pt_val (pe_call (ok_law_integer T) (hr.mono (by decide)) (by rfl) T.g_law_integer T.F_law_integer.kp T.b_law_integer .nil pass0 (pa_cons (pv 10) pa_nil)))))))) (pss_one (ps_ret pe_bl)) pss_nil)
        (pss_one (ps_if (PW.pt (pw_or (pt_cmpR op_ne (pv 10) (pe_ix (r := rIxL K) ix_list (pv 7) (pv 8) (fun _ _ => rfl)) (nomark _)) (pw_or1 (pt_not (pt_val (pe_call (ok_law_solves T) (hr.mono (by decide)) (by rfl) T.g_law_solves T.F_law_solves.kp T.b_law_solves .nil pass0 (pa_cons (pv 9) (pa_cons (pv 10) (pa_cons (pv 4) pa_nil))))))))) (pss_one (ps_ret pe_bl)) pss_nil)))))))
      (pss_one (ps_ret pe_bl))))))))))))))), ?_⟩
  have cell : ∀ (H' : Hp) (σ : L2.St) (E : XK) (i : Int), σ[0]? = some (some (.ref a)) → Ex H H' → 0 ≤ i → Ev (tCall (sp_cell K) [] E (tCons (tVar 0) (tCons (tC (.int i)) tNil))) σ H' (.int (cellI ns i)) := fun H' σ E i hσ e hi => ev_cell (ev_var hσ) (ex_l e hS) ev_c hi
  have md : ∀ {σ : L2.St} {G : Hp} {t : TE} {x m : Int}, 0 < m → Ev t σ G (.int x) → Ev (tOp (rI (fun _ j => 0 < j) fun i j => .int (i % j)) t (tC (.int m))) σ G (.int (x % m)) := fun hm h => ev_I h ev_c hm
  have dv : ∀ {σ : L2.St} {G : Hp} {t : TE} {x m : Int}, 0 < m ∧ m < 1073741824 → Ev t σ G (.int x) → Ev (tOp (rI CDiv fun i j => .int (i / j)) t (tC (.int m))) σ G (.int (x / m)) := fun hm h => ev_I h ev_c hm
  refine q_asg (cell H _ _ 0 rfl (Ex.refl _) (by decide)) fun H1 e1 => ?_
  generalize cellI ns 0 = c0
  obtain ⟨cnt, hcnt⟩ : ∃ cnt : Nat, 1 + c0 % 12 = (cnt : Int) := ⟨(1 + c0 % 12).toNat, by omega⟩
  refine q_asgLC (args := [.int (cellI ns 1), .int (cnt : Int), .int 41]) (ea_cons (cell H1 _ _ 1 rfl e1 (by decide)) (ea_cons (Ev.is (ev_I0 (g := fun i j => .int (i + j)) ev_c (md (by decide) (ev_int1 (ev_var rfl)))) (congrArg V.int hcnt)) (ea_cons ev_c ea_nil))) fun H2 e2 => ⟨cellI ns 1, cnt, 41, rfl, by omega, by decide, by decide, fun pr ds H3 hpr e3 g3 hdl hdb => ?_⟩
  have e13 := e1.trans (e2.trans e3)
  refine q_asgL (xs := (ds.map fun x => x - 20).map V.int) (el_lcS (K := K) (xs := ds.map V.int) _ (Ev.s ev_c (sq_of g3)) (by rw [List.length_map, List.length_map, List.length_map]) (by rw [List.length_map, List.length_map]; omega) (fun _ => rfl) fun i z G eG hz => by
    obtain ⟨n, hn, hi, rfl⟩ := int_at hz
    exact ⟨.int (n - 20), at_int (by rw [List.getElem?_map, hn]; rfl), ev_I0 (g := fun i j => .int (i - j)) (ev_var rfl) ev_c⟩) fun p0 H4 hp0 e4 g4 => ?_
  have e14 := e13.trans e4
  refine q_cut (M := fun σ' H' => ∃ (p : Addr) (ms : List Int) (z11 : Option V), σ' = [some (.ref a), some (.int c0), some (.ref p), none, none, none, none, none, none, none, none, z11] ∧ Ex H H' ∧ H' p = some (.lst (ms.map V.int)) ∧ ms.length = cnt ∧ ∀ x ∈ ms, Bt 6 x) ?_ ?_
  · refine s_when (et_test (ev_eq (md (by decide) (dv (by decide) (ev_int1 (ev_var rfl)))) ev_c rfl)) (fun hb H5 e5 => ?_) (fun hb H5 e5 => ?_)
    · refine s_asgL (xs := (List.replicate cnt (0 : Int)).map V.int) (EvL.is (el_rep (xs := [V.int 0]) (k := (cnt : Int)) (EvL.r (el_lst (ea_cons ev_c ea_nil) (by decide))) (Ev.is (ev_lenS (K := K) (Ev.s (ev_var rfl) (sq_of (e5 _ _ g4)))) (by rw [List.length_map, List.length_map, hdl])) (by omega) (by rw [Int.toNat_natCast]; show 1 * cnt ≤ _; omega)) (by rw [Int.toNat_natCast, List.flatten_replicate_singleton, List.map_replicate])) fun p H6 hp e6 g6 => ⟨p, _, _, rfl, e14.trans (e5.trans e6), g6, List.length_replicate .., fun x hx => ?_⟩
      rw [List.eq_of_mem_replicate hx]
      show (0 : Int).natAbs < 2 ^ 6
      decide
    · refine ⟨p0, _, _, rfl, e14.trans e5, e5 _ _ g4, by rw [List.length_map, hdl], fun x hx => ?_⟩
      obtain ⟨y, hy, rfl⟩ := List.mem_map.mp hx
      have := hdb y hy
      show (y - 20).natAbs < 64
      omega
  rintro σ' H5 ⟨p, ms, z11, rfl, e15, g5, hml, hmb⟩
  obtain ⟨m0, hm0⟩ : ∃ m0 : Int, cellI ns 2 % 8 = m0 := ⟨_, rfl⟩
  refine q_asg (v := .int m0) (Ev.is (md (by decide) (ev_int1 (cell H5 _ _ 2 rfl e15 (by decide)))) (congrArg V.int hm0)) fun H6 e6 => ?_
  have e16 := e15.trans e6
  obtain ⟨m, hm⟩ : ∃ m : Nat, (if cellI ns 2 / 8 % 6 = 1 then m0 + 6 else m0) = (m : Int) := ⟨(if cellI ns 2 / 8 % 6 = 1 then m0 + 6 else m0).toNat, by split <;> omega⟩
  have hm13 : m ≤ 13 := by split at hm <;> omega
  refine q_ifAsg (b := decide (V.int (cellI ns 2 / 8 % 6) = V.int 1)) (v := .int (m : Int)) (et_test (ev_eq (md (by decide) (dv (by decide) (ev_int1 (cell H6 _ _ 2 rfl e16 (by decide))))) ev_c rfl)) (fun hb => Ev.is (ev_I0 (g := fun i j => .int (i + j)) (ev_var rfl) ev_c) (congrArg V.int (by rw [← hm, if_pos (V.int.inj (of_decide_eq_true hb))]))) (fun hb => by rw [← hm, if_neg (fun z => of_decide_eq_false hb (congrArg V.int z))]; rfl) fun H7 e7 => ?_
  have g7 := (e6.trans e7) _ _ g5
  have hbd : BdA ms := fun x hx => by
    have h : x.natAbs < 64 := hmb x hx
    omega
  obtain ⟨c, hc⟩ : ∃ c, lagS ms = c := ⟨_, rfl⟩
  have hcb : ∀ j, Bt 16 (c j) := fun j => by rw [← hc]; exact lag_bt (s := 4) hmb (by omega) j
  have hpd : c 0 ≠ 0 → PD c := fun h => by rw [← hc] at h ⊢; exact lag_pd h
  refine q_asgL (xs := (lf (m + 1) c).map V.int) (EvL.is (el_lsums (K := K) (m := m) (Ev.s (ev_var rfl) (sq_of g7)) (ev_var rfl) (by omega) (by omega) hbd) (by rw [acor_lf, hc])) fun ps H8 hps e8 g8 => ?_
  refine q_asgL (xs := (lf (m + 1) c).map V.int) (el_of (K := K) (Ev.s (ev_var rfl) (sq_of g8))) fun pg H9 hpg e9 g9 => ?_
  have e59 := e6.trans (e7.trans (e8.trans e9))
  have g89 := e9 _ _ g8
  refine q_asgC (vs := [.ref pg]) (ea_cons (ev_var rfl) ea_nil) fun H10 e10 => ⟨pg, c, m + 1, 16, rfl, sq_of (e10 _ _ g9), by omega, by omega, by decide, hcb, hpd, fun L ts H11 hL e11 gL htl hts => ?_⟩
  have e911 := e10.trans e11
  have gs := e911 _ _ g89
  have gg := e911 _ _ g9
  show tSeq _ _ _ [some (.ref a), some (.int c0), some (.ref p), some (.int (m : Int)), some (.ref ps), some (.ref pg), some (.ref L), none, none, none, none, z11] _
  refine q_when (b := false) (et_is (et_or (a := false) (b := false) (et_is (et_not (et_B (ev_isiL (K := K) (ev_var rfl) gL))) rfl) fun _ => et_is (et_test (ev_neI (K := K) (ns := lf (m + 1) c) (ms := lf (m + 1) c) (Ev.s (ev_var rfl) (sq_of gg)) (Ev.s (ev_var rfl) (sq_of gs)))) (by rw [decide_eq_true rfl]; rfl)) rfl) (fun hb => by cases hb) fun _ H12 e12 => ?_
  have gs12 := e12 _ _ gs
  have gL12 := e12 _ _ gL
  refine q_when (b := decide (c 0 = 0)) (et_test (Ev.is (ev_eq (ev_at (n := 0) (Ev.s (ev_var rfl) (sq_of gs12)) ev_c (at_of (j := 0) rfl (at_int (lf_at (by omega))))) ev_c rfl) (congrArg V.bl (decide_eq_decide.mpr ⟨V.int.inj, congrArg V.int⟩)))) (fun hb H13 e13' => ?_) (fun hb H13 e13' => ?_)
  · rw [if_pos (of_decide_eq_true hb)] at htl
    have hts0 : ts = [] := List.eq_nil_of_length_eq_zero htl
    rw [hts0] at gL12
    exact s_ret (v := .bl true) (Ev.is (ev_eqI (K := K) (ns := []) (ms := []) (Ev.s (ev_var rfl) (sq_of (e13' _ _ gL12))) (EvR.s (EvL.r (el_lst (vs := []) ea_nil (by decide))))) (congrArg V.bl (decide_eq_true rfl))) fun H14 e14' => k H14
  have hc0 := of_decide_eq_false hb
  have hpd := hpd hc0
  rw [if_neg hc0, Nat.add_sub_cancel] at htl
  have gs13 := e13' _ _ gs12
  have gL13 := e13' _ _ gL12
  have hts13 : ∀ k t, ts[k]? = some t → ExAt c H13 t k := fun k t h => (hts k t h).ex (e12.trans e13')
  refine q_when (b := false) (et_is (et_test (ev_ne (Ev.is (ev_lenS (K := K) (Ev.s (ev_var rfl) (sq_of gL13))) (by rw [List.length_map, htl])) (ev_var rfl) rfl)) (by rw [decide_eq_true rfl]; rfl)) (fun hb => by cases hb) fun _ H14 e14' => ?_
  refine q_asgL (xs := (lf m fun k => Dn c (k + 1)).map V.int) (el_call (ea_cons (ev_var rfl) (ea_cons (ev_var rfl) ea_nil)) fun G e Q2 q2 _ => ⟨ps, c, m, m + 1, 16, rfl, sq_of ((e14'.trans e) _ _ gs13), by omega, by omega, by decide, hcb, hpd, q2⟩) fun pm H15 hpm e15' g15 => ?_
  have e1315 := e14'.trans e15'
  refine q_forR1 (n := (m : Int)) (ea_cons (ev_var rfl) ea_nil) (by omega) (fun i σ' H' => ∃ (z8 z9 z10 : Option V), σ' = [some (.ref a), some (.int c0), some (.ref p), some (.int (m : Int)), some (.ref ps), some (.ref pg), some (.ref L), some (.ref pm), z8, z9, z10, z11] ∧ Ex H15 H') (fun G eG => ⟨none, none, none, rfl, eG⟩) ?_ ?_
  · rintro i σ' G hi' ⟨z8, z9, z10, rfl, eG⟩
    have hi : i < m := by omega
    obtain ⟨t, ht⟩ : ∃ t, ts[i]? = some t := ⟨_, List.getElem?_eq_getElem (by omega)⟩
    have eG' := e1315.trans eG
    obtain ⟨nl, gt, gnl⟩ := (hts13 i t ht).ex eG'
    have gLG := eG' _ _ gL13
    have et : ∀ {σ : L2.St} {G' : Hp}, Ex G G' → σ[6]? = some (some (.ref L)) → σ[8]? = some (some (.int (i : Int))) → Ev (tOp (rIxL K) (tVar 6) (tVar 8)) σ G' (.ref t) := fun e h6 h8 => ev_at (n := (i : Int)) (Ev.s (ev_var h6) (sq_of (e _ _ gLG))) (ev_var h8) (at_of (j := i) rfl (by rw [List.getElem?_map, ht]; rfl))
    refine q_when (b := false) (et_is (et_or (a := false) (b := false) (et_is (et_not (et_B (ev_isi (K := K) (et (Ex.refl _) rfl rfl) (isi_tup gt) kit_tt))) rfl) fun _ => et_is (et_test (ev_ne (fun G1 f1 Q q => et f1 rfl rfl G1 (Ex.refl _) _ fun G2 f2 => ⟨t, _, rfl, .inr (st_of ((f1.trans f2) _ _ gt)), q G2 f2⟩) ev_c rfl)) rfl) rfl) (fun hb => by cases hb) fun _ G1 f1 => ?_
    refine q_asg (v := .ref nl) (ev_atT (n := 0) (et f1 rfl rfl) (st_of (f1 _ _ gt)) ev_c (at_of (j := 0) rfl rfl)) fun G2 f2 => ?_
    have f12 := f1.trans f2
    refine q_asg (v := .int (Dn c (i + 1))) (ev_atT (n := 1) (et f12 rfl rfl) (st_of (f12 _ _ gt)) ev_c (at_of (j := 1) rfl rfl)) fun G3 f3 => ?_
    have f13 := f12.trans f3
    have gn3 := f13 _ _ gnl
    refine q_when (b := false) (et_is (et_or (a := false) (b := false) (et_is (et_not (et_B (ev_ints (Ev.r (ev_var rfl) gn3) (by rw [lf_len]; omega)))) rfl) fun _ => et_or (a := false) (b := false) (et_is (et_test (ev_ne (Ev.is (ev_lenS (K := K) (Ev.s (ev_var rfl) (sq_of gn3))) (by rw [List.length_map, lf_len])) (ev_I0 (g := fun i j => .int (i + j)) (ev_var rfl) ev_c) rfl)) (by rw [decide_eq_true (congrArg V.int (by omega))]; rfl)) fun _ => et_is (et_not (et_B (ev_isint (n := Dn c (i + 1)) (ev_var rfl)))) rfl) rfl) (fun hb => by cases hb) fun _ G4 f4 => ?_
    have gn4 := f4 _ _ gn3
    have eG4 := eG.trans (f13.trans f4)
    refine s_when (b := false) (et_is (et_or (a := false) (b := false) (et_is (et_test (ev_ne (ev_var rfl) (ev_at (n := (i : Int)) (Ev.s (ev_var rfl) (sq_of (eG4 _ _ g15))) (ev_var rfl) (at_of (j := i) rfl (at_int (lf_at hi)))) rfl)) (by rw [decide_eq_true rfl]; rfl)) fun _ => et_is (et_not (et_B (ev_call (vs := [.ref nl, .int (Dn c (i + 1)), .ref ps]) (z := .bl true) (ea_cons (ev_var rfl) (ea_cons (ev_var rfl) (ea_cons (ev_var rfl) ea_nil))) fun G' e Q2 q2 _ => ⟨nl, ps, c, i + 1, m + 1, 16, rfl, sq_of (e _ _ gn4), sq_of ((e1315.trans (eG4.trans e)) _ _ gs13), by omega, by omega, by decide, hcb, hpd, q2⟩))) rfl) rfl) (fun hb => by cases hb) fun _ G5 f5 => ⟨_, _, _, rfl, eG4.trans f5⟩
  · rintro σ' G ⟨z8, z9, z10, rfl, eG⟩
    exact s_ret (v := .bl true) ev_c fun G1 f1 => k G1

end
set_option maxHeartbeats 0 in
theorem all_mk {l : PySem.W.OpenLaw} {w : World} {K : PySem.W.Frag} {h : Heap} {mg : Str → Option Value} {fa : Addr} {f1 f2 f3 f4 f5 f6 f7 f8 f9 f10 : Addr} (X : K.In h) (G : h.Ns mainGlobals mg) (hfa : mg "law" = some (.ref fa))
    {od1 an1 : Option Addr} {sl1 : Array (Option Value)} {oc1 dc1 pm1 cd1 ct1 : Value} {kV1 : Value} {od2 an2 : Option Addr} {sl2 : Array (Option Value)} {oc2 dc2 pm2 cd2 ct2 : Value} {kV2 : Value} {od3 an3 : Option Addr} {sl3 : Array (Option Value)} {oc3 dc3 pm3 cd3 ct3 : Value} {kV3 : Value} {od4 an4 : Option Addr} {sl4 : Array (Option Value)} {oc4 dc4 pm4 cd4 ct4 : Value} {kV4 : Value} {od5 an5 : Option Addr} {sl5 : Array (Option Value)} {oc5 dc5 pm5 cd5 ct5 : Value} {kV5 : Value} {od6 an6 : Option Addr} {sl6 : Array (Option Value)} {oc6 dc6 pm6 cd6 ct6 : Value} {kV6 : Value} {od7 an7 : Option Addr} {sl7 : Array (Option Value)} {oc7 dc7 pm7 cd7 ct7 : Value} {kV7 : Value} {od8 an8 : Option Addr} {sl8 : Array (Option Value)} {oc8 dc8 pm8 cd8 ct8 : Value} {kV8 : Value} {od9 an9 : Option Addr} {sl9 : Array (Option Value)} {oc9 dc9 pm9 cd9 ct9 : Value} {kV9 : Value} {od10 an10 : Option Addr} {sl10 : Array (Option Value)} {oc10 dc10 pm10 cd10 ct10 : Value} {kV10 : Value}
    (a1 : PySem.W.nsIn K mainGlobals "exact_predictors" = some (some (.ref f1)))
    (l1 : K.lookup f1 = some ⟨oc1, od1, .func (PySem.W.fnOf "exact_predictors" "exact_predictors" (defArgs s_exact_predictors) (defBody s_exact_predictors) (defScope s_exact_predictors) .none kV1 dc1 pm1 an1 cd1 ct1), sl1⟩) (c1 : PySem.W.codeIn K cd1 "exact_predictors" = true) (k1 : PySem.W.keepIn K (.ref f1) = true)
    (a2 : PySem.W.nsIn K mainGlobals "_last_numerator" = some (some (.ref f2)))
    (l2 : K.lookup f2 = some ⟨oc2, od2, .func (PySem.W.fnOf "_last_numerator" "_last_numerator" (defArgs s_last_numerator) (defBody s_last_numerator) (defScope s_last_numerator) .none kV2 dc2 pm2 an2 cd2 ct2), sl2⟩) (c2 : PySem.W.codeIn K cd2 "_last_numerator" = true) (k2 : PySem.W.keepIn K (.ref f2) = true)
    (a3 : PySem.W.nsIn K mainGlobals "_law_cell" = some (some (.ref f3)))
    (l3 : K.lookup f3 = some ⟨oc3, od3, .func (PySem.W.fnOf "_law_cell" "_law_cell" (defArgs s_law_cell) (defBody s_law_cell) (defScope s_law_cell) .none kV3 dc3 pm3 an3 cd3 ct3), sl3⟩) (c3 : PySem.W.codeIn K cd3 "_law_cell" = true) (k3 : PySem.W.keepIn K (.ref f3) = true)
    (a4 : PySem.W.nsIn K mainGlobals "_law_integer" = some (some (.ref f4)))
    (l4 : K.lookup f4 = some ⟨oc4, od4, .func (PySem.W.fnOf "_law_integer" "_law_integer" (defArgs s_law_integer) (defBody s_law_integer) (defScope s_law_integer) .none kV4 dc4 pm4 an4 cd4 ct4), sl4⟩) (c4 : PySem.W.codeIn K cd4 "_law_integer" = true) (k4 : PySem.W.keepIn K (.ref f4) = true)
    (a5 : PySem.W.nsIn K mainGlobals "_law_integers" = some (some (.ref f5)))
    (l5 : K.lookup f5 = some ⟨oc5, od5, .func (PySem.W.fnOf "_law_integers" "_law_integers" (defArgs s_law_integers) (defBody s_law_integers) (defScope s_law_integers) .none kV5 dc5 pm5 an5 cd5 ct5), sl5⟩) (c5 : PySem.W.codeIn K cd5 "_law_integers" = true) (k5 : PySem.W.keepIn K (.ref f5) = true)
    (a6 : PySem.W.nsIn K mainGlobals "_law_row" = some (some (.ref f6)))
    (l6 : K.lookup f6 = some ⟨oc6, od6, .func (PySem.W.fnOf "_law_row" "_law_row" (defArgs s_law_row) (defBody s_law_row) (defScope s_law_row) .none kV6 dc6 pm6 an6 cd6 ct6), sl6⟩) (c6 : PySem.W.codeIn K cd6 "_law_row" = true) (k6 : PySem.W.keepIn K (.ref f6) = true)
    (a7 : PySem.W.nsIn K mainGlobals "_law_sums" = some (some (.ref f7)))
    (l7 : K.lookup f7 = some ⟨oc7, od7, .func (PySem.W.fnOf "_law_sums" "_law_sums" (defArgs s_law_sums) (defBody s_law_sums) (defScope s_law_sums) .none kV7 dc7 pm7 an7 cd7 ct7), sl7⟩) (c7 : PySem.W.codeIn K cd7 "_law_sums" = true) (k7 : PySem.W.keepIn K (.ref f7) = true)
    (a8 : PySem.W.nsIn K mainGlobals "_law_minors" = some (some (.ref f8)))
    (l8 : K.lookup f8 = some ⟨oc8, od8, .func (PySem.W.fnOf "_law_minors" "_law_minors" (defArgs s_law_minors) (defBody s_law_minors) (defScope s_law_minors) .none kV8 dc8 pm8 an8 cd8 ct8), sl8⟩) (c8 : PySem.W.codeIn K cd8 "_law_minors" = true) (k8 : PySem.W.keepIn K (.ref f8) = true)
    (a9 : PySem.W.nsIn K mainGlobals "_law_solves" = some (some (.ref f9)))
    (l9 : K.lookup f9 = some ⟨oc9, od9, .func (PySem.W.fnOf "_law_solves" "_law_solves" (defArgs s_law_solves) (defBody s_law_solves) (defScope s_law_solves) .none kV9 dc9 pm9 an9 cd9 ct9), sl9⟩) (c9 : PySem.W.codeIn K cd9 "_law_solves" = true) (k9 : PySem.W.keepIn K (.ref f9) = true)
    (a10 : PySem.W.nsIn K mainGlobals "law" = some (some (.ref f10)))
    (l10 : K.lookup f10 = some ⟨oc10, od10, .func (PySem.W.fnOf "law" "law" (defArgs s_law) (defBody s_law) (defScope s_law) .none kV10 dc10 pm10 an10 cd10 ct10), sl10⟩) (c10 : PySem.W.codeIn K cd10 "law" = true) (k10 : PySem.W.keepIn K (.ref f10) = true)
    (z_range : PySem.W.nsIn K mainGlobals "range" = some none)
    (z_len : PySem.W.nsIn K mainGlobals "len" = some none)
    (z_list : PySem.W.nsIn K mainGlobals "list" = some none)
    (z_reversed : PySem.W.nsIn K mainGlobals "reversed" = some none)
    (z_zip : PySem.W.nsIn K mainGlobals "zip" = some none)
    (z_sum : PySem.W.nsIn K mainGlobals "sum" = some none)
    (z_isinstance : PySem.W.nsIn K mainGlobals "isinstance" = some none)
    (z_int : PySem.W.nsIn K mainGlobals "int" = some none)
    (z_bool : PySem.W.nsIn K mainGlobals "bool" = some none)
    (z_all : PySem.W.nsIn K mainGlobals "all" = some none)
    (z_abs : PySem.W.nsIn K mainGlobals "abs" = some none)
    (z_tuple : PySem.W.nsIn K mainGlobals "tuple" = some none)
    : ∃ fd : FuncData, (∀ (s : Shared) (v : Value), BindsTo s fd ⟨[v], []⟩ [("script", v)]) ∧ ∀ base : Heap, K.In base → base.Ns mainGlobals mg → FnOk l.prog w K mg base CX0 3 fa fd ["script"] (sp_law K) := by
  have e := hfa.symm.trans (PySem.W.mg_of X G a10)
  cases e
  have F1 := fun_mk (st := s_exact_predictors) l1 c1 k1
  have b1 := F1.binds (ps := ["correlation"]) fun _ _ _ _ _ _ us hl => match us, hl with | [_], _ => rfl
  have F2 := fun_mk (st := s_last_numerator) l2 c2 k2
  have b2 := F2.binds (ps := ["correlation", "numerators", "denominator"]) fun _ _ _ _ _ _ us hl => match us, hl with | [_, _, _], _ => rfl
  have F3 := fun_mk (st := s_law_cell) l3 c3 k3
  have b3 := F3.binds (ps := ["script", "k"]) fun _ _ _ _ _ _ us hl => match us, hl with | [_, _], _ => rfl
  have F4 := fun_mk (st := s_law_integer) l4 c4 k4
  have b4 := F4.binds (ps := ["value"]) fun _ _ _ _ _ _ us hl => match us, hl with | [_], _ => rfl
  have F5 := fun_mk (st := s_law_integers) l5 c5 k5
  have b5 := F5.binds (ps := ["values"]) fun _ _ _ _ _ _ us hl => match us, hl with | [_], _ => rfl
  have F6 := fun_mk (st := s_law_row) l6 c6 k6
  have b6 := F6.binds (ps := ["cell", "count", "bound"]) fun _ _ _ _ _ _ us hl => match us, hl with | [_, _, _], _ => rfl
  have F7 := fun_mk (st := s_law_sums) l7 c7 k7
  have b7 := F7.binds (ps := ["values", "most"]) fun _ _ _ _ _ _ us hl => match us, hl with | [_, _], _ => rfl
  have F8 := fun_mk (st := s_law_minors) l8 c8 k8
  have b8 := F8.binds (ps := ["sums", "size"]) fun _ _ _ _ _ _ us hl => match us, hl with | [_, _], _ => rfl
  have F9 := fun_mk (st := s_law_solves) l9 c9 k9
  have b9 := F9.binds (ps := ["numerators", "denominator", "sums"]) fun _ _ _ _ _ _ us hl => match us, hl with | [_, _, _], _ => rfl
  have F10 := fun_mk (st := s_law) l10 c10 k10
  have b10 := F10.binds (ps := ["script"]) fun _ _ _ _ _ _ us hl => match us, hl with | [_], _ => rfl
  let T : TX K mg := ⟨f1, _, F1, b1, (PySem.W.mg_of X G a1), f2, _, F2, b2, (PySem.W.mg_of X G a2), f3, _, F3, b3, (PySem.W.mg_of X G a3), f4, _, F4, b4, (PySem.W.mg_of X G a4), f5, _, F5, b5, (PySem.W.mg_of X G a5), f6, _, F6, b6, (PySem.W.mg_of X G a6), f7, _, F7, b7, (PySem.W.mg_of X G a7), f8, _, F8, b8, (PySem.W.mg_of X G a8), f9, _, F9, b9, (PySem.W.mg_of X G a9), fa, _, F10, b10, (PySem.W.mg_of X G a10), (PySem.W.mg_none_of X G z_range), (PySem.W.mg_none_of X G z_len), (PySem.W.mg_none_of X G z_list), (PySem.W.mg_none_of X G z_reversed), (PySem.W.mg_none_of X G z_zip), (PySem.W.mg_none_of X G z_sum), (PySem.W.mg_none_of X G z_isinstance), (PySem.W.mg_none_of X G z_int), (PySem.W.mg_none_of X G z_bool), (PySem.W.mg_none_of X G z_all), (PySem.W.mg_none_of X G z_abs), (PySem.W.mg_none_of X G z_tuple)⟩
  exact ⟨_, fun s v => .of_eq rfl, fun base _ _ => ok_law T⟩
end K60
open PySem PySem.W PyProof.Rows
set_option maxRecDepth 100000 in
set_option maxHeartbeats 0 in
theorem PySem.Challenge.cw_monochord_k60_exact_predictors_holds : PySem.Challenge.rw_monochord_k60_exact_predictors.Holds := by
  w_on; o_law; k_head; (case hw => w_witness2)
  k_fill
  refine L2.walk_of (l := PySem.Challenge.rw_monochord_k60_exact_predictors) (n := 63) (k := 3) (x := "script") (CX := fun _ => L2.CX0) (sp := fun w => K60.sp_law _) rfl (by decide) rfl ⟨rfl, by decide, by decide⟩ (fun w h Y => PySem.W.kIn_of Y) ?F (fun _ _ a ns hl _ hS => ⟨a, ns, rfl, hS, hl, fun _ => rfl⟩) (fun _ _ _ _ _ h => h)
  case F =>
    intro w mg fa h KX G hmg
    refine' K60.all_mk KX G hmg ?a1 ?l1 ?c1 ?k1 ?a2 ?l2 ?c2 ?k2 ?a3 ?l3 ?c3 ?k3 ?a4 ?l4 ?c4 ?k4 ?a5 ?l5 ?c5 ?k5 ?a6 ?l6 ?c6 ?k6 ?a7 ?l7 ?c7 ?k7 ?a8 ?l8 ?c8 ?k8 ?a9 ?l9 ?c9 ?k9 ?a10 ?l10 ?c10 ?k10 ?z_range ?z_len ?z_list ?z_reversed ?z_zip ?z_sum ?z_isinstance ?z_int ?z_bool ?z_all ?z_abs ?z_tuple
    (case a1 => k_is)
    (case l1 => k_is)
    (case c1 => k_is)
    (case k1 => k_is)
    (case a2 => k_is)
    (case l2 => k_is)
    (case c2 => k_is)
    (case k2 => k_is)
    (case a3 => k_is)
    (case l3 => k_is)
    (case c3 => k_is)
    (case k3 => k_is)
    (case a4 => k_is)
    (case l4 => k_is)
    (case c4 => k_is)
    (case k4 => k_is)
    (case a5 => k_is)
    (case l5 => k_is)
    (case c5 => k_is)
    (case k5 => k_is)
    (case a6 => k_is)
    (case l6 => k_is)
    (case c6 => k_is)
    (case k6 => k_is)
    (case a7 => k_is)
    (case l7 => k_is)
    (case c7 => k_is)
    (case k7 => k_is)
    (case a8 => k_is)
    (case l8 => k_is)
    (case c8 => k_is)
    (case k8 => k_is)
    (case a9 => k_is)
    (case l9 => k_is)
    (case c9 => k_is)
    (case k9 => k_is)
    (case a10 => k_is)
    (case l10 => k_is)
    (case c10 => k_is)
    (case k10 => k_is)
    (case z_range => k_is)
    (case z_len => k_is)
    (case z_list => k_is)
    (case z_reversed => k_is)
    (case z_zip => k_is)
    (case z_sum => k_is)
    (case z_isinstance => k_is)
    (case z_int => k_is)
    (case z_bool => k_is)
    (case z_all => k_is)
    (case z_abs => k_is)
    (case z_tuple => k_is)
