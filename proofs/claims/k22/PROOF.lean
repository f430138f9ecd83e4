import PyProof.Rows.All
import Wide.All
import OpenK.AllK
import Wide.FinOn
import HandS.ForMost
import HandS.Steps
import HandS.Evl
import HandS.IsInst
import HandS.Defaults
import PySem.Challenge.RW_monochord_k22_fixed_samples_and_limit
set_option Elab.async false
set_option linter.all false
set_option maxRecDepth 100000
set_option maxHeartbeats 4000000
namespace K22
open PySem PySem.Spec PyProof.Rows L2 Evl
def topS (i : Nat) : Stmt := PySem.Challenge.pw_monochord_k22_fixed_samples_and_limit.main.body.getD i (.Pass ⟨0, 0, 0, 0⟩)
abbrev s_fixed_residuals : Stmt := topS 1
theorem sc_fixed_residuals : FnScope ["samples", "order", "residuals", "_", "early", "late"] ["samples", "order"] (defScope s_fixed_residuals) := ⟨rfl, rfl, rfl, by decide +kernel, rfl, by decide +kernel, by decide +kernel⟩
abbrev s_fixed_samples : Stmt := topS 2
theorem sc_fixed_samples : FnScope ["warm_up", "residuals", "limit", "order", "samples", "residual", "sample"] ["warm_up", "residuals", "limit"] (defScope s_fixed_samples) := ⟨rfl, rfl, rfl, by decide +kernel, rfl, by decide +kernel, by decide +kernel⟩
abbrev s_prediction : Stmt := topS 3
theorem sc_prediction : FnScope ["samples", "order"] ["samples", "order"] (defScope s_prediction) := ⟨rfl, rfl, rfl, by decide +kernel, rfl, by decide +kernel, by decide +kernel⟩
abbrev s_law_cell : Stmt := topS 5
theorem sc_law_cell : FnScope ["script", "k"] ["script", "k"] (defScope s_law_cell) := ⟨rfl, rfl, rfl, by decide +kernel, rfl, by decide +kernel, by decide +kernel⟩
abbrev s_law_equal_lists : Stmt := topS 6
theorem sc_law_equal_lists : FnScope ["actual", "expected", "k"] ["actual", "expected"] (defScope s_law_equal_lists) := ⟨rfl, rfl, rfl, by decide +kernel, rfl, by decide +kernel, by decide +kernel⟩
abbrev s_law_row : Stmt := topS 7
theorem sc_law_row : FnScope ["script", "cell"] ["script"] (defScope s_law_row) := ⟨rfl, rfl, rfl, by decide +kernel, rfl, by decide +kernel, by decide +kernel⟩
abbrev s_law_predicted : Stmt := topS 8
theorem sc_law_predicted : FnScope ["samples", "order", "weights", "total", "k"] ["samples", "order"] (defScope s_law_predicted) := ⟨rfl, rfl, rfl, by decide +kernel, rfl, by decide +kernel, by decide +kernel⟩
abbrev s_law_bound : Stmt := topS 9
theorem sc_law_bound : FnScope ["cell", "samples", "sample"] ["cell", "samples"] (defScope s_law_bound) := ⟨rfl, rfl, rfl, by decide +kernel, rfl, by decide +kernel, by decide +kernel⟩
abbrev s_law : Stmt := topS 10
theorem sc_law : FnScope ["script", "row", "order", "warm_up", "residuals", "expected", "residual", "bound", "inside", "first", "rest", "alone"] ["script"] (defScope s_law) := ⟨rfl, rfl, rfl, by decide +kernel, rfl, by decide +kernel, by decide +kernel⟩
theorem hu64 {A : Around} {k : Nat} (hr : Room k A) : A.units + 64 < cLine := hr.units
/-! ### short words for readings -/
theorem ret_eq {v w : V} {H H' : Hp} {Q : VK} (k : RetV v H Q) (ex : Ex H H') (e : w = v) : Q w H' := e ▸ k H' ex
/-- isinstance(x, T), T a built-in class -/
theorem ev_isi {K : PySem.W.Frag} {σ : L2.St} {H : Hp} {ta : TE} {x : V} {t : String} {T : String} {b : Bool} (ha : Ev ta σ H x) (ht : ∀ H1, Ex H H1 → TyX K H1 x (.type t)) (hk : kitB t T = some b) :
    Ev (tCB (rIsi K) (tCons ta (tCons (tC (.ty T)) tNil))) σ H (.bl b) :=
  ev_cb (ea_cons ha (ea_cons ev_c ea_nil)) fun H1 e Q q => ⟨x, .ty T, _, _, b, rfl, .ty T, ht H1 e, kit_ty hk, q H1 (Ex.refl H1)⟩
theorem isi_int {K : PySem.W.Frag} {H : Hp} {i : Int} : ∀ H1, Ex H H1 → TyX K H1 (V.int i) (.type "int") := fun _ _ => .base (.int _)
theorem isi_bl {K : PySem.W.Frag} {H : Hp} {b : Bool} : ∀ H1, Ex H H1 → TyX K H1 (V.bl b) (.type "bool") := fun _ _ => .base (.bl _)
theorem isi_non {K : PySem.W.Frag} {H : Hp} : ∀ H1, Ex H H1 → TyX K H1 V.non (.type "NoneType") := fun _ _ => .base .non
theorem isi_lst {K : PySem.W.Frag} {H : Hp} {a : Addr} {xs : List V} (h : H a = some (.lst xs)) : ∀ H1, Ex H H1 → TyX K H1 (V.ref a) (.type "list") := fun _ e => .base (.lst (e _ _ h))
theorem isi_tup {K : PySem.W.Frag} {H : Hp} {a : Addr} {xs : List V} (h : H a = some (.tup xs)) : ∀ H1, Ex H H1 → TyX K H1 (V.ref a) (.type "tuple") := fun _ e => .base (.tup (e _ _ h))
theorem kit_ii : kitB "int" "int" = some true := by decide +kernel
theorem kit_ib : kitB "int" "bool" = some false := by decide +kernel
theorem kit_bb : kitB "bool" "bool" = some true := by decide +kernel
theorem kit_bi : kitB "bool" "int" = some true := by decide +kernel
theorem kit_ll : kitB "list" "list" = some true := by decide +kernel
theorem kit_tt : kitB "tuple" "tuple" = some true := by decide +kernel
theorem ev_isiI {K : PySem.W.Frag} {σ : L2.St} {H : Hp} {ta : TE} {i : Int} (ha : Ev ta σ H (.int i)) : Ev (tCB (rIsi K) (tCons ta (tCons (tC (.ty "int")) tNil))) σ H (.bl true) := ev_isi ha isi_int kit_ii
theorem ev_isiB {K : PySem.W.Frag} {σ : L2.St} {H : Hp} {ta : TE} {i : Int} (ha : Ev ta σ H (.int i)) : Ev (tCB (rIsi K) (tCons ta (tCons (tC (.ty "bool")) tNil))) σ H (.bl false) := ev_isi ha isi_int kit_ib
theorem ev_isiL {K : PySem.W.Frag} {σ : L2.St} {H : Hp} {ta : TE} {a : Addr} {xs : List V} (ha : Ev ta σ H (.ref a)) (h : H a = some (.lst xs)) : Ev (tCB (rIsi K) (tCons ta (tCons (tC (.ty "list")) tNil))) σ H (.bl true) := ev_isi ha (isi_lst h) kit_ll
theorem ev_isiBB {K : PySem.W.Frag} {σ : L2.St} {H : Hp} {ta : TE} {b : Bool} (ha : Ev ta σ H (.bl b)) : Ev (tCB (rIsi K) (tCons ta (tCons (tC (.ty "bool")) tNil))) σ H (.bl true) := ev_isi ha isi_bl kit_bb
theorem ev_chain {σ : L2.St} {H : Hp} {ta tb tc : TE} {g g' : Int → Int → Bool} {a b c : Int} (ha : Ev ta σ H (.int a)) (hb : Ev tb σ H (.int b)) (hc : Ev tc σ H (.int c)) :
    Ev (tChain (rI0 fun i j => .bl (g i j)) (rI0 fun i j => .bl (g' i j)) ta tb tc) σ H (.bl (g a b && g' b c)) := fun H1 e Q q =>
  ha H1 e _ fun H2 e2 => hb H2 (e.trans e2) _ fun H3 e3 => ⟨a, b, rfl, rfl, g a b, rfl, by
    cases hg : g a b with
    | true =>
      rw [if_pos rfl]
      rw [hg, Bool.true_and] at q
      exact hc H3 ((e.trans e2).trans e3) _ fun H4 e4 => ⟨b, c, rfl, rfl, q H4 ((e2.trans e3).trans e4)⟩
    | false =>
      rw [if_neg (by decide)]
      rw [hg, Bool.false_and] at q
      exact q H3 (e2.trans e3)⟩
theorem ev_isN {σ : L2.St} {H : Hp} {ta : TE} {x : V} (ha : Ev ta σ H x) : Ev (tOp rIsN ta (tC .non)) σ H (.bl (decide (x = .non))) := fun H1 e Q q => ha H1 e _ fun H2 e2 => ⟨rfl, q H2 e2⟩
theorem ev_notN {σ : L2.St} {H : Hp} {ta : TE} {x : V} (ha : Ev ta σ H x) : Ev (tOp rNotN ta (tC .non)) σ H (.bl (!decide (x = .non))) := fun H1 e Q q => ha H1 e _ fun H2 e2 => ⟨rfl, q H2 e2⟩
theorem ev_min2 {σ : L2.St} {H : Hp} {ta tb : TE} {i j : Int} (ha : Ev ta σ H (.int i)) (hb : Ev tb σ H (.int j)) :
    Ev (tCB (fun xs H Q => ∃ i j, xs = [.int i, .int j] ∧ Q (.int (if j < i then j else i)) H) (tCons ta (tCons tb tNil))) σ H (.int (if j < i then j else i)) :=
  ev_cb (ea_cons ha (ea_cons hb ea_nil)) fun H1 _ _ q => ⟨i, j, rfl, q H1 (Ex.refl H1)⟩
theorem ev_negI {σ : L2.St} {H : Hp} {ta : TE} {i : Int} (ha : Ev ta σ H (.int i)) : Ev (tUn (rU fun i => .int (-i)) ta) σ H (.int (-i)) := ev_un ha ru_neg
theorem ev_I0 {σ : L2.St} {H : Hp} {ta tb : TE} {g : Int → Int → V} {i j : Int} (ha : Ev ta σ H (.int i)) (hb : Ev tb σ H (.int j)) : Ev (tOp (rI0 g) ta tb) σ H (g i j) := ev_op ha hb rv_I0
theorem ev_I {σ : L2.St} {H : Hp} {ta tb : TE} {C : Int → Int → Prop} {g : Int → Int → V} {i j : Int} (ha : Ev ta σ H (.int i)) (hb : Ev tb σ H (.int j)) (hc : C i j) : Ev (tOp (rI C g) ta tb) σ H (g i j) := ev_op ha hb (rv_I hc)
theorem ev_eq {σ : L2.St} {H : Hp} {ta tb : TE} {x y : V} (ha : Ev ta σ H x) (hb : Ev tb σ H y) (hs : scal x y = true) : Ev (tOp rEq ta tb) σ H (.bl (decide (x = y))) := ev_op ha hb (rv_eq hs)
theorem ev_ne {σ : L2.St} {H : Hp} {ta tb : TE} {x y : V} (ha : Ev ta σ H x) (hb : Ev tb σ H y) (hs : scal x y = true) : Ev (tOp rNe ta tb) σ H (.bl (!decide (x = y))) := ev_op ha hb (rv_ne hs)
theorem et_B' {σ : L2.St} {H : Hp} {te : TE} {x : V} {b : Bool} (h : Ev te σ H x) (e : x = .bl b) : EvT (tB te) σ H b := et_B (e ▸ h)
theorem dec_lt {a b : Nat} : decide ((a : Int) < (b : Int)) = decide (a < b) := by
  by_cases h : a < b
  · rw [decide_eq_true h, decide_eq_true (by omega)]
  · rw [decide_eq_false h, decide_eq_false (by omega)]
theorem int_at {ns : List Int} {i : Nat} {x : V} (hx : (ns.map V.int)[i]? = some x) : ∃ n, ns[i]? = some n ∧ i < ns.length ∧ x = V.int n := by
  rw [List.getElem?_map] at hx
  cases en : ns[i]? with
  | none => rw [en] at hx; cases hx
  | some n => rw [en] at hx; exact ⟨n, rfl, (List.getElem?_eq_some_iff.mp en).1, (Option.some.inj hx).symm⟩
theorem at_int {ns : List Int} {i : Nat} {n : Int} (h : ns[i]? = some n) : (ns.map V.int)[i]? = some (V.int n) := by rw [List.getElem?_map, h]; rfl
local macro_rules | `(tactic| walk_at "side") => `(tactic| first
  | omega | (show CMul _ _; unfold CMul; omega) | (show CDiv _ _; unfold CDiv; omega) | (show CPow _ _; unfold CPow; omega) | (show (_ : Int) < _; omega) | (show (_ : Int) ≤ _; omega) | decide)
local macro_rules | `(tactic| walk_at "ev") => `(tactic| first
  | exact ev_var rfl
  | exact ev_c
  | (refine' ev_I0 ?h1 ?h2; (case h1 => walk_at "ev"); (case h2 => walk_at "ev"))
  | (refine' ev_negI ?h1; (case h1 => walk_at "ev"))
  | (refine' ev_I ?h1 ?h2 ?hc; (case h1 => walk_at "ev"); (case h2 => walk_at "ev"); (case hc => walk_at "side"))
  | (refine' ev_eq ?h1 ?h2 ?hc; (case h1 => walk_at "ev"); (case h2 => walk_at "ev"); (case hc => rfl))
  | (refine' ev_ne ?h1 ?h2 ?hc; (case h1 => walk_at "ev"); (case h2 => walk_at "ev"); (case hc => rfl))
  | (refine' ev_max2 ?h1 ?h2; (case h1 => walk_at "ev"); (case h2 => walk_at "ev"))
  | (refine' ev_min2 ?h1 ?h2; (case h1 => walk_at "ev"); (case h2 => walk_at "ev"))
  | (refine' ev_chain ?h1 ?h2 ?h3; (case h1 => walk_at "ev"); (case h2 => walk_at "ev"); (case h3 => walk_at "ev"))
  | (refine' ev_isN ?h1; (case h1 => walk_at "ev"))
  | (refine' ev_notN ?h1; (case h1 => walk_at "ev"))
  | (refine' ev_isiI ?h1; (case h1 => walk_at "ev"))
  | (refine' ev_isiB ?h1; (case h1 => walk_at "ev"))
  | (refine' ev_isiBB ?h1; (case h1 => walk_at "ev"))
  | (refine' ev_andV ?h1 (fun _ => ?h2); (case h1 => walk_at "ev"); (case h2 => walk_at "ev"))
  | (refine' ev_orV ?h1 (fun _ => ?h2); (case h1 => walk_at "ev"); (case h2 => walk_at "ev"))
  | (refine' ev_notV ?h1; (case h1 => walk_at "ev"))
  | walk_at "evmore")
local macro_rules | `(tactic| walk_at "et") => `(tactic| first
  | (refine' et_test ?h1; (case h1 => walk_at "ev"))
  | (refine' et_B ?h1; (case h1 => walk_at "ev"))
  | (refine' et_not ?h1; (case h1 => walk_at "et"))
  | (refine' et_and ?h1 (fun _ => ?h2); (case h1 => walk_at "et"); (case h2 => walk_at "et"))
  | (refine' et_or ?h1 (fun _ => ?h2); (case h1 => walk_at "et"); (case h2 => walk_at "et")))
local macro_rules | `(tactic| walk_at "ea") => `(tactic| first
  | exact ea_nil
  | (refine' ea_cons ?h1 ?h2; (case h1 => walk_at "ev"); (case h2 => walk_at "ea")))
local macro_rules | `(tactic| walk_at "when") => `(tactic| (refine' q_when ?h ?h1 ?h2; (case h => walk_at "et")))
local macro_rules | `(tactic| walk_at "whenS") => `(tactic| (refine' s_when ?h ?h1 ?h2; (case h => walk_at "et")))
local macro_rules | `(tactic| walk_at "if") => `(tactic| (refine' q_if ?h ?h1 ?h2; (case h => walk_at "et")))
local macro_rules | `(tactic| walk_at "ifS") => `(tactic| (refine' s_if ?h ?h1 ?h2; (case h => walk_at "et")))
local macro_rules | `(tactic| walk_at "ret") => `(tactic| (refine' s_ret ?h ?h1; (case h => walk_at "ev")))
local macro_rules | `(tactic| walk_at "asg") => `(tactic| (refine' q_asg ?h ?h1; (case h => walk_at "ev")))
local macro_rules | `(tactic| walk_at "asgS") => `(tactic| (refine' s_asg ?h ?h1; (case h => walk_at "ev")))

/-! ### lists, existing or new -/
def EvR (te : TE) (σ : L2.St) (H : Hp) (xs : List V) : Prop := ∀ H1, Ex H H1 → ∀ Q : VK, (∀ p H2, Ex H1 H2 → H2 p = some (.lst xs) → Q (.ref p) H2) → te σ H1 Q
def EvS (K : PySem.W.Frag) (te : TE) (σ : L2.St) (H : Hp) (xs : List V) : Prop := ∀ H1, Ex H H1 → ∀ Q : VK, (∀ p H2, Ex H1 H2 → SqL K H2 p xs → Q (.ref p) H2) → te σ H1 Q
section
variable {K : PySem.W.Frag} {σ : L2.St} {H H' : Hp} {ta tb te : TE} {xs ys : List V} {a : Addr}
theorem EvL.r (h : EvL te σ H xs) : EvR te σ H xs := fun H1 e Q q => h H1 e Q fun p H2 _ e2 h2 => q p H2 e2 h2
theorem Ev.r (h : Ev te σ H (.ref a)) (hx : H a = some (.lst xs)) : EvR te σ H xs := fun H1 e Q q => h H1 e Q fun H2 e2 => q a H2 e2 (e2 _ _ (e _ _ hx))
theorem EvR.s (h : EvR te σ H xs) : EvS K te σ H xs := fun H1 e Q q => h H1 e Q fun p H2 e2 h2 => q p H2 e2 (sq_of h2)
theorem Ev.s (h : Ev te σ H (.ref a)) (hx : SqL K H a xs) : EvS K te σ H xs := fun H1 e Q q => h H1 e Q fun H2 e2 => q a H2 e2 (ex_l e2 (ex_l e hx))
theorem EvR.mono (e : Ex H H') (h : EvR te σ H xs) : EvR te σ H' xs := fun H1 a Q q => h H1 (e.trans a) Q q
theorem EvS.mono (e : Ex H H') (h : EvS K te σ H xs) : EvS K te σ H' xs := fun H1 a Q q => h H1 (e.trans a) Q q
theorem EvL.is (h : EvL te σ H xs) (e : xs = ys) : EvL te σ H ys := e ▸ h
theorem EvR.is (h : EvR te σ H xs) (e : xs = ys) : EvR te σ H ys := e ▸ h
theorem el_cat (ha : EvR ta σ H xs) (hb : EvR tb σ H ys) (hl : xs.length + ys.length ≤ 100000) : EvL (tOp rCat ta tb) σ H (xs ++ ys) := fun H1 e Q q =>
  ha H1 e _ fun p H2 e2 h2 => hb H2 (e.trans e2) _ fun r H3 e3 h3 => ⟨p, r, xs, ys, rfl, rfl, e3 _ _ h2, h3, sz_of hl, fun l hl => q l _ (fresh_back (e2.trans e3) hl) ((e2.trans e3).trans (Ex.new hl)) upd_same⟩
theorem el_rep {k : Int} (ha : EvR ta σ H xs) (hb : Ev tb σ H (.int k)) (hk : -(2 ^ 63) ≤ k ∧ k < 2 ^ 63) (hl : xs.length * k.toNat ≤ 100000) : EvL (tOp rRep ta tb) σ H (List.replicate k.toNat xs).flatten := fun H1 e Q q =>
  ha H1 e _ fun p H2 e2 h2 => hb H2 (e.trans e2) _ fun H3 e3 => ⟨p, k, xs, rfl, rfl, e3 _ _ h2, hk.1, hk.2, sz_of hl, fun l hl => q l _ (fresh_back (e2.trans e3) hl) ((e2.trans e3).trans (Ex.new hl)) upd_same⟩
theorem rep_one {x : V} (n : Nat) : (List.replicate n [x]).flatten = List.replicate n x := by
  induction n with
  | zero => rfl
  | succ n ih => rw [List.replicate_succ, List.replicate_succ, List.flatten_cons, ih]; rfl
theorem el_of {te : TE} (h : EvS K te σ H xs) : EvL (tCB (rListS K) (tCons te tNil)) σ H xs := fun H1 e Q q =>
  h H1 e _ fun p H2 e2 h2 => ⟨p, xs, rfl, .inl h2, fun l hl => q l _ (fresh_back e2 hl) (e2.trans (Ex.new hl)) upd_same⟩
theorem ev_lenS (h : EvS K te σ H xs) : Ev (tCB (rLenS K) (tCons te tNil)) σ H (.int (xs.length : Int)) := fun H1 e Q q =>
  h H1 e _ fun p H2 e2 h2 => ⟨p, xs, rfl, .inl h2, q H2 e2⟩
theorem ev_sum {ns : List Int} (h : EvS K te σ H (ns.map V.int)) : Ev (tCB (rSum K) (tCons te tNil)) σ H (.int ns.sum) := fun H1 e Q q =>
  h H1 e _ fun p H2 e2 h2 => ⟨p, ns, rfl, h2, q H2 e2⟩
theorem dp_ints {K : PySem.W.Frag} {H : Hp} : ∀ ns : List Int, DpAll K H (ns.map V.int) (ns.map PyData.int)
  | [] => .nil
  | n :: r => .cons (.int n) (dp_ints r)
theorem eqv_ints : ∀ ns ms : List Int, PyData.eqvAll (ns.map PyData.int) (ms.map PyData.int) = decide (ns = ms)
  | [], [] => by simp [PyData.eqvAll]
  | [], _ :: _ => by simp [PyData.eqvAll]
  | _ :: _, [] => by simp [PyData.eqvAll]
  | n :: r, m :: t => by
    show (PyData.eqv (.int n) (.int m) && PyData.eqvAll (r.map PyData.int) (t.map PyData.int)) = _
    rw [eqv_ints r t]
    show ((n == m) && decide (r = t)) = _
    by_cases h1 : n = m <;> by_cases h2 : r = t <;> simp [h1, h2]
theorem canLay_ints : ∀ ns : List Int, PyData.canLayAll0 (ns.map PyData.int) = true
  | [] => by simp [PyData.canLayAll0]
  | n :: r => by
    show PyData.canLayAll0 (PyData.int n :: r.map PyData.int) = true
    rw [PyData.canLayAll0, canLay_ints r]
    simp [PyData.canLay0]
theorem depth_ints : ∀ ns : List Int, PyData.depthAll (ns.map PyData.int) ≤ 1
  | [] => by simp [PyData.depthAll]
  | n :: r => by
    show PyData.depthAll (PyData.int n :: r.map PyData.int) ≤ 1
    have := depth_ints r
    simp only [PyData.depthAll, PyData.depth]
    omega
theorem shaped_ints (ns : List Int) : SeqAt.shaped (.list (ns.map PyData.int)) = true := by
  unfold SeqAt.shaped
  have h1 := canLay_ints ns
  have h2 := depth_ints ns
  have h3 : PyData.depth (.list (ns.map PyData.int)) ≤ 64 := by
    rw [PyData.depth]
    omega
  rw [decide_eq_true h3, Bool.and_true]
  simpa only [PyData.canLay0] using h1
theorem ev_eqI {ns ms : List Int} (ha : EvS K ta σ H (ns.map V.int)) (hb : EvS K tb σ H (ms.map V.int)) : Ev (tOp (rEqD K) ta tb) σ H (.bl (decide (ns = ms))) := fun H1 e Q q =>
  ha H1 e _ fun p H2 e2 h2 => hb H2 (e.trans e2) _ fun r H3 e3 h3 => ⟨.list (ns.map PyData.int), .list (ms.map PyData.int), .lst (ex_l e3 h2) (dp_ints ns), .lst h3 (dp_ints ms), shaped_ints ns, shaped_ints ms, by
    show Q (.bl (PyData.eqvAll (ns.map PyData.int) (ms.map PyData.int))) H3
    rw [eqv_ints]
    exact q H3 (e2.trans e3)⟩
theorem ev_neI {ns ms : List Int} (ha : EvS K ta σ H (ns.map V.int)) (hb : EvS K tb σ H (ms.map V.int)) : Ev (tOp (rNeD K) ta tb) σ H (.bl (!decide (ns = ms))) := fun H1 e Q q =>
  ha H1 e _ fun p H2 e2 h2 => hb H2 (e.trans e2) _ fun r H3 e3 h3 => ⟨.list (ns.map PyData.int), .list (ms.map PyData.int), .lst (ex_l e3 h2) (dp_ints ns), .lst h3 (dp_ints ms), shaped_ints ns, shaped_ints ms, by
    show Q (.bl (!PyData.eqvAll (ns.map PyData.int) (ms.map PyData.int))) H3
    rw [eqv_ints]
    exact q H3 (e2.trans e3)⟩
theorem ev_ixS {i : Nat} {n : Int} {tl ti : TE} {v : V} (h : EvS K tl σ H xs) (hi : Ev ti σ H (.int n)) (ha : atI xs n = some v) : Ev (tOp (rIxL K) tl ti) σ H v := fun H1 e Q q =>
  h H1 e _ fun p H2 e2 h2 => hi H2 (e.trans e2) _ fun H3 e3 => ⟨p, xs, n, v, rfl, rfl, ex_l e3 h2, ha, q H3 (e2.trans e3)⟩
theorem el_slS {tl th : TO} {lo hi : Option Int} (h : EvS K te σ H xs) (h1 : EvO tl σ H lo) (h2 : EvO th σ H hi) : EvL (tSl (rSlL K) te tl th) σ H (cutV xs lo hi) := fun H1 e _ q =>
  h H1 e _ fun a H2 e2 hs => h1 H2 (e.trans e2) _ fun H3 e3 => h2 H3 ((e.trans e2).trans e3) _ fun H4 e4 =>
    ⟨a, xs, rfl, ex_l (e3.trans e4) hs, fun p hp => q p _ (fresh_back ((e2.trans e3).trans e4) hp) (((e2.trans e3).trans e4).trans (Ex.new hp)) upd_same⟩
theorem ev_at {n : Int} {tl ti : TE} {v : V} (h : EvS K tl σ H xs) (hi : Ev ti σ H (.int n)) (ha : atI xs n = some v) : Ev (tOp (rIxL K) tl ti) σ H v := ev_ixS (i := 0) h hi ha
theorem cut_to (xs : List V) (i : Nat) : cutV xs none (some (i : Int)) = xs.take i := by
  unfold cutV
  rw [HT.sIx_none, HT.sIx_nat, List.drop_zero, Nat.sub_zero]
  by_cases h : i ≤ xs.length
  · rw [Nat.min_eq_left h]
  · rw [Nat.min_eq_right (by omega), List.take_of_length_le (Nat.le_refl _), List.take_of_length_le (by omega)]
theorem cut_from (xs : List V) (i : Nat) : cutV xs (some (i : Int)) none = xs.drop i := by
  unfold cutV
  rw [HT.sIx_none, HT.sIx_nat]
  by_cases h : i ≤ xs.length
  · rw [Nat.min_eq_left h, List.take_of_length_le (by rw [List.length_drop]; omega)]
  · rw [Nat.min_eq_right (by omega), List.drop_of_length_le (Nat.le_refl _), List.drop_of_length_le (show xs.length ≤ i by omega), List.take_nil]
theorem cut_mid (xs : List V) (i j : Nat) : cutV xs (some (i : Int)) (some (j : Int)) = (xs.drop i).take (j - i) := by
  unfold cutV
  rw [HT.sIx_nat, HT.sIx_nat]
  by_cases h : i ≤ xs.length
  · rw [Nat.min_eq_left h]
    by_cases h2 : j ≤ xs.length
    · rw [Nat.min_eq_left h2]
    · rw [Nat.min_eq_right (by omega), List.take_of_length_le (by rw [List.length_drop]; omega), List.take_of_length_le (by rw [List.length_drop]; omega)]
  · rw [Nat.min_eq_right (by omega : xs.length ≤ i), List.drop_of_length_le (Nat.le_refl _), List.drop_of_length_le (show xs.length ≤ i by omega)]
    simp
theorem el_to {th : TE} {ns : List Int} {i : Nat} (h : EvS K te σ H (ns.map V.int)) (h2 : Ev th σ H (.int i)) : EvL (tSl (rSlL K) te tNoPart (tPart th)) σ H ((ns.take i).map V.int) :=
  EvL.is (el_slS h eo_none (eo_some h2)) (by rw [List.map_take]; exact cut_to _ i)
theorem el_from {th : TE} {ns : List Int} {i : Nat} (h : EvS K te σ H (ns.map V.int)) (h2 : Ev th σ H (.int i)) : EvL (tSl (rSlL K) te (tPart th) tNoPart) σ H ((ns.drop i).map V.int) :=
  EvL.is (el_slS h (eo_some h2) eo_none) (by rw [List.map_drop]; exact cut_from _ i)
theorem el_mid {t1 t2 : TE} {ns : List Int} {i j : Nat} (h : EvS K te σ H (ns.map V.int)) (h1 : Ev t1 σ H (.int i)) (h2 : Ev t2 σ H (.int j)) : EvL (tSl (rSlL K) te (tPart t1) (tPart t2)) σ H (((ns.drop i).take (j - i)).map V.int) :=
  EvL.is (el_slS h (eo_some h1) (eo_some h2)) (by rw [List.map_take, List.map_drop]; exact cut_mid _ i j)
section
variable {D : Ends} {tz : TS} {sp : Sp} {dvs vs : List V} {E : XK} {tA : TA}
/-- x = f(..), whatever f promises -/
theorem q_asgC {i : Nat} (h : EvA tA σ H vs) (k : ∀ H1, Ex H H1 → sp (vs ++ dvs) H1 (fun x H2 => tz D (σ.set i (some x)) H2) E) : tSeq (tAsg (tCall sp dvs E tA) (gName i)) tz D σ H := h H (Ex.refl H) _ fun H1 e => k H1 e
theorem s_asgC {i : Nat} (h : EvA tA σ H vs) (k : ∀ H1, Ex H H1 → sp (vs ++ dvs) H1 (fun x H2 => D.nx (σ.set i (some x)) H2) E) : tAsg (tCall sp dvs E tA) (gName i) D σ H := h H (Ex.refl H) _ fun H1 e => k H1 e
theorem q_dropC (h : EvA tA σ H vs) (k : ∀ H1, Ex H H1 → sp (vs ++ dvs) H1 (fun _ H2 => tz D σ H2) E) : tSeq (tDrop (tCall sp dvs E tA)) tz D σ H := h H (Ex.refl H) _ fun H1 e => k H1 e
theorem s_retC (h : EvA tA σ H vs) (k : ∀ H1, Ex H H1 → sp (vs ++ dvs) H1 D.rt E) : tRet (tCall sp dvs E tA) D σ H := h H (Ex.refl H) _ fun H1 e => k H1 e
end
theorem gl_get {ns : List Int} {i : Nat} (h : i < ns.length) : ns[i]? = some (ns.getD i 0) := by
  rw [List.getD_eq_getElem?_getD, List.getElem?_eq_getElem h]
  rfl
theorem q_asgRaw {te : TE} {i : Nat} {D : Ends} {tz : TS} (P : V → Hp → Prop) (h : ∀ Q : VK, (∀ x H2, P x H2 → Q x H2) → te σ H Q) (k : ∀ x H2, P x H2 → tz D (σ.set i (some x)) H2) : tSeq (tAsg te (gName i)) tz D σ H := h _ k
/-- the law's cell -/
def cellI (ns : List Int) (k : Int) : Int := ns.getD k.toNat 0
theorem cellI_in {ns : List Int} {k : Int} (h0 : 0 ≤ k) (h : k < ns.length) : ns[k.toNat]? = some (cellI ns k) := by
  unfold cellI
  rw [List.getD_eq_getElem?_getD, List.getElem?_eq_getElem (by omega)]
  rfl
theorem cellI_out {ns : List Int} {k : Int} (h : ¬ k < ns.length) : cellI ns k = 0 := by
  unfold cellI
  rw [List.getD_eq_getElem?_getD, List.getElem?_eq_none (by omega)]
  rfl
end
theorem Ex.get {H H' : Hp} {a : Addr} {o : HO} (e : Ex H H') (h : H a = some o) : H' a = some o := e a o h
local macro_rules | `(tactic| walk_at "hp") => `(tactic| first
  | assumption
  | exact upd_same
  | (refine' Ex.get (by assumption) ?h1; (case h1 => walk_at "hp")))
local macro_rules | `(tactic| walk_at "ex") => `(tactic| first
  | assumption
  | exact Ex.refl _
  | (refine' Ex.trans ?h1 (by assumption); (case h1 => walk_at "ex")))
local macro_rules | `(tactic| walk_at "sq") => `(tactic| first
  | assumption
  | (refine' sq_of ?h1; (case h1 => walk_at "hp"))
  | (refine' ex_l (by assumption) ?h1; (case h1 => walk_at "sq")))
local macro_rules | `(tactic| walk_at "evs") => `(tactic| first
  | (refine' Ev.s ?h1 ?h2; (case h1 => exact ev_var rfl); (case h2 => walk_at "sq"))
  | (refine' EvR.s ?h1; (case h1 => walk_at "evr")))
local macro_rules | `(tactic| walk_at "evr") => `(tactic| first
  | (refine' Ev.r ?h1 ?h2; (case h1 => exact ev_var rfl); (case h2 => walk_at "hp"))
  | (refine' EvL.r ?h1; (case h1 => walk_at "el")))
local macro_rules | `(tactic| walk_at "eo") => `(tactic| first
  | exact eo_none
  | (refine' eo_some ?h1; (case h1 => walk_at "ev")))
local macro_rules | `(tactic| walk_at "el") => `(tactic| first
  | (refine' el_lst ?h1 ?h2; (case h1 => walk_at "ea"); (case h2 => exact Nat.le_of_ble_eq_true rfl))
  | (refine' el_cat ?h1 ?h2 ?h3; (case h1 => walk_at "evr"); (case h2 => walk_at "evr"); (case h3 => walk_at "len"))
  | (refine' el_rep ?h1 ?h2 ?h3 ?h4; (case h1 => walk_at "evr"); (case h2 => walk_at "ev"); (case h3 => walk_at "side2"); (case h4 => walk_at "len"))
  | (refine' el_of ?h1; (case h1 => walk_at "evs"))
  | (refine' el_to ?h1 ?h2; (case h1 => walk_at "evs"); (case h2 => walk_at "ev"))
  | (refine' el_from ?h1 ?h2; (case h1 => walk_at "evs"); (case h2 => walk_at "ev"))
  | (refine' el_mid ?h1 ?h2 ?h3; (case h1 => walk_at "evs"); (case h2 => walk_at "ev"); (case h3 => walk_at "ev"))
  | (refine' el_slS ?h1 ?h2 ?h3; (case h1 => walk_at "evs"); (case h2 => walk_at "eo"); (case h3 => walk_at "eo"))
  | walk_at "elmore")
local macro_rules | `(tactic| walk_at "evmore") => `(tactic| first
  | (refine' ev_lenS ?h1; (case h1 => walk_at "evs"))
  | (refine' ev_sum ?h1; (case h1 => walk_at "evs"))
  | (refine' ev_eqI ?h1 ?h2; (case h1 => walk_at "evs"); (case h2 => walk_at "evs"))
  | (refine' ev_neI ?h1 ?h2; (case h1 => walk_at "evs"); (case h2 => walk_at "evs"))
  | (refine' ev_at ?h1 ?h2 ?h3; (case h1 => walk_at "evs"); (case h2 => walk_at "ev"); (case h3 => walk_at "at"))
  | (refine' ev_isiL ?h1 ?h2; (case h1 => walk_at "ev"); (case h2 => walk_at "hp"))
  | walk_at "evown")
local macro_rules | `(tactic| walk_at "at") => `(tactic| first
  | exact at_of rfl (at_int (by assumption))
  | exact at_of rfl (by assumption))
local macro_rules | `(tactic| walk_at "asgL") => `(tactic| (refine' q_asgL ?h ?h1; (case h => walk_at "el")))
local macro_rules | `(tactic| walk_at "retL") => `(tactic| (refine' s_retL ?h ?h1; (case h => walk_at "el")))

/-! ### comprehensions whose items are said in a list -/
theorem et_yes {σ : L2.St} {H : Hp} : EvT tYes σ H true := fun H1 _ _ q => q H1 (Ex.refl H1)
section
variable {K : PySem.W.Frag} {σ : L2.St} {H : Hp} {t1 t2 te : TE} {xs ys zs : List V} {vs : List Nat}
theorem take_snoc {zs : List V} {i : Nat} {z : V} (h : zs[i]? = some z) : zs.take (i + 1) = zs.take i ++ [z] := by
  rw [List.take_add_one, h]
  rfl
theorem el_lcZ {j1 j2 : Nat} (zs : List V) (h1 : EvS K t1 σ H xs) (h2 : EvS K t2 σ H ys) (hz : zs.length = min xs.length ys.length) (hb : zs.length ≤ 50000)
    (hw : ∀ x y, wipe (((wipe σ vs).set j1 (some x)).set j2 (some y)) vs = wipe σ vs)
    (he : ∀ (i : Nat) (x y : V) H1, Ex H H1 → xs[i]? = some x → ys[i]? = some y → ∃ z, zs[i]? = some z ∧ Ev te (((wipe σ vs).set j1 (some x)).set j2 (some y)) H1 z) :
    EvL (tLc (iZip K (tCons t1 (tCons t2 tNil))) (gTup K 2 (gCons (gName j1) (gCons (gName j2) gNil))) tYes te vs) σ H zs := fun H0 e Q q =>
  h1 H0 e _ fun p H1 e1 hp => h2 H1 (e.trans e1) _ fun r H2 e2 hr => ⟨p, r, xs, ys, rfl, ex_l e2 hp, hr, fun D hD =>
    ⟨fun i m H' => m = zs.length - i ∧ i ≤ zs.length ∧ Ex H2 H' ∧ H' D = some (.lst (zs.take i)), ⟨zs.length, rfl, Nat.zero_le _, Ex.new hD, upd_same⟩, by
      rintro i m H' ⟨rfl, hi, ex, hd⟩
      have qx : SqL K H' p xs := ex_l (e2.trans ex) hp
      have qy : SqL K H' r ys := ex_l ex hr
      by_cases hlt : i < zs.length
      · have hx : xs[i]? = some xs[i] := List.getElem?_eq_getElem (by omega)
        have hy : ys[i]? = some ys[i] := List.getElem?_eq_getElem (by omega)
        refine .inr ⟨⟨xs, ys, _, _, qx, qy, hx, hy⟩, fun H3 => i + 1 ≤ zs.length ∧ Ex H2 H3 ∧ H3 D = some (.lst (zs.take (i + 1))), fun H3 h3 => ⟨zs.length - (i + 1), by omega, rfl, h3⟩, fun v H3 hv => ?_⟩
        obtain ⟨T, x, y, rfl, hT, rfl, f1, f2⟩ := hv
        have ex3 : Ex H' (upd H' T (.tup [x, y])) := Ex.new hT
        obtain ⟨z, hz1, hz2⟩ := he i x y (upd H' T (.tup [x, y])) ((((e.trans e1).trans e2).trans ex).trans ex3) (f1 _ qx) (f2 _ qy)
        refine ⟨T, [x, y], rfl, st_of upd_same, rfl, x, [y], rfl, y, [], rfl, rfl, hw x y, ?_⟩
        refine hz2 _ (Ex.refl _) _ fun H4 e4 => ⟨zs.take i, e4 _ _ (ex3 _ _ hd), sz_lt (by rw [List.length_take]; omega), hlt, ?_, ?_⟩
        · exact Ex.mut ((ex.trans ex3).trans e4) hD
        · rw [upd_same, take_snoc hz1]
      · have ei : i = zs.length := by omega
        refine .inl ⟨⟨xs, ys, qx, qy, by omega⟩, ?_⟩
        rw [ei, List.take_length] at hd
        exact q D H' (fresh_back (e1.trans e2) hD) ((e1.trans e2).trans ex) hd⟩⟩
/-- over a list, each item kept -/
theorem el_lcS {j : Nat} (zs : List V) (h1 : EvS K t1 σ H xs) (hz : zs.length = xs.length) (hb : zs.length ≤ 50000) (hw : ∀ x, wipe ((wipe σ vs).set j (some x)) vs = wipe σ vs)
    (he : ∀ (i : Nat) (x : V) H1, Ex H H1 → xs[i]? = some x → ∃ z, zs[i]? = some z ∧ Ev te ((wipe σ vs).set j (some x)) H1 z) :
    EvL (tLc (iList K t1) (gName j) tYes te vs) σ H zs := fun H0 e Q q =>
  h1 H0 e _ fun p H1 e1 hp => ⟨p, rfl, ⟨xs, hp⟩, fun D hD => lc_list (xs := xs) (fun i H' => Ex H1 H' ∧ H' D = some (.lst (zs.take i))) ⟨Ex.new hD, upd_same⟩ (fun i H' _ h => ex_l h.1 hp)
    (fun i x H' hi h => ⟨hw x, by
      obtain ⟨z, hz1, hz2⟩ := he i x H' ((e.trans e1).trans h.1) hi
      have hl : i < xs.length := (List.getElem?_eq_some_iff.mp hi).1
      refine hz2 H' (Ex.refl _) _ fun H4 e4 => ⟨zs.take i, e4 _ _ h.2, sz_lt (by rw [List.length_take]; omega), Ex.mut (h.1.trans e4) hD, ?_⟩
      rw [upd_same, take_snoc hz1]⟩)
    (fun H' h => q D H' (fresh_back e1 hD) (e1.trans h.1) (by rw [h.2, ← hz, List.take_length]))⟩
/-- over range(n) -/
theorem el_lcR {ta : TA} {n : Int} {j : Nat} (zs : List V) (h1 : EvA ta σ H [.int n]) (hn : -100000 ≤ n) (hz : zs.length = n.toNat) (hb : zs.length ≤ 50000) (hw : ∀ x, wipe ((wipe σ vs).set j (some x)) vs = wipe σ vs)
    (he : ∀ (i : Nat) H1, Ex H H1 → i < zs.length → ∃ z, zs[i]? = some z ∧ Ev te ((wipe σ vs).set j (some (.int (i : Int)))) H1 z) :
    EvL (tLc (iRng1 ta) (gName j) tYes te vs) σ H zs := fun H0 e Q q =>
  h1 H0 e _ fun H1 e1 => ⟨n, rfl, by omega, by omega, fun D hD => lc_range (lo := 0) (n := n.toNat) (fun i H' => Ex H1 H' ∧ H' D = some (.lst (zs.take i))) ⟨Ex.new hD, upd_same⟩
    (fun i H' hi h => by
      have e0 : (0 : Int) + (i : Int) = (i : Int) := Int.zero_add _
      rw [e0]
      obtain ⟨z, hz1, hz2⟩ := he i H' ((e.trans e1).trans h.1) (by omega)
      refine ⟨hw _, hz2 H' (Ex.refl _) _ fun H4 e4 => ⟨zs.take i, e4 _ _ h.2, sz_lt (by rw [List.length_take]; omega), Ex.mut (h.1.trans e4) hD, ?_⟩⟩
      rw [upd_same, take_snoc hz1])
    (fun H' h => q D H' (fresh_back e1 hD) (e1.trans h.1) (by rw [h.2, show n.toNat = zs.length by omega, List.take_length]))⟩
end

/-! ### calls with keywords, defaults -/
theorem kwAll1 {K : PySem.W.Frag} {D : Addr} {q : Str × V} (h : ∃ u, PySem.W.nsIn K D q.1 = some (some u) ∧ RelV q.2 u) : ∀ p ∈ [q], ∃ u, PySem.W.nsIn K D p.1 = some (some u) ∧ RelV p.2 u := fun p hp => by
  rcases List.mem_cons.mp hp with rfl | hp
  · exact h
  · cases hp
section
variable {K : PySem.W.Frag} {x qual : Str} {params : Arguments} {body : List Stmt} {scope : Scope} {dvs : List V} {kws : List (Str × V)} {f : Addr} {fd : FuncData} {ps : List Str}
/-- f(a, .., k = v, ..), nothing left to a default, no defaults of place -/
theorem fund_kb0 {g : List Value → List Value → List Value} {gV : List V → List V → List V} (F : FunD K x qual params body scope [] kws f fd) (n : Nat) (ks : List Str)
    (hrel : ∀ {vs : List V} {us : List Value} {zs : List V} {ws : List Value}, Vals vs us → Vals zs ws → Vals (gV vs zs) (g us ws))
    (h : ∀ (kV doc pm : Value) (an : Option Addr) (cdv ct : Value) (us ws : List Value), us.length = n → ws.length = ks.length → bindArgs (PySem.W.fnOf x qual params body scope .none kV doc pm an cdv ct) ⟨us, ks.zip ws⟩ = pure (ps.zip (g us ws))) :
    KBn K fd ps n ks g gV := by
  obtain ⟨oc, od, dV, kV, doc, pm, an, cdv, ct, osl, rfl, lk, hcd, hD, hK⟩ := F.ex
  rcases hD with ⟨_, rfl⟩ | ⟨e, _⟩
  · exact ⟨fun s us ws X l1 l2 => .of_eq (h kV doc pm an cdv ct us ws l1 l2), hrel⟩
  · exact absurd rfl e
/-- the same of a def with defaults of place -/
theorem fund_kb1 {g : List Value → List Value → List Value} {gV : List V → List V → List V} (F : FunD K x qual params body scope dvs kws f fd) (hd : dvs ≠ []) (n : Nat) (ks : List Str)
    (hrel : ∀ {vs : List V} {us : List Value} {zs : List V} {ws : List Value}, Vals vs us → Vals zs ws → Vals (gV vs zs) (g us ws))
    (h : ∀ (T : Addr) (kV doc pm : Value) (an : Option Addr) (cdv ct : Value) (us its ws : List Value), us.length = n → its.length = dvs.length → ws.length = ks.length →
      ∃ k, bindArgs (PySem.W.fnOf x qual params body scope (.ref T) kV doc pm an cdv ct) ⟨us, ks.zip ws⟩ = seqItems? (.ref T) >>= k ∧ k (some its.toArray) = pure (ps.zip (g us ws))) :
    KBn K fd ps n ks g gV := by
  obtain ⟨oc, od, dV, kV, doc, pm, an, cdv, ct, osl, rfl, lk, hcd, hD, hK⟩ := F.ex
  rcases hD with ⟨e, _⟩ | ⟨_, T, o, its, m, rfl, lT, oT, rT⟩
  · exact absurd e hd
  · refine ⟨fun s us ws X l1 l2 => ?_, hrel⟩
    obtain ⟨k, e1, e2⟩ := h T kV doc pm an cdv ct us its ws l1 rT.length.symm l2
    refine BindsTo.of_looks fun M => ?_
    rw [e1]
    exact looks_items X lT oT (.of_pure e2)
end

/-- what the top has left -/
structure TX (K : PySem.W.Frag) (mg : Str → Option Value) where
  a_fixed_residuals : Addr
  d_fixed_residuals : FuncData
  F_fixed_residuals : Fun K "fixed_residuals" "fixed_residuals" s_fixed_residuals a_fixed_residuals d_fixed_residuals
  b_fixed_residuals : Binds K d_fixed_residuals ["samples", "order"] []
  g_fixed_residuals : mg "fixed_residuals" = some (.ref a_fixed_residuals)
  a_fixed_samples : Addr
  d_fixed_samples : FuncData
  F_fixed_samples : FunD K "fixed_samples" "fixed_samples" (defArgs s_fixed_samples) (defBody s_fixed_samples) (defScope s_fixed_samples) [] [("limit", V.non)] a_fixed_samples d_fixed_samples
  e2_fixed_samples : List Value
  v2_fixed_samples : Vals [V.non] e2_fixed_samples
  b2_fixed_samples : Binds K d_fixed_samples ["warm_up", "residuals", "limit"] e2_fixed_samples
  k2_limit_fixed_samples : KBn K d_fixed_samples ["warm_up", "residuals", "limit"] 2 ["limit"] (fun us ws => us ++ ws) (fun us ws => us ++ ws)
  g_fixed_samples : mg "fixed_samples" = some (.ref a_fixed_samples)
  a_prediction : Addr
  d_prediction : FuncData
  F_prediction : Fun K "_prediction" "_prediction" s_prediction a_prediction d_prediction
  b_prediction : Binds K d_prediction ["samples", "order"] []
  g_prediction : mg "_prediction" = some (.ref a_prediction)
  a_law_cell : Addr
  d_law_cell : FuncData
  F_law_cell : Fun K "_law_cell" "_law_cell" s_law_cell a_law_cell d_law_cell
  b_law_cell : Binds K d_law_cell ["script", "k"] []
  g_law_cell : mg "_law_cell" = some (.ref a_law_cell)
  a_law_equal_lists : Addr
  d_law_equal_lists : FuncData
  F_law_equal_lists : Fun K "_law_equal_lists" "_law_equal_lists" s_law_equal_lists a_law_equal_lists d_law_equal_lists
  b_law_equal_lists : Binds K d_law_equal_lists ["actual", "expected"] []
  g_law_equal_lists : mg "_law_equal_lists" = some (.ref a_law_equal_lists)
  a_law_row : Addr
  d_law_row : FuncData
  F_law_row : Fun K "_law_row" "_law_row" s_law_row a_law_row d_law_row
  b_law_row : Binds K d_law_row ["script"] []
  g_law_row : mg "_law_row" = some (.ref a_law_row)
  a_law_predicted : Addr
  d_law_predicted : FuncData
  F_law_predicted : Fun K "_law_predicted" "_law_predicted" s_law_predicted a_law_predicted d_law_predicted
  b_law_predicted : Binds K d_law_predicted ["samples", "order"] []
  g_law_predicted : mg "_law_predicted" = some (.ref a_law_predicted)
  a_law_bound : Addr
  d_law_bound : FuncData
  F_law_bound : Fun K "_law_bound" "_law_bound" s_law_bound a_law_bound d_law_bound
  b_law_bound : Binds K d_law_bound ["cell", "samples"] []
  g_law_bound : mg "_law_bound" = some (.ref a_law_bound)
  a_law : Addr
  d_law : FuncData
  F_law : Fun K "law" "law" s_law a_law d_law
  b_law : Binds K d_law ["script"] []
  g_law : mg "law" = some (.ref a_law)
  m_list : mg "list" = none
  m_range : mg "range" = none
  m_zip : mg "zip" = none
  m_len : mg "len" = none
  m_isinstance : mg "isinstance" = none
  m_int : mg "int" = none
  m_bool : mg "bool" = none
  m_max : mg "max" = none
  m_min : mg "min" = none
section
variable {P : Program} {w : World} {K : PySem.W.Frag} {mg : Str → Option Value} {base : Heap}
def sp_cell (K : PySem.W.Frag) : Sp := fun vs H Q _ => ∃ (a : Addr) (ns : List Int) (k : Int), vs = [.ref a, .int k] ∧ SqL K H a (ns.map V.int) ∧ 0 ≤ k ∧ RetV (.int (cellI ns k)) H Q
theorem ok_law_cell (T : TX K mg) : FnOk P w K mg base CX0 1 T.a_law_cell T.d_law_cell ["script", "k"] (sp_cell K) := by
  refine T.F_law_cell.ok sc_law_cell (fun vs H Q E h => by obtain ⟨a, ns, k, rfl, _⟩ := h; rfl) (fun cdv A outer s H vs Q E hr h => ?_)
  obtain ⟨a, ns, k, rfl, hS, hk, q⟩ := h
  refine ⟨_, (pss_cons (ps_if (pt_cmpR op_lt (pv 1) (pe_callB (r := rLenS K) call_len_seq (by rfl) T.m_len PySem.boot_len (pa_cons (pv 0) pa_nil)) (nomark _)) (pss_one (ps_ret (pe_ix (r := rIxL K) ix_list (pv 0) (pv 1) (fun _ _ => rfl)))) pss_nil)
      (pss_one (ps_ret pe_int))), ?_⟩
  have hl := (ev_lenS (K := K) (Ev.s (te := tVar 0) (σ := start ["script", "k"] [.ref a, .int k]) (ev_var rfl) hS))
  refine q_when (et_test (ev_I0 (ev_var rfl) hl)) ?_ ?_
  · intro hb H1 e1
    have hb : k < ns.length := by
      have := of_decide_eq_true hb
      rwa [List.length_map] at this
    refine s_ret (v := .int (cellI ns k)) (ev_ixS (i := 0) (n := k) (Ev.s (ev_var rfl) (ex_l e1 hS)) (ev_var rfl) ?_) fun H2 e2 => q H2 (e1.trans e2)
    exact at_of (j := k.toNat) (by omega) (at_int (cellI_in hk hb))
  · intro hb H1 e1
    have hb : ¬ k < ns.length := by
      have := of_decide_eq_false hb
      rwa [List.length_map] at this
    walk_at "ret"
    intro H2 e2
    exact ret_eq q (e1.trans e2) (by rw [cellI_out hb])
theorem ev_cell {σ : L2.St} {H : Hp} {ta tk : TE} {E : XK} {ns : List Int} {k : Int} {a : Addr} (ha : Ev ta σ H (.ref a)) (hS : SqL K H a (ns.map V.int)) (hk : Ev tk σ H (.int k)) (h0 : 0 ≤ k) : Ev (tCall (sp_cell K) [] E (tCons ta (tCons tk tNil))) σ H (.int (cellI ns k)) :=
  ev_call (ea_cons ha (ea_cons hk ea_nil)) fun H1 e Q q _ => ⟨a, ns, k, rfl, ex_l e hS, h0, q⟩
local macro_rules | `(tactic| walk_at "evown") => `(tactic| (refine' ev_cell ?h1 ?h2 ?h3 ?h4; (case h1 => exact ev_var rfl); (case h2 => walk_at "sq"); (case h3 => walk_at "ev"); (case h4 => walk_at "side")))

/-! ### the mathematics of the fixed predictors -/
def diffs (xs : List Int) : List Int := List.zipWith (fun e l => l - e) xs (xs.drop 1)
def diffsN : Nat → List Int → List Int
  | 0, xs => xs
  | o + 1, xs => diffs (diffsN o xs)
theorem diffs_len (xs : List Int) : (diffs xs).length = xs.length - 1 := by
  unfold diffs
  rw [List.length_zipWith, List.length_drop]
  omega
theorem diffs_get {xs : List Int} {i : Nat} {x y : Int} (h1 : xs[i]? = some x) (h2 : xs[i + 1]? = some y) : (diffs xs)[i]? = some (y - x) := by
  unfold diffs
  rw [List.getElem?_zipWith, h1, List.getElem?_drop, Nat.add_comm 1 i, h2]
theorem diffsN_len (xs : List Int) : ∀ o, (diffsN o xs).length = xs.length - o
  | 0 => rfl
  | o + 1 => by
    show (diffs (diffsN o xs)).length = _
    rw [diffs_len, diffsN_len xs o]
    omega
/-- an item, 0 beyond -/
def gi (xs : List Int) (i : Nat) : Int := xs.getD i 0
theorem gi_get {xs : List Int} {i : Nat} (h : i < xs.length) : xs[i]? = some (gi xs i) := by
  unfold gi
  rw [List.getD_eq_getElem?_getD, List.getElem?_eq_getElem h]
  rfl
theorem gi_of {xs : List Int} {i : Nat} {x : Int} (h : xs[i]? = some x) : gi xs i = x := by
  unfold gi
  rw [List.getD_eq_getElem?_getD, h]
  rfl
theorem gi_diffs {xs : List Int} {i : Nat} (h : i + 1 < xs.length) : gi (diffs xs) i = gi xs (i + 1) - gi xs i :=
  gi_of (diffs_get (gi_get (by omega)) (gi_get h))
theorem gi_take {xs : List Int} {i n : Nat} (h : i < n) : gi (xs.take n) i = gi xs i := by
  unfold gi
  rw [List.getD_eq_getElem?_getD, List.getD_eq_getElem?_getD, List.getElem?_take, if_pos h]
theorem gi_diffs2 {xs : List Int} {i : Nat} (h : i + 2 < xs.length) : gi (diffs (diffs xs)) i = gi xs (i + 2) - 2 * gi xs (i + 1) + gi xs i := by
  have h1 := gi_diffs (xs := diffs xs) (i := i) (by rw [diffs_len]; omega)
  have h2 := gi_diffs (xs := xs) (i := i + 1) (by omega)
  have h3 := gi_diffs (xs := xs) (i := i) (by omega)
  rw [h1, h2, h3, show i + 1 + 1 = i + 2 by omega]
  omega
theorem gi_diffs3 {xs : List Int} {i : Nat} (h : i + 3 < xs.length) : gi (diffs (diffs (diffs xs))) i = gi xs (i + 3) - 3 * gi xs (i + 2) + 3 * gi xs (i + 1) - gi xs i := by
  have h1 := gi_diffs2 (xs := diffs xs) (i := i) (by rw [diffs_len]; omega)
  have h2 := gi_diffs (xs := xs) (i := i + 2) (by omega)
  have h3 := gi_diffs (xs := xs) (i := i + 1) (by omega)
  have h4 := gi_diffs (xs := xs) (i := i) (by omega)
  rw [h1, h2, h3, h4, show i + 2 + 1 = i + 3 by omega, show i + 1 + 1 = i + 2 by omega]
  omega
theorem gi_diffs4 {xs : List Int} {i : Nat} (h : i + 4 < xs.length) : gi (diffs (diffs (diffs (diffs xs)))) i = gi xs (i + 4) - 4 * gi xs (i + 3) + 6 * gi xs (i + 2) - 4 * gi xs (i + 1) + gi xs i := by
  have h1 := gi_diffs3 (xs := diffs xs) (i := i) (by rw [diffs_len]; omega)
  have h2 := gi_diffs (xs := xs) (i := i + 3) (by omega)
  have h3 := gi_diffs (xs := xs) (i := i + 2) (by omega)
  have h4 := gi_diffs (xs := xs) (i := i + 1) (by omega)
  have h5 := gi_diffs (xs := xs) (i := i) (by omega)
  rw [h1, h2, h3, h4, h5, show i + 3 + 1 = i + 4 by omega, show i + 2 + 1 = i + 3 by omega, show i + 1 + 1 = i + 2 by omega]
  omega
/-- the prediction behind xs -/
def predF (o : Nat) (xs : List Int) : Int :=
  if o = 0 then 0
  else if o = 1 then gi xs (xs.length - 1)
  else if o = 2 then 2 * gi xs (xs.length - 1) - gi xs (xs.length - 2)
  else if o = 3 then 3 * gi xs (xs.length - 1) - 3 * gi xs (xs.length - 2) + gi xs (xs.length - 3)
  else 4 * gi xs (xs.length - 1) - 6 * gi xs (xs.length - 2) + 4 * gi xs (xs.length - 3) - gi xs (xs.length - 4)
theorem pred_diffs {xs : List Int} {o i : Nat} (ho : o ≤ 4) (h : o + i < xs.length) : predF o (xs.take (o + i)) + gi (diffsN o xs) i = gi xs (o + i) := by
  have hl : (xs.take (o + i)).length = o + i := by rw [List.length_take]; omega
  have h4 : o = 0 ∨ o = 1 ∨ o = 2 ∨ o = 3 ∨ o = 4 := by omega
  rcases h4 with rfl | rfl | rfl | rfl | rfl
  · unfold predF
    rw [if_pos rfl, Nat.zero_add, Int.zero_add]
    rfl
  · unfold predF
    rw [if_neg (by decide), if_pos rfl, hl, gi_take (by omega)]
    show _ + gi (diffs xs) i = _
    rw [gi_diffs (by omega), show 1 + i - 1 = i by omega, show 1 + i = i + 1 by omega]
    omega
  · unfold predF
    rw [if_neg (by decide), if_neg (by decide), if_pos rfl, hl, gi_take (by omega), gi_take (by omega)]
    show _ + gi (diffs (diffs xs)) i = _
    rw [gi_diffs2 (by omega), show 2 + i - 1 = i + 1 by omega, show 2 + i - 2 = i by omega, show 2 + i = i + 2 by omega]
    omega
  · unfold predF
    rw [if_neg (by decide), if_neg (by decide), if_neg (by decide), if_pos rfl, hl, gi_take (by omega), gi_take (by omega), gi_take (by omega)]
    show _ + gi (diffs (diffs (diffs xs))) i = _
    rw [gi_diffs3 (by omega), show 3 + i - 1 = i + 2 by omega, show 3 + i - 2 = i + 1 by omega, show 3 + i - 3 = i by omega, show 3 + i = i + 3 by omega]
    omega
  · unfold predF
    rw [if_neg (by decide), if_neg (by decide), if_neg (by decide), if_neg (by decide), hl, gi_take (by omega), gi_take (by omega), gi_take (by omega), gi_take (by omega)]
    show _ + gi (diffs (diffs (diffs (diffs xs)))) i = _
    rw [gi_diffs4 (by omega), show 4 + i - 1 = i + 3 by omega, show 4 + i - 2 = i + 2 by omega, show 4 + i - 3 = i + 1 by omega, show 4 + i - 4 = i by omega, show 4 + i = i + 4 by omega]
    omega
/-- within the limit -/
def within (lim : Option Int) (s : Int) : Bool := match lim with
  | none => true
  | some l => decide (-l ≤ s) && decide (s < l)
/-- the samples -/
def fsam (lim : Option Int) (o : Nat) : List Int → List Int → List Int
  | acc, [] => acc
  | acc, r :: rs => if within lim (predF o acc + r) = true then fsam lim o (acc ++ [predF o acc + r]) rs else acc
theorem take_snoc_gi {xs : List Int} {n : Nat} (h : n < xs.length) : xs.take (n + 1) = xs.take n ++ [gi xs n] := by
  rw [List.take_add_one, gi_get h]
  rfl
theorem drop_cons_gi {xs : List Int} {n : Nat} (h : n < xs.length) : xs.drop n = gi xs n :: xs.drop (n + 1) := by
  rw [List.drop_eq_getElem_cons h, Option.some.inj ((List.getElem?_eq_getElem h).symm.trans (gi_get h))]
theorem fsam_from {xs : List Int} {o : Nat} (ho : o ≤ 4) (hx : o ≤ xs.length) : ∀ k i, o + i + k = xs.length → fsam none o (xs.take (o + i)) ((diffsN o xs).drop i) = xs
  | 0, i, h => by
    rw [List.drop_of_length_le (by rw [diffsN_len]; omega)]
    show xs.take (o + i) = xs
    exact List.take_of_length_le (by omega)
  | k + 1, i, h => by
    rw [drop_cons_gi (by rw [diffsN_len]; omega)]
    show (if within none _ = true then _ else _) = xs
    rw [if_pos (show within none _ = true from rfl), pred_diffs ho (by omega), ← take_snoc_gi (by omega)]
    exact fsam_from ho hx k (i + 1) (by omega)
theorem fsam_diffs {xs : List Int} {o : Nat} (ho : o ≤ 4) (hx : o ≤ xs.length) : fsam none o (xs.take o) (diffsN o xs) = xs :=
  fsam_from ho hx (xs.length - o) 0 (by omega)
theorem fsam_len (o : Nat) : ∀ (rs acc : List Int), (fsam none o acc rs).length = acc.length + rs.length
  | [], acc => rfl
  | r :: rs, acc => by
    show (if within none _ = true then _ else _ : List Int).length = _
    rw [if_pos (show within none _ = true from rfl), fsam_len o rs]
    simp only [List.length_append, List.length_cons, List.length_nil]
    omega
theorem fsam_pre (o : Nat) : ∀ (rs acc : List Int) (n : Nat), n ≤ acc.length → (fsam none o acc rs).take n = acc.take n
  | [], acc, n, _ => rfl
  | r :: rs, acc, n, h => by
    show (if within none _ = true then _ else _ : List Int).take n = _
    rw [if_pos (show within none _ = true from rfl), fsam_pre o rs _ n (by rw [List.length_append]; omega), List.take_append_of_le_length h]
theorem gi_pre {xs ys : List Int} {n i : Nat} (h : xs.take n = ys.take n) (hi : i < n) : gi xs i = gi ys i := by
  rw [← gi_take (xs := xs) hi, h, gi_take hi]
theorem fsam_snoc (o : Nat) (rs acc : List Int) (z : Int) : gi (fsam none o (acc ++ [z]) rs) acc.length = z := by
  rw [gi_pre (ys := acc ++ [z]) (n := acc.length + 1) (fsam_pre o rs _ _ (by rw [List.length_append]; exact Nat.le_refl _)) (by omega)]
  unfold gi
  rw [List.getD_eq_getElem?_getD, List.getElem?_append_right (Nat.le_refl _), Nat.sub_self]
  rfl
/-- with a limit: the samples before the first one that exceeds it -/
theorem fsam_lim {o : Nat} {b : Int} : ∀ (rs acc : List Int) (j : Nat), acc.length ≤ j → (∀ t, acc.length ≤ t → t < j → within (some b) (gi (fsam none o acc rs) t) = true) → j ≤ (fsam none o acc rs).length →
    (j < (fsam none o acc rs).length → within (some b) (gi (fsam none o acc rs) j) = false) → fsam (some b) o acc rs = (fsam none o acc rs).take j
  | [], acc, j, h1, _, h3, _ => by
    show acc = acc.take j
    rw [List.take_of_length_le h1]
  | r :: rs, acc, j, h1, h2, h3, h4 => by
    have e : fsam none o acc (r :: rs) = fsam none o (acc ++ [predF o acc + r]) rs := by
      show (if within none _ = true then _ else _ : List Int) = _
      rw [if_pos (show within none _ = true from rfl)]
    rw [e] at h2 h3 h4 ⊢
    show (if within (some b) (predF o acc + r) = true then fsam (some b) o (acc ++ [predF o acc + r]) rs else acc) = _
    by_cases hj : j = acc.length
    · subst hj
      have h5 := h4 (by rw [fsam_len, List.length_append]; show acc.length < acc.length + 1 + _; omega)
      rw [fsam_snoc] at h5
      rw [if_neg (by rw [h5]; decide), fsam_pre o rs _ _ (by rw [List.length_append]; omega), List.take_append_of_le_length (Nat.le_refl _), List.take_length]
    · have h5 := h2 acc.length (Nat.le_refl _) (by omega)
      rw [fsam_snoc] at h5
      rw [if_pos h5]
      exact fsam_lim rs _ j (by rw [List.length_append]; show acc.length + 1 ≤ j; omega) (fun t ht => h2 t (by rw [List.length_append] at ht; omega)) h3 h4
theorem fsam_get (o : Nat) : ∀ (rs acc : List Int) (i : Nat), i < rs.length → gi (fsam none o acc rs) (acc.length + i) = predF o ((fsam none o acc rs).take (acc.length + i)) + gi rs i
  | r :: rs, acc, i, h => by
    have e : fsam none o acc (r :: rs) = fsam none o (acc ++ [predF o acc + r]) rs := by
      show (if within none _ = true then _ else _ : List Int) = _
      rw [if_pos (show within none _ = true from rfl)]
    rw [e]
    cases i with
    | zero =>
      rw [Nat.add_zero, fsam_snoc, fsam_pre o rs _ _ (by rw [List.length_append]; omega), List.take_append_of_le_length (Nat.le_refl _), List.take_length]
      rfl
    | succ i =>
      have h1 := fsam_get o rs (acc ++ [predF o acc + r]) i (by rw [List.length_cons] at h; omega)
      rw [List.length_append] at h1
      rw [show acc.length + (i + 1) = acc.length + [predF o acc + r].length + i by show _ = acc.length + 1 + i; omega, h1]
      rfl
theorem ext_gi {xs ys : List Int} (hl : xs.length = ys.length) (h : ∀ i, i < xs.length → gi xs i = gi ys i) : xs = ys := by
  refine List.ext_getElem? fun i => ?_
  by_cases hi : i < xs.length
  · rw [gi_get hi, gi_get (by omega), h i hi]
  · rw [List.getElem?_eq_none (by omega), List.getElem?_eq_none (by omega)]
theorem diffs_fsam {ws rs : List Int} (h : ws.length ≤ 4) : diffsN ws.length (fsam none ws.length ws rs) = rs := by
  refine ext_gi (by rw [diffsN_len, fsam_len]; omega) fun i hi => ?_
  rw [diffsN_len, fsam_len] at hi
  have h1 := pred_diffs (xs := fsam none ws.length ws rs) (o := ws.length) (i := i) h (by rw [fsam_len]; omega)
  have h2 := fsam_get ws.length rs ws i (by omega)
  omega

def sp_fixed_residuals (K : PySem.W.Frag) : Sp := fun vs H Q _ => ∃ (a : Addr) (ns : List Int) (o : Nat), vs = [.ref a, .int o] ∧ SqL K H a (ns.map V.int) ∧ ns.length ≤ 10000 ∧ o ≤ 1000 ∧ RetL ((diffsN o ns).map V.int) H Q
theorem ok_fixed_residuals (T : TX K mg) : FnOk P w K mg base CX0 1 T.a_fixed_residuals T.d_fixed_residuals ["samples", "order"] (sp_fixed_residuals K) := by
  refine T.F_fixed_residuals.ok sc_fixed_residuals (fun vs H Q E h => by obtain ⟨a, ns, o, rfl, _⟩ := h; rfl) (fun cdv A outer s H vs Q E hr h => ?_)
  obtain ⟨a, ns, o, rfl, hS, hl, ho, k⟩ := h
  refine ⟨_, (pss_cons (ps_set (i := 2) sc_fixed_residuals.nd rfl (Or.inl rfl) (pe_callTy (r := rListS K) call_list_of (by rfl) T.m_list PyProof.Rows.boot_list (pa_cons (pv 0) pa_nil)))
      (pss_cons (ps_for PassesOwn.never rfl (pi_range1 (by rfl) T.m_range (pa_cons (pv 1) pa_nil)) (pg_name (i := 3) sc_fixed_residuals.nd rfl (Or.inl rfl)) (pss_one (ps_setLc (i := 2) (own := [("early", 4), ("late", 5)]) (g := (gTup K 2 (gCons (gName 4) (gCons (gName 5) gNil)))) (tt := tYes) rfl sc_fixed_residuals.nd rfl rfl (sw_true rfl rfl rfl (by decide +kernel)) (pi_zip (by rfl) T.m_zip (pa_cons (pv 2) (pa_cons (pe_slice (r := rSlL K) sl_list (pv 2) (po_some pe_int) po_none) pa_nil))) (blkOk_by (N := ["samples", "order", "residuals", "_", "early", "late"]) (sc := defScope s_fixed_residuals) (by decide +kernel)) (fun _ _ _ _ _ => (pg_tup rfl (pgs_cons (pg_name (i := 4) sc_fixed_residuals.nd rfl (Or.inl rfl)) (pgs_cons (pg_name (i := 5) sc_fixed_residuals.nd rfl (Or.inl rfl)) pgs_nil)))) (fun _ _ _ _ _ => pts_nil) (fun _ _ _ _ _ => (pe_op op_sub (pv 5) (pv 4))))))
      (pss_one (ps_ret (pv 2))))), ?_⟩
  walk_at "asgL"
  intro p H1 hp e1 g1
  refine q_forR1 (n := o) (by walk_at "ea") (by omega) (fun i σ' H' => ∃ p' z, σ' = [some (.ref a), some (.int o), some (.ref p'), z, none, none] ∧ Ex H H' ∧ H p' = none ∧ H' p' = some (.lst ((diffsN i ns).map V.int)))
    (fun H2 e2 => ⟨p, none, rfl, e1.trans e2, hp, e2 _ _ g1⟩) ?_ ?_
  · rintro i σ' H' hi ⟨p', z, rfl, e, hp', g⟩
    refine s_asgL (el_lcZ ((diffsN (i + 1) ns).map V.int) (Ev.s (ev_var rfl) (sq_of g)) (ys := ((diffsN i ns).drop 1).map V.int) (EvR.s (EvL.r (el_from (K := K) (i := 1) (by walk_at "evs") ev_c))) ?_ ?_ (fun x y => rfl) ?_) fun p2 H2 hp2 e2 g2 => ⟨p2, _, rfl, e.trans e2, fresh_back e hp2, g2⟩
    · show (List.map V.int (diffs (diffsN i ns))).length = _
      rw [List.length_map, diffs_len, List.length_map, List.length_map, List.length_drop]
      omega
    · rw [List.length_map, diffsN_len]
      omega
    · intro j x y H2 e2 hx hy
      obtain ⟨n, hn, hj, rfl⟩ := int_at hx
      obtain ⟨m, hm, hj2, rfl⟩ := int_at hy
      rw [List.getElem?_drop, Nat.add_comm 1 j] at hm
      refine ⟨.int (m - n), at_int (diffs_get hn hm), ?_⟩
      walk_at "ev"
  · rintro σ' H' ⟨p', z, rfl, e, hp', g⟩
    rw [Int.toNat_natCast] at g
    walk_at "ret"
    intro H2 e2
    exact k p' H2 hp' (e.trans e2) (e2 _ _ g)
theorem el_fixres {σ : L2.St} {H : Hp} {t1 t2 : TE} {E : XK} {ns : List Int} {o : Nat} (h1 : EvS K t1 σ H (ns.map V.int)) (h2 : Ev t2 σ H (.int o)) (hl : ns.length ≤ 10000) (ho : o ≤ 1000) :
    EvL (tCall (sp_fixed_residuals K) [] E (tCons t1 (tCons t2 tNil))) σ H ((diffsN o ns).map V.int) := fun H1 e Q q =>
  h1 H1 e _ fun p H2 e2 hp => h2 H2 (e.trans e2) _ fun H3 e3 => ⟨p, ns, o, rfl, ex_l e3 hp, hl, ho, fun r H4 hr e4 g4 => q r H4 (fresh_back (e2.trans e3) hr) ((e2.trans e3).trans e4) g4⟩
def sp_prediction (K : PySem.W.Frag) : Sp := fun vs H Q _ => ∃ (a : Addr) (ns : List Int) (o : Nat), vs = [.ref a, .int o] ∧ SqL K H a (ns.map V.int) ∧ o ≤ 4 ∧ o ≤ ns.length ∧ RetV (.int (predF o ns)) H Q
theorem at_last {ns : List Int} {j : Nat} (h1 : 1 ≤ j) (h2 : j ≤ ns.length) : atI (ns.map V.int) (-(j : Int)) = some (.int (gi ns (ns.length - j))) := by
  unfold atI ixN
  rw [if_neg (by omega), if_pos (by rw [List.length_map]; omega), List.length_map, show ((-(j : Int)) + (ns.length : Int)).toNat = ns.length - j by omega]
  exact at_int (gi_get (by omega))
theorem ev_back {σ : L2.St} {H : Hp} {tl : TE} {ns : List Int} (j : Nat) {i : Int} (h : EvS K tl σ H (ns.map V.int)) (h1 : 1 ≤ j) (h2 : j ≤ ns.length) (hi : i = (j : Int)) :
    Ev (tOp (rIxL K) tl (tUn (rU fun i => .int (-i)) (tC (.int i)))) σ H (.int (gi ns (ns.length - j))) := by
  subst hi
  exact ev_ixS (i := 0) h (ev_negI ev_c) (at_last h1 h2)
theorem dec_nat {a : Nat} {b : Int} {c : Nat} (hb : b = (c : Int)) {x : Bool} (h : decide (V.int (a : Int) = V.int b) = x) : decide (a = c) = x := by
  subst hb
  rw [← h]
  by_cases e : a = c
  · subst e
    simp
  · rw [decide_eq_false e, decide_eq_false]
    intro z
    exact e (Int.ofNat.inj (V.int.inj z))
theorem ok_prediction (T : TX K mg) : FnOk P w K mg base CX0 1 T.a_prediction T.d_prediction ["samples", "order"] (sp_prediction K) := by
  refine T.F_prediction.ok sc_prediction (fun vs H Q E h => by obtain ⟨a, ns, o, rfl, _⟩ := h; rfl) (fun cdv A outer s H vs Q E hr h => ?_)
  obtain ⟨a, ns, o, rfl, hS, ho, hl, k⟩ := h
  refine ⟨_, (pss_cons (ps_if (pt_cmpR op_eq (pv 1) pe_int (nomark _)) (pss_one (ps_ret pe_int)) pss_nil)
      (pss_cons (ps_if (pt_cmpR op_eq (pv 1) pe_int (nomark _)) (pss_one (ps_ret (pe_ix (r := rIxL K) ix_list (pv 0) (pe_un un_neg pe_int) (fun _ _ => rfl)))) pss_nil)
      (pss_cons (ps_if (pt_cmpR op_eq (pv 1) pe_int (nomark _)) (pss_one (ps_ret (pe_op op_sub (pe_op op_mul pe_int (pe_ix (r := rIxL K) ix_list (pv 0) (pe_un un_neg pe_int) (fun _ _ => rfl))) (pe_ix (r := rIxL K) ix_list (pv 0) (pe_un un_neg pe_int) (fun _ _ => rfl))))) pss_nil)
      (pss_cons (ps_if (pt_cmpR op_eq (pv 1) pe_int (nomark _)) (pss_one (ps_ret (pe_op op_add (pe_op op_sub (pe_op op_mul pe_int (pe_ix (r := rIxL K) ix_list (pv 0) (pe_un un_neg pe_int) (fun _ _ => rfl))) (pe_op op_mul pe_int (pe_ix (r := rIxL K) ix_list (pv 0) (pe_un un_neg pe_int) (fun _ _ => rfl)))) (pe_ix (r := rIxL K) ix_list (pv 0) (pe_un un_neg pe_int) (fun _ _ => rfl))))) pss_nil)
      (pss_one (ps_ret (pe_op op_sub (pe_op op_add (pe_op op_sub (pe_op op_mul pe_int (pe_ix (r := rIxL K) ix_list (pv 0) (pe_un un_neg pe_int) (fun _ _ => rfl))) (pe_op op_mul pe_int (pe_ix (r := rIxL K) ix_list (pv 0) (pe_un un_neg pe_int) (fun _ _ => rfl)))) (pe_op op_mul pe_int (pe_ix (r := rIxL K) ix_list (pv 0) (pe_un un_neg pe_int) (fun _ _ => rfl)))) (pe_ix (r := rIxL K) ix_list (pv 0) (pe_un un_neg pe_int) (fun _ _ => rfl))))))))), ?_⟩
  walk_at "when"
  · intro hb H1 e1
    have hb := of_decide_eq_true (dec_nat (c := 0) rfl hb)
    subst hb
    walk_at "ret"
    intro H2 e2
    exact ret_eq k (e1.trans e2) rfl
  intro hb H1 e1
  have hb1 := of_decide_eq_false (dec_nat (c := 0) rfl hb)
  walk_at "when"
  · intro hb H2 e2
    have hb := of_decide_eq_true (dec_nat (c := 1) rfl hb)
    subst hb
    refine s_ret (ev_back (K := K) (ns := ns) 1 (by walk_at "evs") (by omega) (by omega) rfl) fun H3 e3 => ?_
    exact ret_eq k ((e1.trans e2).trans e3) rfl
  intro hb H2 e2
  have hb2 := of_decide_eq_false (dec_nat (c := 1) rfl hb)
  walk_at "when"
  · intro hb H3 e3
    have hb := of_decide_eq_true (dec_nat (c := 2) rfl hb)
    subst hb
    have b1 : ∀ H4, Ex H H4 → Ev _ _ H4 _ := fun H4 e4 => ev_back (K := K) (ns := ns) (σ := start ["samples", "order"] [.ref a, .int ((2 : Nat) : Int)]) (tl := tVar 0) 1 (Ev.s (ev_var rfl) (ex_l e4 hS)) (by omega) (by omega) rfl
    have b2 : ∀ H4, Ex H H4 → Ev _ _ H4 _ := fun H4 e4 => ev_back (K := K) (ns := ns) (σ := start ["samples", "order"] [.ref a, .int ((2 : Nat) : Int)]) (tl := tVar 0) 2 (Ev.s (ev_var rfl) (ex_l e4 hS)) (by omega) (by omega) rfl
    have ex := (e1.trans e2).trans e3
    refine s_ret (ev_I0 (ev_I ev_c (b1 _ ex) (by walk_at "side")) (b2 _ ex)) fun H4 e4 => ?_
    exact ret_eq k (ex.trans e4) rfl
  intro hb H3 e3
  have hb3 := of_decide_eq_false (dec_nat (c := 2) rfl hb)
  walk_at "when"
  · intro hb H4 e4
    have hb := of_decide_eq_true (dec_nat (c := 3) rfl hb)
    subst hb
    have b : ∀ j : Nat, 1 ≤ j → j ≤ 3 → ∀ (i : Int), i = (j : Int) → ∀ H4, Ex H H4 → Ev (tOp (rIxL K) (tVar 0) (tUn (rU fun i => .int (-i)) (tC (.int i)))) (start ["samples", "order"] [.ref a, .int ((3 : Nat) : Int)]) H4 (.int (gi ns (ns.length - j))) :=
      fun j h1 h2 i hi H4 e4 => ev_back (K := K) (ns := ns) j (Ev.s (ev_var rfl) (ex_l e4 hS)) h1 (by omega) hi
    have ex := ((e1.trans e2).trans e3).trans e4
    refine s_ret (ev_I0 (ev_I0 (ev_I ev_c (b 1 (by omega) (by omega) 1 rfl _ ex) (by walk_at "side")) (ev_I ev_c (b 2 (by omega) (by omega) 2 rfl _ ex) (by walk_at "side"))) (b 3 (by omega) (by omega) 3 rfl _ ex)) fun H5 e5 => ?_
    exact ret_eq k (ex.trans e5) rfl
  intro hb H4 e4
  have hb4 := of_decide_eq_false (dec_nat (c := 3) rfl hb)
  have hb : o = 4 := by omega
  subst hb
  have b : ∀ j : Nat, 1 ≤ j → j ≤ 4 → ∀ (i : Int), i = (j : Int) → ∀ H4, Ex H H4 → Ev (tOp (rIxL K) (tVar 0) (tUn (rU fun i => .int (-i)) (tC (.int i)))) (start ["samples", "order"] [.ref a, .int ((4 : Nat) : Int)]) H4 (.int (gi ns (ns.length - j))) :=
    fun j h1 h2 i hi H4 e4 => ev_back (K := K) (ns := ns) j (Ev.s (ev_var rfl) (ex_l e4 hS)) h1 (by omega) hi
  have ex := ((e1.trans e2).trans e3).trans e4
  refine s_ret (ev_I0 (ev_I0 (ev_I0 (ev_I ev_c (b 1 (by omega) (by omega) 1 rfl _ ex) (by walk_at "side")) (ev_I ev_c (b 2 (by omega) (by omega) 2 rfl _ ex) (by walk_at "side"))) (ev_I ev_c (b 3 (by omega) (by omega) 3 rfl _ ex) (by walk_at "side"))) (b 4 (by omega) (by omega) 4 rfl _ ex)) fun H5 e5 => ?_
  exact ret_eq k (ex.trans e5) rfl
theorem ev_pred {σ : L2.St} {H : Hp} {t1 t2 : TE} {E : XK} {ns : List Int} {o : Nat} (h1 : EvS K t1 σ H (ns.map V.int)) (h2 : Ev t2 σ H (.int o)) (ho : o ≤ 4) (hl : o ≤ ns.length) :
    Ev (tCall (sp_prediction K) [] E (tCons t1 (tCons t2 tNil))) σ H (.int (predF o ns)) := fun H1 e Q q =>
  h1 H1 e _ fun p H2 e2 hp => h2 H2 (e.trans e2) _ fun H3 e3 => ⟨p, ns, o, rfl, ex_l e3 hp, ho, hl, fun H4 e4 => q H4 ((e2.trans e3).trans e4)⟩
def limV : Option Int → V
  | none => .non
  | some l => .int l
def sp_fixed_samples (K : PySem.W.Frag) : Sp := fun vs H Q _ => ∃ (a b : Addr) (ws rs : List Int) (lim : Option Int), vs = [.ref a, .ref b, limV lim] ∧ SqL K H a (ws.map V.int) ∧ SqL K H b (rs.map V.int) ∧ ws.length ≤ 4 ∧ rs.length ≤ 10000 ∧ RetL ((fsam lim ws.length ws rs).map V.int) H Q
theorem ok_fixed_samples (T : TX K mg) : FnOk P w K mg base CX0 2 T.a_fixed_samples T.d_fixed_samples ["warm_up", "residuals", "limit"] (sp_fixed_samples K) := by
  refine T.F_fixed_samples.ok sc_fixed_samples (fun vs H Q E h => by obtain ⟨a, b, ws, rs, lim, rfl, _⟩ := h; rfl) (fun cdv A outer s H vs Q E hr h => ?_)
  obtain ⟨a, b, ws, rs, lim, rfl, hS, hS2, hl, hl2, k⟩ := h
  refine ⟨_, PSs.nox (pss_cons (ps_set (i := 3) sc_fixed_samples.nd rfl (Or.inl rfl) (pe_callB (r := rLenS K) call_len_seq (by rfl) T.m_len PySem.boot_len (pa_cons (pv 0) pa_nil)))
      (pss_cons (ps_set (i := 4) sc_fixed_samples.nd rfl (Or.inl rfl) (pe_callTy (r := rListS K) call_list_of (by rfl) T.m_list PyProof.Rows.boot_list (pa_cons (pv 0) pa_nil)))
      (pss_cons (ps_for PassesOwn.never rfl (pi_list (pv 1)) (pg_name (i := 5) sc_fixed_samples.nd rfl (Or.inl rfl)) (pss_cons (ps_set (i := 6) sc_fixed_samples.nd rfl (Or.inl rfl) (pe_op op_add (pe_call (ok_prediction T) (hr.mono (by decide)) (by rfl) T.g_prediction T.F_prediction.kp T.b_prediction .nil pass0 (pa_cons (pv 4) (pa_cons (pv 3) pa_nil))) (pv 5)))
        (pss_cons (ps_if (PW.pt (pw_and (pt_cmpR op_notN1 (pv 2) pe_non (nomark _)) (pw_and1 (pt_not (pt_chain op_le op_lt (pe_un un_neg (pv 2)) (pv 6) (pv 2)))))) (pss_one ps_break) pss_nil)
        (pss_one (ps_expr (pe_bm PySem.F.plainAttrs_list PySem.F.slot_list_append PySem.F.type_list_append mt_append (pv 4) (pa_cons (pv 6) pa_nil)))))))
      (pss_one (ps_ret (pv 4)))))), ?_⟩
  refine q_asg (v := .int (ws.length : Int)) (ev_is (by walk_at "ev") (by rw [List.length_map])) fun H1 e1 => ?_
  walk_at "asgL"
  intro p H2 hp2 e2 g2
  have hp : H p = none := fresh_back e1 hp2
  generalize ho : ws.length = o at *
  have fin : ∀ (acc : List Int) σ' H', σ'[4]? = some (some (.ref p)) → Ex H H' → H' p = some (.lst (acc.map V.int)) → fsam lim o ws rs = acc → tRet (tVar 4) { nx := fun x H' => Q V.non H', rt := Q } σ' H' := fun acc σ' H' hv e g hf => by
    refine s_ret (ev_var hv) fun H3 e3 => ?_
    exact k p H3 hp (e.trans e3) (by rw [hf]; exact e3 _ _ g)
  refine q_forLn (xs := rs.map V.int) (a := b) (ev_var rfl) (by walk_at "sq") (fun i σ' H' => ∃ acc x5 x6, σ' = [some (.ref a), some (.ref b), some (limV lim), some (.int o), some (.ref p), x5, x6] ∧ Ex H H' ∧ H' p = some (.lst (acc.map V.int)) ∧ o ≤ acc.length ∧ acc.length ≤ 4 + i ∧ fsam lim o ws rs = fsam lim o acc (rs.drop i))
    (fun H3 e3 => ⟨ws, none, none, rfl, (e1.trans e2).trans e3, e3 _ _ g2, by omega, by omega, rfl⟩) (fun i σ' H' _ ⟨_, _, _, _, e, _⟩ => ex_l e hS2) ?_ ?_
  · rintro i x σ' H' hx ⟨acc, x5, x6, rfl, e, g, ha, hb, hf⟩
    obtain ⟨n, hn, hi, rfl⟩ := int_at hx
    rw [drop_cons_gi hi, gi_of hn] at hf
    refine q_asg (v := .int (predF o acc + n)) (ev_I0 (ev_pred (K := K) (ns := acc) (o := o) (by walk_at "evs") (ev_var rfl) (by omega) ha) (ev_var rfl)) fun H3 e3 => ?_
    generalize hs : predF o acc + n = z at *
    have hf : fsam lim o ws rs = if within lim z = true then fsam lim o (acc ++ [z]) (rs.drop (i + 1)) else acc := by
      rw [hf]
      show (if within lim (predF o acc + n) = true then fsam lim o (acc ++ [predF o acc + n]) (rs.drop (i + 1)) else acc) = _
      rw [hs]
    refine q_when (b := !within lim z) ?_ (fun hb H4 e4 => ?_) fun hb H4 e4 => ?_
    · cases lim with
      | none => exact et_is (et_and (a := false) (b := true) (et_is (by walk_at "et") (by decide)) (fun h => by cases h)) rfl
      | some l => exact et_is (by walk_at "et") (by simp [within, limV])
    · refine fin acc _ _ rfl ((e.trans e3).trans e4) (e4 _ _ (e3 _ _ g)) ?_
      rw [hf, if_neg]
      intro h
      rw [h] at hb
      cases hb
    · have hw : within lim z = true := by
        cases h : within lim z with
        | true => rfl
        | false => rw [h] at hb; cases hb
      refine s_app (e4 _ _ (e3 _ _ g)) (ev_var rfl) (ev_var rfl) (by rw [List.length_map]; omega) fun H5 e5 => ?_
      refine ⟨acc ++ [z], _, _, rfl, Ex.mut (((e.trans e3).trans e4).trans e5) hp, ?_, ?_, ?_, ?_⟩
      · rw [upd_same, List.map_append]
        rfl
      · rw [List.length_append]
        omega
      · rw [List.length_append]
        show acc.length + 1 ≤ _
        omega
      · rw [hf, if_pos hw]
  · rintro σ' H' ⟨acc, x5, x6, rfl, e, g, ha, hb, hf⟩
    rw [List.length_map, List.drop_of_length_le (Nat.le_refl _)] at hf
    exact fin acc _ _ rfl e g hf
theorem el_fixsam {σ : L2.St} {H : Hp} {t1 t2 : TE} {E : XK} {ws rs : List Int} (h1 : EvS K t1 σ H (ws.map V.int)) (h2 : EvS K t2 σ H (rs.map V.int)) (hl : ws.length ≤ 4) (hr : rs.length ≤ 10000) :
    EvL (tCall (sp_fixed_samples K) [V.non] E (tCons t1 (tCons t2 tNil))) σ H ((fsam none ws.length ws rs).map V.int) := fun H1 e Q q =>
  h1 H1 e _ fun p H2 e2 hp => h2 H2 (e.trans e2) _ fun r H3 e3 hr3 => ⟨p, r, ws, rs, none, rfl, ex_l e3 hp, hr3, hl, hr, fun r H4 hr e4 g4 => q r H4 (fresh_back (e2.trans e3) hr) ((e2.trans e3).trans e4) g4⟩
theorem el_fixsamK {σ : L2.St} {H : Hp} {t1 t2 t3 : TE} {E : XK} {ws rs : List Int} {lim : Option Int} (h1 : EvS K t1 σ H (ws.map V.int)) (h2 : EvS K t2 σ H (rs.map V.int)) (h3 : Ev t3 σ H (limV lim)) (hl : ws.length ≤ 4) (hr : rs.length ≤ 10000) :
    EvL (tCallN 2 1 (sp_fixed_samples K) (fun us ws => us ++ ws) E (tCons t1 (tCons t2 tNil)) (tCons t3 tNil)) σ H ((fsam lim ws.length ws rs).map V.int) := fun H1 e Q q =>
  h1 H1 e _ fun p H2 e2 hp => h2 H2 (e.trans e2) _ fun r H3 e3 hr3 => h3 H3 ((e.trans e2).trans e3) _ fun H4 e4 => ⟨rfl, rfl, p, r, ws, rs, lim, rfl, ex_l (e3.trans e4) hp, ex_l e4 hr3, hl, hr, fun r H5 hr e5 g5 => q r H5 (fresh_back ((e2.trans e3).trans e4) hr) (((e2.trans e3).trans e4).trans e5) g5⟩

def sp_eql (K : PySem.W.Frag) : Sp := fun vs H Q _ => ∃ (a b : Addr) (ns : List Int), vs = [.ref a, .ref b] ∧ H a = some (.lst (ns.map V.int)) ∧ SqL K H b (ns.map V.int) ∧ ns.length ≤ 10000 ∧ RetV (.bl true) H Q
theorem ok_law_equal_lists (T : TX K mg) : FnOk P w K mg base CX0 1 T.a_law_equal_lists T.d_law_equal_lists ["actual", "expected"] (sp_eql K) := by
  refine T.F_law_equal_lists.ok sc_law_equal_lists (fun vs H Q E h => by obtain ⟨a, b, ns, rfl, _⟩ := h; rfl) (fun cdv A outer s H vs Q E hr h => ?_)
  obtain ⟨a, b, ns, rfl, hA, hS, hl, k⟩ := h
  refine ⟨_, (pss_cons (ps_if (PW.pt (pw_or (pt_not (pt_val (pe_callB (r := rIsi K) call_isi (by rfl) T.m_isinstance PyProof.Rows.boot_isinstance (pa_cons (pv 0) (pa_cons (pe_bltn (v := V.ty "list") (by rfl) T.m_list PyProof.Rows.boot_list rfl) pa_nil))))) (pw_or1 (pt_cmpR op_ne (pe_callB (r := rLenS K) call_len_seq (by rfl) T.m_len PySem.boot_len (pa_cons (pv 0) pa_nil)) (pe_callB (r := rLenS K) call_len_seq (by rfl) T.m_len PySem.boot_len (pa_cons (pv 1) pa_nil)) (nomark _))))) (pss_one (ps_ret pe_bl)) pss_nil)
      (pss_cons (ps_for PassesOwn.never rfl (pi_range1 (by rfl) T.m_range (pa_cons (pe_callB (r := rLenS K) call_len_seq (by rfl) T.m_len PySem.boot_len (pa_cons (pv 1) pa_nil)) pa_nil)) (pg_name (i := 2) sc_law_equal_lists.nd rfl (Or.inl rfl)) (pss_one (ps_if (PW.pt (pw_or (pt_not (pt_val (pe_callB (r := rIsi K) call_isi (by rfl) T.m_isinstance PyProof.Rows.boot_isinstance (pa_cons (pe_ix (r := rIxL K) ix_list (pv 0) (pv 2) (fun _ _ => rfl)) (pa_cons (pe_bltn (v := V.ty "int") (by rfl) T.m_int PyProof.Rows.boot_int rfl) pa_nil))))) (pw_or (pt_val (pe_callB (r := rIsi K) call_isi (by rfl) T.m_isinstance PyProof.Rows.boot_isinstance (pa_cons (pe_ix (r := rIxL K) ix_list (pv 0) (pv 2) (fun _ _ => rfl)) (pa_cons (pe_bltn (v := V.ty "bool") (by rfl) T.m_bool PyProof.Rows.boot_bool rfl) pa_nil)))) (pw_or1 (pt_cmpR op_ne (pe_ix (r := rIxL K) ix_list (pv 0) (pv 2) (fun _ _ => rfl)) (pe_ix (r := rIxL K) ix_list (pv 1) (pv 2) (fun _ _ => rfl)) (nomark _)))))) (pss_one (ps_ret pe_bl)) pss_nil)))
      (pss_one (ps_ret pe_bl)))), ?_⟩
  walk_at "when"
  · intro hb
    exact absurd hb (by simp)
  intro hb H1 e1
  refine q_forR1 (n := ns.length) (by rw [← List.length_map (f := V.int)]; walk_at "ea") (by omega) (fun i σ' H' => ∃ z, σ' = [some (.ref a), some (.ref b), z] ∧ Ex H H') (fun H2 e2 => ⟨none, rfl, e1.trans e2⟩) ?_ ?_
  · rintro i σ' H' hi ⟨z, rfl, e⟩
    have hn := gl_get (ns := ns) (i := i) (by omega)
    walk_at "whenS"
    · intro hb
      exact absurd hb (by simp)
    intro hb H2 e2
    exact ⟨_, rfl, e.trans e2⟩
  · rintro σ' H' ⟨z, rfl, e⟩
    walk_at "ret"
    intro H2 e2
    exact ret_eq k (e.trans e2) rfl
theorem et_eql {σ : L2.St} {H : Hp} {t1 t2 : TE} {E : XK} {ns : List Int} (h1 : EvR t1 σ H (ns.map V.int)) (h2 : EvS K t2 σ H (ns.map V.int)) (hl : ns.length ≤ 10000) : Ev (tCall (sp_eql K) [] E (tCons t1 (tCons t2 tNil))) σ H (.bl true) := fun H1 e Q q =>
  h1 H1 e _ fun p H2 e2 hp => h2 H2 (e.trans e2) _ fun r H3 e3 hr => ⟨p, r, ns, rfl, e3 _ _ hp, hr, hl, fun H4 e4 => q H4 ((e2.trans e3).trans e4)⟩

/-! ### the row, the bound -/
def sp_row (K : PySem.W.Frag) : Sp := fun vs H Q _ => ∃ (a : Addr) (ns : List Int), vs = [.ref a] ∧ SqL K H a (ns.map V.int) ∧ ns.length ≤ 63 ∧ ∀ (zs : List Int) (p : Addr) (H2 : Hp), zs.length ≤ 63 → H p = none → Ex H H2 → H2 p = some (.lst (zs.map V.int)) → Q (.ref p) H2
theorem ok_law_row (T : TX K mg) : FnOk P w K mg base CX0 2 T.a_law_row T.d_law_row ["script"] (sp_row K) := by
  refine T.F_law_row.ok sc_law_row (fun vs H Q E h => by obtain ⟨a, ns, rfl, _⟩ := h; rfl) (fun cdv A outer s H vs Q E hr h => ?_)
  obtain ⟨a, ns, rfl, hS, hl, k⟩ := h
  refine ⟨_, (pss_cons (ps_if (pt_cmpR op_eq (pe_op op_mod (pe_op op_fdiv (pe_call (ok_law_cell T) (hr.mono (by decide)) (by rfl) T.g_law_cell T.F_law_cell.kp T.b_law_cell .nil pass0 (pa_cons (pv 0) (pa_cons pe_int pa_nil))) pe_int) pe_int) pe_int (nomark _)) (pss_one (ps_ret (pe_callTy (r := rListS K) call_list_of (by rfl) T.m_list PyProof.Rows.boot_list (pa_cons (pe_slice (r := rSlL K) sl_list (pv 0) (po_some pe_int) (po_some pe_int)) pa_nil)))) pss_nil)
      (pss_one (ps_ret (pe_lc (own := [("cell", 1)]) (g := gName 1) (tt := tYes) rfl sc_law_row.nd (pi_list (pe_slice (r := rSlL K) sl_list (pv 0) (po_some pe_int) (po_some pe_int))) (blkOk_by (N := ["script", "cell"]) (sc := defScope s_law_row) (by decide +kernel)) (fun _ _ _ _ _ => pg_name (i := 1) sc_law_row.nd rfl (Or.inl rfl)) (fun _ _ _ _ _ => pts_nil) (fun _ _ _ _ _ => (pe_op op_sub (pe_op op_mod (pv 1) pe_int) pe_int)))))), ?_⟩
  have sl : ∀ H1, Ex H H1 → EvL (tSl (rSlL K) (tVar 0) (tPart (tC (.int 2))) (tPart (tC (.int 63)))) (start ["script", "cell"] [.ref a]) H1 (((ns.drop 2).take 61).map V.int) := fun H1 e1 => el_mid (K := K) (i := 2) (j := 63) (Ev.s (ev_var rfl) (ex_l e1 hS)) ev_c ev_c
  have hlen : ((ns.drop 2).take 61).length ≤ 63 := by rw [List.length_take]; omega
  walk_at "when"
  · intro hb H1 e1
    refine s_retL (el_of (K := K) (EvR.s (EvL.r (sl H1 e1)))) fun p H2 hp e2 g2 => ?_
    exact k _ p H2 hlen (fresh_back e1 hp) (e1.trans e2) g2
  intro hb H1 e1
  refine s_retL (el_lcS (K := K) (((ns.drop 2).take 61).map fun c => V.int (c % 400 - 200)) (EvR.s (EvL.r (sl H1 e1))) (by rw [List.length_map, List.length_map]) (by rw [List.length_map]; omega) (fun x => rfl) ?_) fun p H2 hp e2 g2 => ?_
  · intro i x H2 e2 hx
    obtain ⟨n, hn, hi, rfl⟩ := int_at hx
    refine ⟨.int (n % 400 - 200), by rw [List.getElem?_map, hn]; rfl, ?_⟩
    walk_at "ev"
  · refine k (((ns.drop 2).take 61).map fun c => c % 400 - 200) p H2 (by rw [List.length_map]; exact hlen) (fresh_back e1 hp) (e1.trans e2) ?_
    rw [List.map_map]
    exact g2
def sp_bound (K : PySem.W.Frag) : Sp := fun vs H Q _ => ∃ (a : Addr) (c : Int) (ns : List Int), vs = [.int c, .ref a] ∧ SqL K H a (ns.map V.int) ∧ ns.length ≤ 1000 ∧ ∀ (b : Int), RetV (.int b) H Q
theorem ok_law_bound (T : TX K mg) : FnOk P w K mg base CX0 1 T.a_law_bound T.d_law_bound ["cell", "samples"] (sp_bound K) := by
  refine T.F_law_bound.ok sc_law_bound (fun vs H Q E h => by obtain ⟨a, c, ns, rfl, _⟩ := h; rfl) (fun cdv A outer s H vs Q E hr h => ?_)
  obtain ⟨a, c, ns, rfl, hS, hl, k⟩ := h
  refine ⟨_, (pss_cons (ps_if (PW.pt (pw_or (pt_cmpR op_eq (pe_op op_mod (pv 0) pe_int) pe_int (nomark _)) (pw_or1 (pt_cmpR op_eq (pe_callB (r := rLenS K) call_len_seq (by rfl) T.m_len PySem.boot_len (pa_cons (pv 1) pa_nil)) pe_int (nomark _))))) (pss_one (ps_ret (pe_op op_shl pe_int (pe_op op_mod (pe_op op_fdiv (pv 0) pe_int) pe_int)))) pss_nil)
      (pss_cons (ps_set (i := 2) sc_law_bound.nd rfl (Or.inl rfl) (pe_ix (r := rIxL K) ix_list (pv 1) (pe_op op_mod (pe_op op_fdiv (pv 0) pe_int) (pe_callB (r := rLenS K) call_len_seq (by rfl) T.m_len PySem.boot_len (pa_cons (pv 1) pa_nil))) (fun _ _ => rfl)))
      (pss_one (ps_ret (pe_op op_add (pe_callB (call_max2 rfl) (by rfl) T.m_max PyProof.Rows.boot_max (pa_cons (pv 2) (pa_cons (pe_un un_neg (pv 2)) pa_nil))) (pe_op op_mod (pe_op op_fdiv (pe_op op_fdiv (pv 0) pe_int) (pe_callB (r := rLenS K) call_len_seq (by rfl) T.m_len PySem.boot_len (pa_cons (pv 1) pa_nil))) pe_int)))))), ?_⟩
  walk_at "when"
  · intro hb H1 e1
    walk_at "ret"
    intro H2 e2
    exact ret_eq (k _) (e1.trans e2) rfl
  intro hb H1 e1
  have h0 : 0 < ns.length := by
    cases ns with
    | nil => simp at hb
    | cons x r => rw [List.length_cons]; omega
  have hml : (ns.map V.int).length = ns.length := List.length_map ..
  have hL : ∀ H2, Ex H H2 → ∀ z, Ev (tCB (rLenS K) (tCons (tVar 1) tNil)) [some (.int c), some (.ref a), z] H2 (.int (ns.length : Int)) := fun H2 e2 z => by
    have h := ev_lenS (K := K) (Ev.s (te := tVar 1) (σ := [some (.int c), some (.ref a), z]) (ev_var rfl) (ex_l e2 hS))
    rw [hml] at h
    exact h
  have hi := gi_get (xs := ns) (i := (c / 2 % (ns.length : Int)).toNat) (by have := Int.emod_lt_of_pos (c / 2) (show (0 : Int) < ns.length by omega); have := Int.emod_nonneg (c / 2) (show (ns.length : Int) ≠ 0 by omega); omega)
  refine q_asg (ev_at (K := K) (n := c / 2 % (ns.length : Int)) (v := .int (gi ns (c / 2 % (ns.length : Int)).toNat)) (xs := ns.map V.int) (by walk_at "evs") (ev_I (by walk_at "ev") (hL H1 e1 none) (by show (0 : Int) < _; omega)) (at_of (j := (c / 2 % (ns.length : Int)).toNat) (by have := Int.emod_nonneg (c / 2) (show (ns.length : Int) ≠ 0 by omega); omega) (at_int hi))) fun H2 e2 => ?_
  refine s_ret (ev_I0 (ev_max2 (ev_var rfl) (ev_negI (ev_var rfl))) (ev_I (ev_I (by walk_at "ev") (hL H2 (e1.trans e2) _) (by show CDiv _ _; unfold CDiv; omega)) ev_c (by show (0 : Int) < _; omega))) fun H3 e3 => ?_
  exact ret_eq (k _) ((e1.trans e2).trans e3) rfl
def wts : Nat → List Int
  | 0 => []
  | 1 => [1]
  | 2 => [2, -1]
  | 3 => [3, -3, 1]
  | _ => [4, -6, 4, -1]
theorem wts_bd (o i : Nat) : -6 ≤ gi (wts o) i ∧ gi (wts o) i ≤ 4 := by
  match o, i with
  | 0, _ => exact (show -6 ≤ (0 : Int) ∧ (0 : Int) ≤ 4 by decide)
  | 1, 0 => decide
  | 1, i + 1 => exact (show -6 ≤ (0 : Int) ∧ (0 : Int) ≤ 4 by decide)
  | 2, 0 => decide
  | 2, 1 => decide
  | 2, i + 2 => exact (show -6 ≤ (0 : Int) ∧ (0 : Int) ≤ 4 by decide)
  | 3, 0 => decide
  | 3, 1 => decide
  | 3, 2 => decide
  | 3, i + 3 => exact (show -6 ≤ (0 : Int) ∧ (0 : Int) ≤ 4 by decide)
  | o + 4, 0 => exact (show -6 ≤ (4 : Int) ∧ (4 : Int) ≤ 4 by decide)
  | o + 4, 1 => exact (show -6 ≤ (-6 : Int) ∧ (-6 : Int) ≤ 4 by decide)
  | o + 4, 2 => exact (show -6 ≤ (4 : Int) ∧ (4 : Int) ≤ 4 by decide)
  | o + 4, 3 => exact (show -6 ≤ (-1 : Int) ∧ (-1 : Int) ≤ 4 by decide)
  | o + 4, i + 4 => exact (show -6 ≤ (0 : Int) ∧ (0 : Int) ≤ 4 by decide)
def tot (w acc : List Int) : Nat → Int
  | 0 => 0
  | i + 1 => tot w acc i + gi w i * gi acc (acc.length - 1 - i)
theorem tot_pred {o : Nat} {acc : List Int} (ho : o ≤ 4) : tot (wts o) acc o = predF o acc := by
  have h4 : o = 0 ∨ o = 1 ∨ o = 2 ∨ o = 3 ∨ o = 4 := by omega
  have e2 : acc.length - 1 - 1 = acc.length - 2 := by omega
  have e3 : acc.length - 1 - 2 = acc.length - 3 := by omega
  have e4 : acc.length - 1 - 3 = acc.length - 4 := by omega
  rcases h4 with rfl | rfl | rfl | rfl | rfl
  · rfl
  · show 0 + 1 * gi acc (acc.length - 1 - 0) = gi acc (acc.length - 1)
    rw [Nat.sub_zero]
    omega
  · show 0 + 2 * gi acc (acc.length - 1 - 0) + -1 * gi acc (acc.length - 1 - 1) = 2 * gi acc (acc.length - 1) - gi acc (acc.length - 2)
    rw [Nat.sub_zero, e2]
    omega
  · show 0 + 3 * gi acc (acc.length - 1 - 0) + -3 * gi acc (acc.length - 1 - 1) + 1 * gi acc (acc.length - 1 - 2) = 3 * gi acc (acc.length - 1) - 3 * gi acc (acc.length - 2) + gi acc (acc.length - 3)
    rw [Nat.sub_zero, e2, e3]
    omega
  · show 0 + 4 * gi acc (acc.length - 1 - 0) + -6 * gi acc (acc.length - 1 - 1) + 4 * gi acc (acc.length - 1 - 2) + -1 * gi acc (acc.length - 1 - 3) = 4 * gi acc (acc.length - 1) - 6 * gi acc (acc.length - 2) + 4 * gi acc (acc.length - 3) - gi acc (acc.length - 4)
    rw [Nat.sub_zero, e2, e3, e4]
    omega
theorem ok_law_predicted (T : TX K mg) : FnOk P w K mg base CX0 1 T.a_law_predicted T.d_law_predicted ["samples", "order"] (sp_prediction K) := by
  refine T.F_law_predicted.ok sc_law_predicted (fun vs H Q E h => by obtain ⟨a, ns, o, rfl, _⟩ := h; rfl) (fun cdv A outer s H vs Q E hr h => ?_)
  obtain ⟨a, ns, o, rfl, hS, ho, hl, k⟩ := h
  refine ⟨_, (pss_cons (ps_set (i := 2) sc_law_predicted.nd rfl (Or.inl rfl) (pe_ix (r := rIxL K) ix_list (pe_lst (pa_cons (pe_lst pa_nil) (pa_cons (pe_lst (pa_cons pe_int pa_nil)) (pa_cons (pe_lst (pa_cons pe_int (pa_cons (pe_un un_neg pe_int) pa_nil))) (pa_cons (pe_lst (pa_cons pe_int (pa_cons (pe_un un_neg pe_int) (pa_cons pe_int pa_nil)))) (pa_cons (pe_lst (pa_cons pe_int (pa_cons (pe_un un_neg pe_int) (pa_cons pe_int (pa_cons (pe_un un_neg pe_int) pa_nil))))) pa_nil)))))) (pv 1) (fun _ _ => rfl)))
      (pss_cons (ps_set (i := 3) sc_law_predicted.nd rfl (Or.inl rfl) pe_int)
      (pss_cons (ps_for PassesOwn.never rfl (pi_range1 (by rfl) T.m_range (pa_cons (pv 1) pa_nil)) (pg_name (i := 4) sc_law_predicted.nd rfl (Or.inl rfl)) (pss_one (ps_set (i := 3) sc_law_predicted.nd rfl (Or.inl rfl) (pe_op op_add (pv 3) (pe_op op_mul (pe_ix (r := rIxL K) ix_list (pv 2) (pv 4) (fun _ _ => rfl)) (pe_ix (r := rIxL K) ix_list (pv 0) (pe_op op_sub (pe_op op_sub (pe_callB (r := rLenS K) call_len_seq (by rfl) T.m_len PySem.boot_len (pa_cons (pv 0) pa_nil)) pe_int) (pv 4)) (fun _ _ => rfl)))))))
      (pss_one (ps_ret (pv 3)))))), ?_⟩
  -- the weights
  refine q_asgRaw (fun x H2 => ∃ pw, x = V.ref pw ∧ Ex H H2 ∧ H2 pw = some (.lst ((wts o).map V.int))) (fun Q qq => ?_) ?_
  rotate_left
  · rintro _ H6 ⟨pw, rfl, qx, gw⟩
    walk_at "asg"
    intro H7 e7
    have ex : Ex H H7 := qx.trans e7
    have gw7 := e7 _ _ gw
    refine q_forR1 (n := o) (by walk_at "ea") (by omega) (fun i σ' H' => ∃ z, σ' = [some (.ref a), some (.int o), some (.ref pw), some (.int (tot (wts o) ns i)), z] ∧ Ex H7 H') (fun H8 e8 => ⟨none, rfl, e8⟩) ?_ ?_
    · rintro i σ' H' hi ⟨z, rfl, e⟩
      have hwl : i < (wts o).length := by
        have h4 : o = 0 ∨ o = 1 ∨ o = 2 ∨ o = 3 ∨ o = 4 := by omega
        rcases h4 with rfl | rfl | rfl | rfl | rfl
        · omega
        · show i < 1; omega
        · show i < 2; omega
        · show i < 3; omega
        · show i < 4; omega
      have h1 := gi_get hwl
      have h2 := gi_get (xs := ns) (i := ns.length - 1 - i) (by omega)
      have hb := wts_bd o i
      refine s_asg (ev_I0 (ev_var rfl) (ev_I (ev_at (K := K) (n := (i : Int)) (v := .int (gi (wts o) i)) (xs := (wts o).map V.int) (by walk_at "evs") (ev_var rfl) (at_of (j := i) rfl (at_int h1))) (ev_at (K := K) (n := ((ns.map V.int).length : Int) - 1 - (i : Int)) (v := .int (gi ns (ns.length - 1 - i))) (xs := ns.map V.int) (by walk_at "evs") (by walk_at "ev") (at_of (j := ns.length - 1 - i) (by rw [List.length_map]; omega) (at_int h2))) (by show CMul _ _; unfold CMul; omega))) fun H8 e8 => ?_
      exact ⟨_, rfl, e.trans e8⟩
    · rintro σ' H' ⟨z, rfl, e⟩
      walk_at "ret"
      intro H8 e8
      exact ret_eq k ((ex.trans e).trans e8) (by rw [Int.toNat_natCast, tot_pred ho])
  refine ⟨by decide, fun p0 n0 => ?_⟩
  refine ⟨by decide, fun p1 n1 => ?_⟩
  refine ⟨_, rfl, by decide, fun p2 n2 => ?_⟩
  refine ⟨_, rfl, by decide, fun p3 n3 => ?_⟩
  refine ⟨_, rfl, _, rfl, by decide, fun p4 n4 => ?_⟩
  refine ⟨Nat.le_of_ble_eq_true rfl, fun p n => ?_⟩
  have x0 := Ex.new (o := HO.lst []) n0
  have x1 := Ex.new (o := HO.lst [V.int 1]) n1
  have x2 := Ex.new (o := HO.lst [V.int 2, V.int (-1)]) n2
  have x3 := Ex.new (o := HO.lst [V.int 3, V.int (-3), V.int 1]) n3
  have x4 := Ex.new (o := HO.lst [V.int 4, V.int (-6), V.int 4, V.int (-1)]) n4
  have x5 := Ex.new (o := HO.lst [V.ref p0, V.ref p1, V.ref p2, V.ref p3, V.ref p4]) n
  have q0 : _ = some (HO.lst []) := x5 _ _ (x4 _ _ (x3 _ _ (x2 _ _ (x1 _ _ (upd_same (H := H) (a := p0) (o := HO.lst []))))))
  have q1 : _ = some (HO.lst [V.int 1]) := x5 _ _ (x4 _ _ (x3 _ _ (x2 _ _ (upd_same (a := p1) (o := HO.lst [V.int 1])))))
  have q2 : _ = some (HO.lst [V.int 2, V.int (-1)]) := x5 _ _ (x4 _ _ (x3 _ _ (upd_same (a := p2) (o := HO.lst [V.int 2, V.int (-1)]))))
  have q3 : _ = some (HO.lst [V.int 3, V.int (-3), V.int 1]) := x5 _ _ (x4 _ _ (upd_same (a := p3) (o := HO.lst [V.int 3, V.int (-3), V.int 1])))
  have q4 : _ = some (HO.lst [V.int 4, V.int (-6), V.int 4, V.int (-1)]) := x5 _ _ (upd_same (a := p4) (o := HO.lst [V.int 4, V.int (-6), V.int 4, V.int (-1)]))
  have qx := ((((x0.trans x1).trans x2).trans x3).trans x4).trans x5
  generalize hH : upd (upd (upd (upd (upd (upd H p0 (HO.lst [])) p1 (HO.lst [V.int 1])) p2 (HO.lst [V.int 2, V.int (-1)])) p3 (HO.lst [V.int 3, V.int (-3), V.int 1])) p4 (HO.lst [V.int 4, V.int (-6), V.int 4, V.int (-1)])) p (HO.lst [V.ref p0, V.ref p1, V.ref p2, V.ref p3, V.ref p4]) = H6 at q0 q1 q2 q3 q4 qx
  have hp6 : H6 p = some (HO.lst [V.ref p0, V.ref p1, V.ref p2, V.ref p3, V.ref p4]) := by rw [← hH]; exact upd_same
  obtain ⟨pw, hpw, gw⟩ : ∃ pw, [V.ref p0, V.ref p1, V.ref p2, V.ref p3, V.ref p4][o]? = some (V.ref pw) ∧ H6 pw = some (.lst ((wts o).map V.int)) := by
    have h4 : o = 0 ∨ o = 1 ∨ o = 2 ∨ o = 3 ∨ o = 4 := by omega
    rcases h4 with rfl | rfl | rfl | rfl | rfl
    · exact ⟨p0, rfl, q0⟩
    · exact ⟨p1, rfl, q1⟩
    · exact ⟨p2, rfl, q2⟩
    · exact ⟨p3, rfl, q3⟩
    · exact ⟨p4, rfl, q4⟩
  refine ⟨V.int (o : Int), rfl, ?_⟩
  refine ⟨p, _, (o : Int), V.ref pw, rfl, rfl, sq_of hp6, at_of (j := o) rfl hpw, ?_⟩
  exact qq _ _ ⟨pw, rfl, qx, gw⟩
theorem ev_lpred {σ : L2.St} {H : Hp} {t1 t2 : TE} {E : XK} {ns : List Int} {o : Nat} (h1 : EvS K t1 σ H (ns.map V.int)) (h2 : Ev t2 σ H (.int o)) (ho : o ≤ 4) (hl : o ≤ ns.length) :
    Ev (tCall (sp_prediction K) [] E (tCons t1 (tCons t2 tNil))) σ H (.int (predF o ns)) := ev_pred h1 h2 ho hl
def sp_law (K : PySem.W.Frag) : Sp := fun vs H Q _ => ∃ (a : Addr) (ns : List Int), vs = [.ref a] ∧ SqL K H a (ns.map V.int) ∧ ns.length ≤ 63 ∧ ∀ H', Q (.bl true) H'
theorem ok_law (T : TX K mg) : FnOk P w K mg base CX0 3 T.a_law T.d_law ["script"] (sp_law K) := by
  refine T.F_law.ok sc_law (fun vs H Q E h => by obtain ⟨a, ns, rfl, _⟩ := h; rfl) (fun cdv A outer s H vs Q E hr h => ?_)
  obtain ⟨a, ns, rfl, hS, hlen, k⟩ := h
  refine ⟨_, (pss_cons (ps_set (i := 1) sc_law.nd rfl (Or.inl rfl) (pe_call (ok_law_row T) (hr.mono (by decide)) (by rfl) T.g_law_row T.F_law_row.kp T.b_law_row .nil pass0 (pa_cons (pv 0) pa_nil)))
      (pss_cons (ps_set (i := 2) sc_law.nd rfl (Or.inl rfl) (pe_callB (call_min2 rfl) (by rfl) T.m_min PyProof.Rows.boot_min (pa_cons (pe_callB (r := rLenS K) call_len_seq (by rfl) T.m_len PySem.boot_len (pa_cons (pv 1) pa_nil)) (pa_cons (pe_op op_mod (pe_call (ok_law_cell T) (hr.mono (by decide)) (by rfl) T.g_law_cell T.F_law_cell.kp T.b_law_cell .nil pass0 (pa_cons (pv 0) (pa_cons pe_int pa_nil))) pe_int) pa_nil))))
      (pss_cons (ps_set (i := 3) sc_law.nd rfl (Or.inl rfl) (pe_slice (r := rSlL K) sl_list (pv 1) po_none (po_some (pv 2))))
      (pss_cons (ps_set (i := 4) sc_law.nd rfl (Or.inl rfl) (pe_slice (r := rSlL K) sl_list (pv 1) (po_some (pv 2)) po_none))
      (pss_cons (ps_set (i := 5) sc_law.nd rfl (Or.inl rfl) (pe_callTy (r := rListS K) call_list_of (by rfl) T.m_list PyProof.Rows.boot_list (pa_cons (pv 3) pa_nil)))
      (pss_cons (ps_for PassesOwn.never rfl (pi_list (pv 4)) (pg_name (i := 6) sc_law.nd rfl (Or.inl rfl)) (pss_one (ps_expr (pe_bm PySem.F.plainAttrs_list PySem.F.slot_list_append PySem.F.type_list_append mt_append (pv 5) (pa_cons (pe_op op_add (pe_call (ok_law_predicted T) (hr.mono (by decide)) (by rfl) T.g_law_predicted T.F_law_predicted.kp T.b_law_predicted .nil pass0 (pa_cons (pv 5) (pa_cons (pv 2) pa_nil))) (pv 6)) pa_nil)))))
      (pss_cons (ps_set (i := 7) sc_law.nd rfl (Or.inl rfl) (pe_call (ok_law_bound T) (hr.mono (by decide)) (by rfl) T.g_law_bound T.F_law_bound.kp T.b_law_bound .nil pass0 (pa_cons (pe_call (ok_law_cell T) (hr.mono (by decide)) (by rfl) T.g_law_cell T.F_law_cell.kp T.b_law_cell .nil pass0 (pa_cons (pv 0) (pa_cons pe_int pa_nil))) (pa_cons (pv 5) pa_nil))))
      (pss_cons (ps_set (i := 8) sc_law.nd rfl (Or.inl rfl) (pv 2))
      (pss_cons (ps_while PassesOwn.never (PW.pt (pw_and (pt_cmpR op_lt (pv 8) (pe_callB (r := rLenS K) call_len_seq (by rfl) T.m_len PySem.boot_len (pa_cons (pv 5) pa_nil)) (nomark _)) (pw_and1 (pt_chain op_le op_lt (pe_un un_neg (pv 7)) (pe_ix (r := rIxL K) ix_list (pv 5) (pv 8) (fun _ _ => rfl)) (pv 7))))) (pss_one (ps_set (i := 8) sc_law.nd rfl (Or.inl rfl) (pe_op op_add (pv 8) pe_int))))
      (pss_cons (ps_set (i := 9) sc_law.nd rfl (Or.inl rfl) (pe_callTy (r := rListS K) call_list_of (by rfl) T.m_list PyProof.Rows.boot_list (pa_cons (pv 3) pa_nil)))
      (pss_cons (ps_set (i := 10) sc_law.nd rfl (Or.inl rfl) (pe_callTy (r := rListS K) call_list_of (by rfl) T.m_list PyProof.Rows.boot_list (pa_cons (pv 4) pa_nil)))
      (pss_cons (ps_if (pt_not (pt_val (pe_call (ok_law_equal_lists T) (hr.mono (by decide)) (by rfl) T.g_law_equal_lists T.F_law_equal_lists.kp T.b_law_equal_lists .nil pass0 (pa_cons (pe_call (ok_fixed_samples T) (hr.mono (by decide)) (by rfl) T.g_fixed_samples T.F_fixed_samples.kp T.b2_fixed_samples T.v2_fixed_samples pass0 (pa_cons (pv 9) (pa_cons (pv 10) pa_nil))) (pa_cons (pv 5) pa_nil))))) (pss_one (ps_ret pe_bl)) pss_nil)
      (pss_cons (ps_if (pt_not (pt_val (pe_call (ok_law_equal_lists T) (hr.mono (by decide)) (by rfl) T.g_law_equal_lists T.F_law_equal_lists.kp T.b_law_equal_lists .nil pass0 (pa_cons (pe_callN (ok_fixed_samples T) (hr.mono (by decide)) (by rfl) T.g_fixed_samples T.F_fixed_samples.kp T.k2_limit_fixed_samples pass0 (pa_cons (pv 9) (pa_cons (pv 10) pa_nil)) (pk_cons pe_non pk_nil)) (pa_cons (pv 5) pa_nil))))) (pss_one (ps_ret pe_bl)) pss_nil)
      (pss_cons (ps_if (pt_not (pt_val (pe_call (ok_law_equal_lists T) (hr.mono (by decide)) (by rfl) T.g_law_equal_lists T.F_law_equal_lists.kp T.b_law_equal_lists .nil pass0 (pa_cons (pe_callN (ok_fixed_samples T) (hr.mono (by decide)) (by rfl) T.g_fixed_samples T.F_fixed_samples.kp T.k2_limit_fixed_samples pass0 (pa_cons (pv 9) (pa_cons (pv 10) pa_nil)) (pk_cons (pv 7) pk_nil)) (pa_cons (pe_slice (r := rSlL K) sl_list (pv 5) po_none (po_some (pv 8))) pa_nil))))) (pss_one (ps_ret pe_bl)) pss_nil)
      (pss_cons (ps_if (PW.pt (pw_or (pt_cmpR (op_neD (hu64 hr)) (pv 9) (pv 3) (nomark _)) (pw_or1 (pt_cmpR (op_neD (hu64 hr)) (pv 10) (pv 4) (nomark _))))) (pss_one (ps_ret pe_bl)) pss_nil)
      (pss_cons (ps_set (i := 11) sc_law.nd rfl (Or.inl rfl) (pe_call (ok_fixed_samples T) (hr.mono (by decide)) (by rfl) T.g_fixed_samples T.F_fixed_samples.kp T.b2_fixed_samples T.v2_fixed_samples pass0 (pa_cons (pv 9) (pa_cons (pe_lst pa_nil) pa_nil))))
      (pss_cons (ps_if (pt_not (pt_val (pe_call (ok_law_equal_lists T) (hr.mono (by decide)) (by rfl) T.g_law_equal_lists T.F_law_equal_lists.kp T.b_law_equal_lists .nil pass0 (pa_cons (pv 11) (pa_cons (pv 3) pa_nil))))) (pss_one (ps_ret pe_bl)) pss_nil)
      (pss_cons (ps_expr (pe_bm PySem.F.plainAttrs_list PySem.F.slot_list_append PySem.F.type_list_append mt_append (pv 11) (pa_cons pe_int pa_nil)))
      (pss_cons (ps_if (PW.pt (pw_or (pt_cmpR (op_neD (hu64 hr)) (pv 9) (pv 3) (nomark _)) (pw_or1 (pt_cmpR (op_neD (hu64 hr)) (pe_callN (ok_fixed_samples T) (hr.mono (by decide)) (by rfl) T.g_fixed_samples T.F_fixed_samples.kp T.k2_limit_fixed_samples pass0 (pa_cons (pv 9) (pa_cons (pe_lst pa_nil) pa_nil)) (pk_cons (pv 7) pk_nil)) (pv 3) (nomark _))))) (pss_one (ps_ret pe_bl)) pss_nil)
      (pss_one (ps_ret (pe_call (ok_law_equal_lists T) (hr.mono (by decide)) (by rfl) T.g_law_equal_lists T.F_law_equal_lists.kp T.b_law_equal_lists .nil pass0 (pa_cons (pe_call (ok_fixed_residuals T) (hr.mono (by decide)) (by rfl) T.g_fixed_residuals T.F_fixed_residuals.kp T.b_fixed_residuals .nil pass0 (pa_cons (pe_callTy (r := rListS K) call_list_of (by rfl) T.m_list PyProof.Rows.boot_list (pa_cons (pv 5) pa_nil)) (pa_cons (pv 2) pa_nil))) (pa_cons (pv 4) pa_nil)))))))))))))))))))))))), ?_⟩
  refine q_asgC (vs := [.ref a]) (by walk_at "ea") fun H1 e1 => ⟨a, ns, rfl, ex_l e1 hS, hlen, fun zs ps H2 hz hps e2 g2 => ?_⟩
  obtain ⟨o, ho⟩ : ∃ o : Nat, (if cellI ns 0 % 5 < (zs.length : Int) then cellI ns 0 % 5 else (zs.length : Int)) = (o : Int) := ⟨(if cellI ns 0 % 5 < (zs.length : Int) then cellI ns 0 % 5 else (zs.length : Int)).toNat, by split <;> omega⟩
  have ho4 : o ≤ 4 := by split at ho <;> omega
  have hol : o ≤ zs.length := by split at ho <;> omega
  refine q_asg (v := .int (o : Int)) (ev_is (by walk_at "ev") (by rw [List.length_map, ho])) fun H3 e3 => ?_
  walk_at "asgL"
  intro pw H4 hpw e4 g4
  walk_at "asgL"
  intro pr H5 hpr e5 g5
  generalize hws : zs.take o = ws at *
  generalize hrs : zs.drop o = rs at *
  have hwl : ws.length = o := by subst hws; rw [List.length_take]; omega
  have hrl : rs.length ≤ 63 := by subst hrs; rw [List.length_drop]; omega
  walk_at "asgL"
  intro pe H6 hpe e6 g6
  have ex6 : Ex H5 H6 := e6
  -- expected
  refine q_forLn (xs := rs.map V.int) (a := pr) (ev_var rfl) (by walk_at "sq") (fun i σ' H' => ∃ acc x6, σ' = [some (.ref a), some (.ref ps), some (.int o), some (.ref pw), some (.ref pr), some (.ref pe), x6, none, none, none, none, none] ∧ Ex H5 H' ∧ H' pe = some (.lst (acc.map V.int)) ∧ o ≤ acc.length ∧ acc.length = o + i ∧ fsam none o ws rs = fsam none o acc (rs.drop i))
    (fun H7 e7 => ⟨ws, none, rfl, e6.trans e7, e7 _ _ g6, by omega, by omega, rfl⟩) (fun i σ' H' _ ⟨_, _, _, e, _⟩ => by walk_at "sq") ?_ ?_
  · rintro i x σ' H' hx ⟨acc, x6, rfl, e, g, ha, hb, hf⟩
    obtain ⟨n, hn, hi, rfl⟩ := int_at hx
    rw [drop_cons_gi hi, gi_of hn] at hf
    refine s_app g (ev_var rfl) (v := .int (predF o acc + n)) (ev_I0 (ev_pred (K := K) (ns := acc) (o := o) (by walk_at "evs") (ev_var rfl) ho4 ha) (ev_var rfl)) (by rw [List.length_map]; omega) fun H7 e7 => ?_
    refine ⟨acc ++ [predF o acc + n], _, rfl, Ex.mut (e.trans e7) hpe, ?_, ?_, ?_, ?_⟩
    · rw [upd_same, List.map_append]
      rfl
    · rw [List.length_append]
      omega
    · rw [List.length_append]
      show acc.length + 1 = _
      omega
    · rw [hf]
      show (if within none _ = true then _ else _ : List Int) = _
      rw [if_pos (show within none _ = true from rfl)]
  rintro σ' H7 ⟨acc, x6, rfl, e7, g7, ha, hb, hf⟩
  rw [List.length_map, List.drop_of_length_le (Nat.le_refl _)] at hf
  have hacc : acc = fsam none o ws rs := hf.symm
  have hal : acc.length = o + rs.length := by rw [hacc, fsam_len]; omega
  -- bound
  refine q_asgC (vs := [.int (cellI ns 1), .ref pe]) (by walk_at "ea") fun H8 e8 => ⟨pe, cellI ns 1, acc, rfl, sq_of (e8 _ _ g7), by omega, fun b H9 e9 => ?_⟩
  walk_at "asg"
  intro H10 e10
  -- inside
  refine q_while (fun m σ' H' => ∃ j : Nat, σ' = [some (.ref a), some (.ref ps), some (.int o), some (.ref pw), some (.ref pr), some (.ref pe), x6, some (.int b), some (.int j), none, none, none] ∧ Ex H10 H' ∧ o ≤ j ∧ j ≤ acc.length ∧ m = acc.length - j ∧ ∀ t, o ≤ t → t < j → within (some b) (gi acc t) = true)
    (acc.length - o) ⟨o, rfl, Ex.refl _, Nat.le_refl _, by omega, rfl, fun t h1 h2 => by omega⟩ ?_
  rintro m σ' H11 ⟨j, rfl, e11, hj1, hj2, rfl, hj⟩
  refine ⟨decide (j < acc.length) && within (some b) (gi acc j), ?_, ?_, ?_⟩
  · refine et_is (et_and (a := decide (j < acc.length)) (b := within (some b) (gi acc j)) (et_is (by walk_at "et") (by rw [List.length_map]; exact dec_lt)) fun hjl => ?_) rfl
    have h1 := gi_get (of_decide_eq_true hjl)
    exact et_is (by walk_at "et") rfl
  · intro hb2 H12 e12
    have h1 : j < acc.length := by
      by_cases h : j < acc.length
      · exact h
      · rw [decide_eq_false h] at hb2
        cases hb2
    have h2 : within (some b) (gi acc j) = true := by
      rw [decide_eq_true h1] at hb2
      exact hb2
    refine ⟨fun σ2 H2 => σ2 = [some (.ref a), some (.ref ps), some (.int o), some (.ref pw), some (.ref pr), some (.ref pe), x6, some (.int b), some (.int ((j + 1 : Nat) : Int)), none, none, none] ∧ Ex H10 H2, ?_, ?_⟩
    · rintro σ2 H2 ⟨rfl, ex2⟩
      refine ⟨acc.length - (j + 1), by omega, j + 1, rfl, ex2, by omega, by omega, rfl, fun t h3 h4 => ?_⟩
      by_cases ht : t = j
      · subst ht
        exact h2
      · exact hj t h3 (by omega)
    · walk_at "asgS"
      intro H13 e13
      exact ⟨rfl, (e11.trans e12).trans e13⟩
  intro hb2 H12 e12
  have hlim : fsam (some b) o ws rs = acc.take j := by
    rw [hacc]
    refine fsam_lim rs ws j (by omega) (fun t h1 h2 => ?_) (by rw [← hacc]; exact hj2) fun h => ?_
    · rw [← hacc]
      exact hj t (by omega) h2
    · rw [← hacc] at h ⊢
      rw [decide_eq_true h, Bool.true_and] at hb2
      exact hb2
  have g7e : H12 pe = some (.lst (acc.map V.int)) := by walk_at "hp"
  have gw : H12 pw = some (.lst (ws.map V.int)) := by walk_at "hp"
  have gr : H12 pr = some (.lst (rs.map V.int)) := by walk_at "hp"
  clear e1 e2 e3 e4 e5 e6 e7 e8 e9 e10 e11 e12 ex6
  walk_at "asgL"
  intro pf H13 hpf e13 g13
  walk_at "asgL"
  intro pt H14 hpt e14 g14
  have hal2 : acc.length ≤ 10000 := by omega
  refine q_when (b := false) (et_is (et_not (et_B (et_eql (K := K) (ns := acc) (EvL.r (EvL.is (el_fixsam (K := K) (ws := ws) (rs := rs) (by walk_at "evs") (by walk_at "evs") (by omega) (by omega)) (by rw [hwl, hacc]))) (by walk_at "evs") hal2))) (by simp)) (fun hb => by cases hb) fun _ H15 e15 => ?_
  refine q_when (b := false) (et_is (et_not (et_B (et_eql (K := K) (ns := acc) (EvL.r (EvL.is (el_fixsamK (K := K) (lim := none) (ws := ws) (rs := rs) (by walk_at "evs") (by walk_at "evs") ev_c (by omega) (by omega)) (by rw [hwl, hacc]))) (by walk_at "evs") hal2))) (by simp)) (fun hb => by cases hb) fun _ H16 e16 => ?_
  refine q_when (b := false) (et_is (et_not (et_B (et_eql (K := K) (ns := acc.take j) (EvL.r (EvL.is (el_fixsamK (K := K) (lim := some b) (ws := ws) (rs := rs) (by walk_at "evs") (by walk_at "evs") (ev_var rfl) (by omega) (by omega)) (by rw [hwl, hlim]))) (by walk_at "evs") (by rw [List.length_take]; omega)))) (by simp)) (fun hb => by cases hb) fun _ H17 e17 => ?_
  walk_at "when"
  · intro hb
    exact absurd hb (by simp)
  intro hb3 H18 e18
  have emp : ∀ (σ : L2.St) (H : Hp), EvS K (tLst tNil) σ H (([] : List Int).map V.int) := fun σ H => EvR.s (EvL.r (el_lst ea_nil (Nat.le_of_ble_eq_true rfl)))
  refine q_asgL (xs := ws.map V.int) (EvL.is (el_fixsam (K := K) (ws := ws) (rs := []) (by walk_at "evs") (emp _ _) (by omega) (by decide)) rfl) fun pa H19 hpa e19 g19 => ?_
  refine q_when (b := false) (et_is (et_not (et_B (et_eql (K := K) (ns := ws) (by walk_at "evr") (by walk_at "evs") (by omega)))) (by simp)) (fun hb => by cases hb) fun _ H20 e20 => ?_
  have g20 := e20 _ _ g19
  refine q_app g20 (ev_var rfl) (by walk_at "ev") (by rw [List.length_map]; omega) fun H21 e21 => ?_
  have ex21 : Ex H18 (upd H21 pa (HO.lst (ws.map V.int ++ [V.int 4]))) := Ex.mut ((e19.trans e20).trans e21) hpa
  have gw2 : (upd H21 pa (HO.lst (ws.map V.int ++ [V.int 4]))) pw = some (.lst (ws.map V.int)) := ex21 _ _ (by walk_at "hp")
  have gf2 : (upd H21 pa (HO.lst (ws.map V.int ++ [V.int 4]))) pf = some (.lst (ws.map V.int)) := ex21 _ _ (by walk_at "hp")
  have gr2 : (upd H21 pa (HO.lst (ws.map V.int ++ [V.int 4]))) pr = some (.lst (rs.map V.int)) := ex21 _ _ (by walk_at "hp")
  have ge2 : (upd H21 pa (HO.lst (ws.map V.int ++ [V.int 4]))) pe = some (.lst (acc.map V.int)) := ex21 _ _ (by walk_at "hp")
  generalize upd H21 pa (HO.lst (ws.map V.int ++ [V.int 4])) = H22 at *
  refine q_when (b := false) (et_is (et_or (a := false) (b := false) (et_is (by walk_at "et") (by simp)) fun _ => et_is (et_test (ev_neI (K := K) (ns := ws) (ms := ws) (EvR.s (EvL.r (EvL.is (el_fixsamK (K := K) (lim := some b) (ws := ws) (rs := []) (by walk_at "evs") (emp _ _) (ev_var rfl) (by omega) (by decide)) rfl))) (by walk_at "evs"))) (by simp)) rfl) (fun hb => by cases hb) fun _ H23 e23 => ?_
  refine s_ret (et_eql (K := K) (ns := rs) (EvL.r (EvL.is (el_fixres (K := K) (ns := acc) (o := o) (EvR.s (EvL.r (by walk_at "el"))) (ev_var rfl) (by omega) (by omega)) (by rw [hacc, ← hwl, diffs_fsam (by omega)]))) (by walk_at "evs") (by omega)) fun H24 e24 => ?_
  exact k _
end
theorem all_mk {l : PySem.W.OpenLaw} {w : World} {K : PySem.W.Frag} {h : Heap} {mg : Str → Option Value} {fa : Addr} {f1 f2 f3 f4 f5 f6 f7 f8 f9 : Addr} (X : K.In h) (G : h.Ns mainGlobals mg) (hfa : mg "law" = some (.ref fa))
    {od1 an1 : Option Addr} {sl1 : Array (Option Value)} {oc1 dc1 pm1 cd1 ct1 : Value} {kV1 : Value} {od2 an2 : Option Addr} {sl2 : Array (Option Value)} {oc2 dc2 pm2 cd2 ct2 : Value} {DK2 : Addr} {ku2_0 : Value} {od3 an3 : Option Addr} {sl3 : Array (Option Value)} {oc3 dc3 pm3 cd3 ct3 : Value} {kV3 : Value} {od4 an4 : Option Addr} {sl4 : Array (Option Value)} {oc4 dc4 pm4 cd4 ct4 : Value} {kV4 : Value} {od5 an5 : Option Addr} {sl5 : Array (Option Value)} {oc5 dc5 pm5 cd5 ct5 : Value} {kV5 : Value} {od6 an6 : Option Addr} {sl6 : Array (Option Value)} {oc6 dc6 pm6 cd6 ct6 : Value} {kV6 : Value} {od7 an7 : Option Addr} {sl7 : Array (Option Value)} {oc7 dc7 pm7 cd7 ct7 : Value} {kV7 : Value} {od8 an8 : Option Addr} {sl8 : Array (Option Value)} {oc8 dc8 pm8 cd8 ct8 : Value} {kV8 : Value} {od9 an9 : Option Addr} {sl9 : Array (Option Value)} {oc9 dc9 pm9 cd9 ct9 : Value} {kV9 : Value}
    (a1 : PySem.W.nsIn K mainGlobals "fixed_residuals" = some (some (.ref f1)))
    (l1 : K.lookup f1 = some ⟨oc1, od1, .func (PySem.W.fnOf "fixed_residuals" "fixed_residuals" (defArgs s_fixed_residuals) (defBody s_fixed_residuals) (defScope s_fixed_residuals) .none kV1 dc1 pm1 an1 cd1 ct1), sl1⟩) (c1 : PySem.W.codeIn K cd1 "fixed_residuals" = true) (k1 : PySem.W.keepIn K (.ref f1) = true)
    (a2 : PySem.W.nsIn K mainGlobals "fixed_samples" = some (some (.ref f2)))
    (l2 : K.lookup f2 = some ⟨oc2, od2, .func (PySem.W.fnOf "fixed_samples" "fixed_samples" (defArgs s_fixed_samples) (defBody s_fixed_samples) (defScope s_fixed_samples) .none (.ref DK2) dc2 pm2 an2 cd2 ct2), sl2⟩) (c2 : PySem.W.codeIn K cd2 "fixed_samples" = true) (k2 : PySem.W.keepIn K (.ref f2) = true)
    (kq2_0 : PySem.W.nsIn K DK2 "limit" = some (some ku2_0)) (rk2_0 : RelV (V.non) ku2_0)
    (a3 : PySem.W.nsIn K mainGlobals "_prediction" = some (some (.ref f3)))
    (l3 : K.lookup f3 = some ⟨oc3, od3, .func (PySem.W.fnOf "_prediction" "_prediction" (defArgs s_prediction) (defBody s_prediction) (defScope s_prediction) .none kV3 dc3 pm3 an3 cd3 ct3), sl3⟩) (c3 : PySem.W.codeIn K cd3 "_prediction" = true) (k3 : PySem.W.keepIn K (.ref f3) = true)
    (a4 : PySem.W.nsIn K mainGlobals "_law_cell" = some (some (.ref f4)))
    (l4 : K.lookup f4 = some ⟨oc4, od4, .func (PySem.W.fnOf "_law_cell" "_law_cell" (defArgs s_law_cell) (defBody s_law_cell) (defScope s_law_cell) .none kV4 dc4 pm4 an4 cd4 ct4), sl4⟩) (c4 : PySem.W.codeIn K cd4 "_law_cell" = true) (k4 : PySem.W.keepIn K (.ref f4) = true)
    (a5 : PySem.W.nsIn K mainGlobals "_law_equal_lists" = some (some (.ref f5)))
    (l5 : K.lookup f5 = some ⟨oc5, od5, .func (PySem.W.fnOf "_law_equal_lists" "_law_equal_lists" (defArgs s_law_equal_lists) (defBody s_law_equal_lists) (defScope s_law_equal_lists) .none kV5 dc5 pm5 an5 cd5 ct5), sl5⟩) (c5 : PySem.W.codeIn K cd5 "_law_equal_lists" = true) (k5 : PySem.W.keepIn K (.ref f5) = true)
    (a6 : PySem.W.nsIn K mainGlobals "_law_row" = some (some (.ref f6)))
    (l6 : K.lookup f6 = some ⟨oc6, od6, .func (PySem.W.fnOf "_law_row" "_law_row" (defArgs s_law_row) (defBody s_law_row) (defScope s_law_row) .none kV6 dc6 pm6 an6 cd6 ct6), sl6⟩) (c6 : PySem.W.codeIn K cd6 "_law_row" = true) (k6 : PySem.W.keepIn K (.ref f6) = true)
    (a7 : PySem.W.nsIn K mainGlobals "_law_predicted" = some (some (.ref f7)))
    (l7 : K.lookup f7 = some ⟨oc7, od7, .func (PySem.W.fnOf "_law_predicted" "_law_predicted" (defArgs s_law_predicted) (defBody s_law_predicted) (defScope s_law_predicted) .none kV7 dc7 pm7 an7 cd7 ct7), sl7⟩) (c7 : PySem.W.codeIn K cd7 "_law_predicted" = true) (k7 : PySem.W.keepIn K (.ref f7) = true)
    (a8 : PySem.W.nsIn K mainGlobals "_law_bound" = some (some (.ref f8)))
    (l8 : K.lookup f8 = some ⟨oc8, od8, .func (PySem.W.fnOf "_law_bound" "_law_bound" (defArgs s_law_bound) (defBody s_law_bound) (defScope s_law_bound) .none kV8 dc8 pm8 an8 cd8 ct8), sl8⟩) (c8 : PySem.W.codeIn K cd8 "_law_bound" = true) (k8 : PySem.W.keepIn K (.ref f8) = true)
    (a9 : PySem.W.nsIn K mainGlobals "law" = some (some (.ref f9)))
    (l9 : K.lookup f9 = some ⟨oc9, od9, .func (PySem.W.fnOf "law" "law" (defArgs s_law) (defBody s_law) (defScope s_law) .none kV9 dc9 pm9 an9 cd9 ct9), sl9⟩) (c9 : PySem.W.codeIn K cd9 "law" = true) (k9 : PySem.W.keepIn K (.ref f9) = true)
    (z_list : PySem.W.nsIn K mainGlobals "list" = some none)
    (z_range : PySem.W.nsIn K mainGlobals "range" = some none)
    (z_zip : PySem.W.nsIn K mainGlobals "zip" = some none)
    (z_len : PySem.W.nsIn K mainGlobals "len" = some none)
    (z_isinstance : PySem.W.nsIn K mainGlobals "isinstance" = some none)
    (z_int : PySem.W.nsIn K mainGlobals "int" = some none)
    (z_bool : PySem.W.nsIn K mainGlobals "bool" = some none)
    (z_max : PySem.W.nsIn K mainGlobals "max" = some none)
    (z_min : PySem.W.nsIn K mainGlobals "min" = some none)
    : ∃ fd : FuncData, (∀ (s : Shared) (v : Value), BindsTo s fd ⟨[v], []⟩ [("script", v)]) ∧ ∀ base : Heap, K.In base → base.Ns mainGlobals mg → FnOk l.prog w K mg base CX0 3 fa fd ["script"] (sp_law K) := by
  have e := hfa.symm.trans (PySem.W.mg_of X G a9)
  cases e
  have F1 := fun_mk (st := s_fixed_residuals) l1 c1 k1
  have b1 := F1.binds (ps := ["samples", "order"]) fun _ _ _ _ _ _ us hl => match us, hl with | [_, _], _ => rfl
  have F2 : FunD K "fixed_samples" "fixed_samples" (defArgs s_fixed_samples) (defBody s_fixed_samples) (defScope s_fixed_samples) [] [("limit", V.non)] _ _ := ⟨⟨_, _, _, _, _, _, _, _, _, _, rfl, l2, c2, (.inl ⟨rfl, rfl⟩), (.inr ⟨DK2, rfl, kwAll1 ⟨_, kq2_0, rk2_0⟩⟩)⟩, k2⟩
  obtain ⟨e2_2, v2_2, b2_2⟩ := F2.binds0 (ps := ["warm_up", "residuals", "limit"]) 2 (by simp) rfl fun D0 doc pm an cdv ct us ks hu hk => match us, hu, ks, hk with | [_, _], _, [_], _ => ⟨_, _, _, _, _, _, rfl, rfl, rfl⟩
  have kb2_limit_2 : KBn K _ ["warm_up", "residuals", "limit"] 2 ["limit"] (fun us ws => us ++ ws) (fun us ws => us ++ ws) := fund_kb0 F2 2 ["limit"] (fun h1 h2 => Vals.append h1 h2) fun kV doc pm an cdv ct us ws hu hw => match us, hu, ws, hw with | [_, _], _, [_], _ => rfl
  have F3 := fun_mk (st := s_prediction) l3 c3 k3
  have b3 := F3.binds (ps := ["samples", "order"]) fun _ _ _ _ _ _ us hl => match us, hl with | [_, _], _ => rfl
  have F4 := fun_mk (st := s_law_cell) l4 c4 k4
  have b4 := F4.binds (ps := ["script", "k"]) fun _ _ _ _ _ _ us hl => match us, hl with | [_, _], _ => rfl
  have F5 := fun_mk (st := s_law_equal_lists) l5 c5 k5
  have b5 := F5.binds (ps := ["actual", "expected"]) fun _ _ _ _ _ _ us hl => match us, hl with | [_, _], _ => rfl
  have F6 := fun_mk (st := s_law_row) l6 c6 k6
  have b6 := F6.binds (ps := ["script"]) fun _ _ _ _ _ _ us hl => match us, hl with | [_], _ => rfl
  have F7 := fun_mk (st := s_law_predicted) l7 c7 k7
  have b7 := F7.binds (ps := ["samples", "order"]) fun _ _ _ _ _ _ us hl => match us, hl with | [_, _], _ => rfl
  have F8 := fun_mk (st := s_law_bound) l8 c8 k8
  have b8 := F8.binds (ps := ["cell", "samples"]) fun _ _ _ _ _ _ us hl => match us, hl with | [_, _], _ => rfl
  have F9 := fun_mk (st := s_law) l9 c9 k9
  have b9 := F9.binds (ps := ["script"]) fun _ _ _ _ _ _ us hl => match us, hl with | [_], _ => rfl
  let T : TX K mg := ⟨f1, _, F1, b1, (PySem.W.mg_of X G a1), f2, _, F2, e2_2, v2_2, b2_2, kb2_limit_2, (PySem.W.mg_of X G a2), f3, _, F3, b3, (PySem.W.mg_of X G a3), f4, _, F4, b4, (PySem.W.mg_of X G a4), f5, _, F5, b5, (PySem.W.mg_of X G a5), f6, _, F6, b6, (PySem.W.mg_of X G a6), f7, _, F7, b7, (PySem.W.mg_of X G a7), f8, _, F8, b8, (PySem.W.mg_of X G a8), fa, _, F9, b9, (PySem.W.mg_of X G a9), (PySem.W.mg_none_of X G z_list), (PySem.W.mg_none_of X G z_range), (PySem.W.mg_none_of X G z_zip), (PySem.W.mg_none_of X G z_len), (PySem.W.mg_none_of X G z_isinstance), (PySem.W.mg_none_of X G z_int), (PySem.W.mg_none_of X G z_bool), (PySem.W.mg_none_of X G z_max), (PySem.W.mg_none_of X G z_min)⟩
  exact ⟨_, fun s v => .of_eq rfl, fun base _ _ => ok_law T⟩
end K22
open PySem PySem.W PyProof.Rows
set_option maxRecDepth 100000 in
set_option maxHeartbeats 0 in
theorem PySem.Challenge.cw_monochord_k22_fixed_samples_and_limit_holds : PySem.Challenge.rw_monochord_k22_fixed_samples_and_limit.Holds := by
  w_on; o_law; k_head; (case hw => w_witness2)
  k_fill
  refine L2.walk_of (l := PySem.Challenge.rw_monochord_k22_fixed_samples_and_limit) (n := 63) (k := 3) (x := "script") (CX := fun _ => L2.CX0) (sp := fun w => K22.sp_law _) rfl (by decide) rfl ⟨rfl, by decide, by decide⟩ (fun w h Y => PySem.W.kIn_of Y) ?F (fun _ _ a ns hl _ hS => ⟨a, ns, rfl, hS, hl, fun _ => rfl⟩) (fun _ _ _ _ _ h => h)
  case F =>
    intro w mg fa h KX G hmg
    refine' K22.all_mk KX G hmg ?a1 ?l1 ?c1 ?k1 ?a2 ?l2 ?c2 ?k2 ?kq2_0 ?rk2_0 ?a3 ?l3 ?c3 ?k3 ?a4 ?l4 ?c4 ?k4 ?a5 ?l5 ?c5 ?k5 ?a6 ?l6 ?c6 ?k6 ?a7 ?l7 ?c7 ?k7 ?a8 ?l8 ?c8 ?k8 ?a9 ?l9 ?c9 ?k9 ?z_list ?z_range ?z_zip ?z_len ?z_isinstance ?z_int ?z_bool ?z_max ?z_min
    (case a1 => k_is)
    (case l1 => k_is)
    (case c1 => k_is)
    (case k1 => k_is)
    (case a2 => k_is)
    (case l2 => k_is)
    (case c2 => k_is)
    (case k2 => k_is)
    (case kq2_0 => k_is)
    (case rk2_0 => first | rfl | exact ⟨_, rfl⟩)
    (case a3 => k_is)
    (case l3 => k_is)
    (case c3 => k_is)
    (case k3 => k_is)
    (case a4 => k_is)
    (case l4 => k_is)
    (case c4 => k_is)
    (case k4 => k_is)
    (case a5 => k_is)
    (case l5 => k_is)
    (case c5 => k_is)
    (case k5 => k_is)
    (case a6 => k_is)
    (case l6 => k_is)
    (case c6 => k_is)
    (case k6 => k_is)
    (case a7 => k_is)
    (case l7 => k_is)
    (case c7 => k_is)
    (case k7 => k_is)
    (case a8 => k_is)
    (case l8 => k_is)
    (case c8 => k_is)
    (case k8 => k_is)
    (case a9 => k_is)
    (case l9 => k_is)
    (case c9 => k_is)
    (case k9 => k_is)
    (case z_list => k_is)
    (case z_range => k_is)
    (case z_zip => k_is)
    (case z_len => k_is)
    (case z_isinstance => k_is)
    (case z_int => k_is)
    (case z_bool => k_is)
    (case z_max => k_is)
    (case z_min => k_is)
