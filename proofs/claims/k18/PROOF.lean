import PyProof.Rows.All
import Wide.All
import OpenK.AllK
import Wide.FinOn
import HandS.ForMost
import HandS.Steps
import HandS.Evl
import HandS.IsInst
import HandS.Defaults
import HandS.Wide
import HandS.WideBits
import HandS.Walk
import HandS.Text
import KE.GoesMore
import HandS.TupLe
import HandS.TupMul
import HandS.TupAny
import PySem.Challenge.RW_monochord_k18_plans_that_fit
set_option Elab.async false
set_option linter.all false
set_option maxRecDepth 100000
set_option maxHeartbeats 4000000
namespace K18
open PySem PySem.Spec PyProof.Rows L2 Evl
def topS (i : Nat) : Stmt := PySem.Challenge.pw_monochord_k18_plans_that_fit.main.body.getD i (.Pass ⟨0, 0, 0, 0⟩)
abbrev s_fold : Stmt := topS 1
theorem sc_fold : FnScope ["n"] ["n"] (defScope s_fold) := ⟨rfl, rfl, rfl, by decide +kernel, rfl, by decide +kernel, by decide +kernel⟩
abbrev s_code_length : Stmt := topS 2
theorem sc_code_length : FnScope ["k", "n"] ["k", "n"] (defScope s_code_length) := ⟨rfl, rfl, rfl, by decide +kernel, rfl, by decide +kernel, by decide +kernel⟩
abbrev s_legal_partition_order : Stmt := topS 4
theorem sc_legal_partition_order : FnScope ["size", "order", "partition_order", "count"] ["size", "order", "partition_order"] (defScope s_legal_partition_order) := ⟨rfl, rfl, rfl, by decide +kernel, rfl, by decide +kernel, by decide +kernel⟩
abbrev s_partition_sizes : Stmt := topS 5
theorem sc_partition_sizes : FnScope ["size", "order", "partition_order", "whole"] ["size", "order", "partition_order"] (defScope s_partition_sizes) := ⟨rfl, rfl, rfl, by decide +kernel, rfl, by decide +kernel, by decide +kernel⟩
abbrev s_plan_fits : Stmt := topS 6
theorem sc_plan_fits : FnScope ["plan", "residuals", "order", "_", "partition_order", "codings", "parts", "coding", "part"] ["plan", "residuals", "order"] (defScope s_plan_fits) := ⟨rfl, rfl, rfl, by decide +kernel, rfl, by decide +kernel, by decide +kernel⟩
abbrev s_residual_bits : Stmt := topS 7
theorem sc_residual_bits : FnScope ["plan", "residuals", "order", "method", "partition_order", "codings", "bits", "coding", "part"] ["plan", "residuals", "order"] (defScope s_residual_bits) := ⟨rfl, rfl, rfl, by decide +kernel, rfl, by decide +kernel, by decide +kernel⟩
abbrev s_parts : Stmt := topS 8
theorem sc_parts : FnScope ["residuals", "order", "partition_order", "parts", "start", "count"] ["residuals", "order", "partition_order"] (defScope s_parts) := ⟨rfl, rfl, rfl, by decide +kernel, rfl, by decide +kernel, by decide +kernel⟩
abbrev s_coding_fits : Stmt := topS 9
theorem sc_coding_fits : FnScope ["coding", "part", "kind", "width", "residual"] ["coding", "part"] (defScope s_coding_fits) := ⟨rfl, rfl, rfl, by decide +kernel, rfl, by decide +kernel, by decide +kernel⟩
abbrev s_fits_raw : Stmt := topS 10
theorem sc_fits_raw : FnScope ["width", "residual", "half"] ["width", "residual"] (defScope s_fits_raw) := ⟨rfl, rfl, rfl, by decide +kernel, rfl, by decide +kernel, by decide +kernel⟩
abbrev s_coding_width : Stmt := topS 11
theorem sc_coding_width : FnScope ["method"] ["method"] (defScope s_coding_width) := ⟨rfl, rfl, rfl, by decide +kernel, rfl, by decide +kernel, by decide +kernel⟩
abbrev s_part_bits : Stmt := topS 12
theorem sc_part_bits : FnScope ["method", "coding", "part", "kind", "number", "residual"] ["method", "coding", "part"] (defScope s_part_bits) := ⟨rfl, rfl, rfl, by decide +kernel, rfl, by decide +kernel, by decide +kernel⟩
abbrev s_law_cell : Stmt := topS 14
theorem sc_law_cell : FnScope ["script", "k"] ["script", "k"] (defScope s_law_cell) := ⟨rfl, rfl, rfl, by decide +kernel, rfl, by decide +kernel, by decide +kernel⟩
abbrev s_law_row : Stmt := topS 15
theorem sc_law_row : FnScope ["cell", "count", "base", "row", "rest", "k", "mixed"] ["cell", "count", "base"] (defScope s_law_row) := ⟨rfl, rfl, rfl, by decide +kernel, rfl, by decide +kernel, by decide +kernel⟩
abbrev s_law_values : Stmt := topS 16
theorem sc_law_values : FnScope ["coding", "cells", "values", "cell", "width", "value", "u"] ["coding", "cells"] (defScope s_law_values) := ⟨rfl, rfl, rfl, by decide +kernel, rfl, by decide +kernel, by decide +kernel⟩
abbrev s_law_built : Stmt := topS 17
theorem sc_law_built : FnScope ["script", "shape", "p", "order", "part", "method", "codings", "residuals", "digits", "k", "coding", "many"] ["script"] (defScope s_law_built) := ⟨rfl, rfl, rfl, by decide +kernel, rfl, by decide +kernel, by decide +kernel⟩
abbrev s_law_fields : Stmt := topS 18
theorem sc_law_fields : FnScope ["value", "width", "k"] ["value", "width"] (defScope s_law_fields) := ⟨rfl, rfl, rfl, by decide +kernel, rfl, by decide +kernel, by decide +kernel⟩
abbrev s_law_code : Stmt := topS 19
theorem sc_law_code : FnScope ["k", "value", "u"] ["k", "value"] (defScope s_law_code) := ⟨rfl, rfl, rfl, by decide +kernel, rfl, by decide +kernel, by decide +kernel⟩
abbrev s_law_plan_bits : Stmt := topS 20
theorem sc_law_plan_bits : FnScope ["plan", "residuals", "order", "method", "p", "codings", "bits", "part", "at", "k", "many", "kind", "number", "value"] ["plan", "residuals", "order"] (defScope s_law_plan_bits) := ⟨rfl, rfl, rfl, by decide +kernel, rfl, by decide +kernel, by decide +kernel⟩
abbrev s_law_beyond : Stmt := topS 21
theorem sc_law_beyond : FnScope ["plan", "residuals", "order", "k", "part", "kind", "number", "at", "changed"] ["plan", "residuals", "order", "k"] (defScope s_law_beyond) := ⟨rfl, rfl, rfl, by decide +kernel, rfl, by decide +kernel, by decide +kernel⟩
abbrev s_law_refuses : Stmt := topS 22
theorem sc_law_refuses : FnScope ["plan", "residuals", "order", "method", "p", "codings", "size", "q", "legal", "k", "changed"] ["plan", "residuals", "order"] (defScope s_law_refuses) := ⟨rfl, rfl, rfl, by decide +kernel, rfl, by decide +kernel, by decide +kernel⟩
abbrev s_law : Stmt := topS 23
theorem sc_law : FnScope ["script", "plan", "residuals", "order", "passed", "many"] ["script"] (defScope s_law) := ⟨rfl, rfl, rfl, by decide +kernel, rfl, by decide +kernel, by decide +kernel⟩
theorem hu64 {A : Around} {k : Nat} (hr : Room k A) : A.units + 64 < cLine := hr.units
/-! ### short words for readings -/
theorem ret_eq {v w : V} {H H' : Hp} {Q : VK} (k : RetV v H Q) (ex : Ex H H') (e : w = v) : Q w H' := e ▸ k H' ex
/-- isinstance(x, T), T a built-in class -/
theorem ev_isi {K : PySem.W.Frag} {σ : L2.St} {H : Hp} {ta : TE} {x : V} {t : String} {T : String} {b : Bool} (ha : Ev ta σ H x) (ht : ∀ H1, Ex H H1 → TyX K H1 x (.type t)) (hk : kitB t T = some b) :
    Ev (tCB (rIsi K) (tCons ta (tCons (tC (.ty T)) tNil))) σ H (.bl b) :=
  ev_cb (ea_cons ha (ea_cons ev_c ea_nil)) fun H1 e Q q => ⟨x, .ty T, _, _, b, rfl, .ty T, ht H1 e, kit_ty hk, q H1 (Ex.refl H1)⟩
theorem isi_int {K : PySem.W.Frag} {H : Hp} {i : Int} : ∀ H1, Ex H H1 → TyX K H1 (V.int i) (.type "int") := fun _ _ => .base (.int _)
theorem isi_bl {K : PySem.W.Frag} {H : Hp} {b : Bool} : ∀ H1, Ex H H1 → TyX K H1 (V.bl b) (.type "bool") := fun _ _ => .base (.bl _)
theorem isi_non {K : PySem.W.Frag} {H : Hp} : ∀ H1, Ex H H1 → TyX K H1 V.non (.type "NoneType") := fun _ _ => .base .non
theorem isi_lst {K : PySem.W.Frag} {H : Hp} {a : Addr} {xs : List V} (h : H a = some (.lst xs)) : ∀ H1, Ex H H1 → TyX K H1 (V.ref a) (.type "list") := fun _ e => .base (.lst (e _ _ h))
theorem isi_tup {K : PySem.W.Frag} {H : Hp} {a : Addr} {xs : List V} (h : H a = some (.tup xs)) : ∀ H1, Ex H H1 → TyX K H1 (V.ref a) (.type "tuple") := fun _ e => .base (.tup (e _ _ h))
theorem kit_ii : kitB "int" "int" = some true := by decide +kernel
theorem kit_ib : kitB "int" "bool" = some false := by decide +kernel
theorem kit_bb : kitB "bool" "bool" = some true := by decide +kernel
theorem kit_bi : kitB "bool" "int" = some true := by decide +kernel
theorem kit_ll : kitB "list" "list" = some true := by decide +kernel
theorem kit_tt : kitB "tuple" "tuple" = some true := by decide +kernel
theorem ev_isiI {K : PySem.W.Frag} {σ : L2.St} {H : Hp} {ta : TE} {i : Int} (ha : Ev ta σ H (.int i)) : Ev (tCB (rIsi K) (tCons ta (tCons (tC (.ty "int")) tNil))) σ H (.bl true) := ev_isi ha isi_int kit_ii
theorem ev_isiB {K : PySem.W.Frag} {σ : L2.St} {H : Hp} {ta : TE} {i : Int} (ha : Ev ta σ H (.int i)) : Ev (tCB (rIsi K) (tCons ta (tCons (tC (.ty "bool")) tNil))) σ H (.bl false) := ev_isi ha isi_int kit_ib
theorem ev_isiL {K : PySem.W.Frag} {σ : L2.St} {H : Hp} {ta : TE} {a : Addr} {xs : List V} (ha : Ev ta σ H (.ref a)) (h : H a = some (.lst xs)) : Ev (tCB (rIsi K) (tCons ta (tCons (tC (.ty "list")) tNil))) σ H (.bl true) := ev_isi ha (isi_lst h) kit_ll
theorem ev_isiBB {K : PySem.W.Frag} {σ : L2.St} {H : Hp} {ta : TE} {b : Bool} (ha : Ev ta σ H (.bl b)) : Ev (tCB (rIsi K) (tCons ta (tCons (tC (.ty "bool")) tNil))) σ H (.bl true) := ev_isi ha isi_bl kit_bb
theorem ev_chain {σ : L2.St} {H : Hp} {ta tb tc : TE} {g g' : Int → Int → Bool} {a b c : Int} (ha : Ev ta σ H (.int a)) (hb : Ev tb σ H (.int b)) (hc : Ev tc σ H (.int c)) :
    Ev (tChain (rI0 fun i j => .bl (g i j)) (rI0 fun i j => .bl (g' i j)) ta tb tc) σ H (.bl (g a b && g' b c)) := fun H1 e Q q =>
  ha H1 e _ fun H2 e2 => hb H2 (e.trans e2) _ fun H3 e3 => ⟨a, b, rfl, rfl, g a b, rfl, by
    cases hg : g a b with
    | true =>
      rw [if_pos rfl]
      rw [hg, Bool.true_and] at q
      exact hc H3 ((e.trans e2).trans e3) _ fun H4 e4 => ⟨b, c, rfl, rfl, q H4 ((e2.trans e3).trans e4)⟩
    | false =>
      rw [if_neg (by decide)]
      rw [hg, Bool.false_and] at q
      exact q H3 (e2.trans e3)⟩
theorem ev_isN {σ : L2.St} {H : Hp} {ta : TE} {x : V} (ha : Ev ta σ H x) : Ev (tOp rIsN ta (tC .non)) σ H (.bl (decide (x = .non))) := fun H1 e Q q => ha H1 e _ fun H2 e2 => ⟨rfl, q H2 e2⟩
theorem ev_notN {σ : L2.St} {H : Hp} {ta : TE} {x : V} (ha : Ev ta σ H x) : Ev (tOp rNotN ta (tC .non)) σ H (.bl (!decide (x = .non))) := fun H1 e Q q => ha H1 e _ fun H2 e2 => ⟨rfl, q H2 e2⟩
theorem ev_min2 {σ : L2.St} {H : Hp} {ta tb : TE} {i j : Int} (ha : Ev ta σ H (.int i)) (hb : Ev tb σ H (.int j)) :
    Ev (tCB (fun xs H Q => ∃ i j, xs = [.int i, .int j] ∧ Q (.int (if j < i then j else i)) H) (tCons ta (tCons tb tNil))) σ H (.int (if j < i then j else i)) :=
  ev_cb (ea_cons ha (ea_cons hb ea_nil)) fun H1 _ _ q => ⟨i, j, rfl, q H1 (Ex.refl H1)⟩
theorem ev_negI {σ : L2.St} {H : Hp} {ta : TE} {i : Int} (ha : Ev ta σ H (.int i)) : Ev (tUn (rU fun i => .int (-i)) ta) σ H (.int (-i)) := ev_un ha ru_neg
theorem ev_I0 {σ : L2.St} {H : Hp} {ta tb : TE} {g : Int → Int → V} {i j : Int} (ha : Ev ta σ H (.int i)) (hb : Ev tb σ H (.int j)) : Ev (tOp (rI0 g) ta tb) σ H (g i j) := ev_op ha hb rv_I0
theorem ev_I {σ : L2.St} {H : Hp} {ta tb : TE} {C : Int → Int → Prop} {g : Int → Int → V} {i j : Int} (ha : Ev ta σ H (.int i)) (hb : Ev tb σ H (.int j)) (hc : C i j) : Ev (tOp (rI C g) ta tb) σ H (g i j) := ev_op ha hb (rv_I hc)
theorem ev_eq {σ : L2.St} {H : Hp} {ta tb : TE} {x y : V} (ha : Ev ta σ H x) (hb : Ev tb σ H y) (hs : scal x y = true) : Ev (tOp rEq ta tb) σ H (.bl (decide (x = y))) := ev_op ha hb (rv_eq hs)
theorem ev_ne {σ : L2.St} {H : Hp} {ta tb : TE} {x y : V} (ha : Ev ta σ H x) (hb : Ev tb σ H y) (hs : scal x y = true) : Ev (tOp rNe ta tb) σ H (.bl (!decide (x = y))) := ev_op ha hb (rv_ne hs)
theorem et_B' {σ : L2.St} {H : Hp} {te : TE} {x : V} {b : Bool} (h : Ev te σ H x) (e : x = .bl b) : EvT (tB te) σ H b := et_B (e ▸ h)
theorem dec_lt {a b : Nat} : decide ((a : Int) < (b : Int)) = decide (a < b) := by
  by_cases h : a < b
  · rw [decide_eq_true h, decide_eq_true (by omega)]
  · rw [decide_eq_false h, decide_eq_false (by omega)]
theorem int_at {ns : List Int} {i : Nat} {x : V} (hx : (ns.map V.int)[i]? = some x) : ∃ n, ns[i]? = some n ∧ i < ns.length ∧ x = V.int n := by
  rw [List.getElem?_map] at hx
  cases en : ns[i]? with
  | none => rw [en] at hx; cases hx
  | some n => rw [en] at hx; exact ⟨n, rfl, (List.getElem?_eq_some_iff.mp en).1, (Option.some.inj hx).symm⟩
theorem at_int {ns : List Int} {i : Nat} {n : Int} (h : ns[i]? = some n) : (ns.map V.int)[i]? = some (V.int n) := by rw [List.getElem?_map, h]; rfl
local macro_rules | `(tactic| walk_at "side") => `(tactic| first
  | omega | (show CMul _ _; unfold CMul; omega) | (show CDiv _ _; unfold CDiv; omega) | (show CPow _ _; unfold CPow; omega) | (show (_ : Int) < _; omega) | (show (_ : Int) ≤ _; omega) | decide)
local macro_rules | `(tactic| walk_at "ev") => `(tactic| first
  | exact ev_var rfl
  | exact ev_c
  | (refine' ev_I0 ?h1 ?h2; (case h1 => walk_at "ev"); (case h2 => walk_at "ev"))
  | (refine' ev_negI ?h1; (case h1 => walk_at "ev"))
  | (refine' ev_I ?h1 ?h2 ?hc; (case h1 => walk_at "ev"); (case h2 => walk_at "ev"); (case hc => walk_at "side"))
  | (refine' ev_eq ?h1 ?h2 ?hc; (case h1 => walk_at "ev"); (case h2 => walk_at "ev"); (case hc => rfl))
  | (refine' ev_ne ?h1 ?h2 ?hc; (case h1 => walk_at "ev"); (case h2 => walk_at "ev"); (case hc => rfl))
  | (refine' ev_max2 ?h1 ?h2; (case h1 => walk_at "ev"); (case h2 => walk_at "ev"))
  | (refine' ev_min2 ?h1 ?h2; (case h1 => walk_at "ev"); (case h2 => walk_at "ev"))
  | (refine' ev_chain ?h1 ?h2 ?h3; (case h1 => walk_at "ev"); (case h2 => walk_at "ev"); (case h3 => walk_at "ev"))
  | (refine' ev_isN ?h1; (case h1 => walk_at "ev"))
  | (refine' ev_notN ?h1; (case h1 => walk_at "ev"))
  | (refine' ev_isiI ?h1; (case h1 => walk_at "ev"))
  | (refine' ev_isiB ?h1; (case h1 => walk_at "ev"))
  | (refine' ev_isiBB ?h1; (case h1 => walk_at "ev"))
  | (refine' ev_andV ?h1 (fun _ => ?h2); (case h1 => walk_at "ev"); (case h2 => walk_at "ev"))
  | (refine' ev_orV ?h1 (fun _ => ?h2); (case h1 => walk_at "ev"); (case h2 => walk_at "ev"))
  | (refine' ev_notV ?h1; (case h1 => walk_at "ev"))
  | walk_at "evmore")
local macro_rules | `(tactic| walk_at "et") => `(tactic| first
  | (refine' et_test ?h1; (case h1 => walk_at "ev"))
  | (refine' et_B ?h1; (case h1 => walk_at "ev"))
  | (refine' et_not ?h1; (case h1 => walk_at "et"))
  | (refine' et_and ?h1 (fun _ => ?h2); (case h1 => walk_at "et"); (case h2 => walk_at "et"))
  | (refine' et_or ?h1 (fun _ => ?h2); (case h1 => walk_at "et"); (case h2 => walk_at "et")))
local macro_rules | `(tactic| walk_at "ea") => `(tactic| first
  | exact ea_nil
  | (refine' ea_cons ?h1 ?h2; (case h1 => walk_at "ev"); (case h2 => walk_at "ea")))
local macro_rules | `(tactic| walk_at "when") => `(tactic| (refine' q_when ?h ?h1 ?h2; (case h => walk_at "et")))
local macro_rules | `(tactic| walk_at "whenS") => `(tactic| (refine' s_when ?h ?h1 ?h2; (case h => walk_at "et")))
local macro_rules | `(tactic| walk_at "if") => `(tactic| (refine' q_if ?h ?h1 ?h2; (case h => walk_at "et")))
local macro_rules | `(tactic| walk_at "ifS") => `(tactic| (refine' s_if ?h ?h1 ?h2; (case h => walk_at "et")))
local macro_rules | `(tactic| walk_at "ret") => `(tactic| (refine' s_ret ?h ?h1; (case h => walk_at "ev")))
local macro_rules | `(tactic| walk_at "asg") => `(tactic| (refine' q_asg ?h ?h1; (case h => walk_at "ev")))
local macro_rules | `(tactic| walk_at "asgS") => `(tactic| (refine' s_asg ?h ?h1; (case h => walk_at "ev")))

/-! ### lists, existing or new -/
def EvR (te : TE) (σ : L2.St) (H : Hp) (xs : List V) : Prop := ∀ H1, Ex H H1 → ∀ Q : VK, (∀ p H2, Ex H1 H2 → H2 p = some (.lst xs) → Q (.ref p) H2) → te σ H1 Q
def EvS (K : PySem.W.Frag) (te : TE) (σ : L2.St) (H : Hp) (xs : List V) : Prop := ∀ H1, Ex H H1 → ∀ Q : VK, (∀ p H2, Ex H1 H2 → SqL K H2 p xs → Q (.ref p) H2) → te σ H1 Q
section
variable {K : PySem.W.Frag} {σ : L2.St} {H H' : Hp} {ta tb te : TE} {xs ys : List V} {a : Addr}
theorem EvL.r (h : EvL te σ H xs) : EvR te σ H xs := fun H1 e Q q => h H1 e Q fun p H2 _ e2 h2 => q p H2 e2 h2
theorem Ev.r (h : Ev te σ H (.ref a)) (hx : H a = some (.lst xs)) : EvR te σ H xs := fun H1 e Q q => h H1 e Q fun H2 e2 => q a H2 e2 (e2 _ _ (e _ _ hx))
theorem EvR.s (h : EvR te σ H xs) : EvS K te σ H xs := fun H1 e Q q => h H1 e Q fun p H2 e2 h2 => q p H2 e2 (sq_of h2)
theorem Ev.s (h : Ev te σ H (.ref a)) (hx : SqL K H a xs) : EvS K te σ H xs := fun H1 e Q q => h H1 e Q fun H2 e2 => q a H2 e2 (ex_l e2 (ex_l e hx))
theorem EvR.mono (e : Ex H H') (h : EvR te σ H xs) : EvR te σ H' xs := fun H1 a Q q => h H1 (e.trans a) Q q
theorem EvS.mono (e : Ex H H') (h : EvS K te σ H xs) : EvS K te σ H' xs := fun H1 a Q q => h H1 (e.trans a) Q q
theorem EvL.is (h : EvL te σ H xs) (e : xs = ys) : EvL te σ H ys := e ▸ h
theorem EvR.is (h : EvR te σ H xs) (e : xs = ys) : EvR te σ H ys := e ▸ h
theorem el_cat (ha : EvR ta σ H xs) (hb : EvR tb σ H ys) (hl : xs.length + ys.length ≤ 100000) : EvL (tOp rCat ta tb) σ H (xs ++ ys) := fun H1 e Q q =>
  ha H1 e _ fun p H2 e2 h2 => hb H2 (e.trans e2) _ fun r H3 e3 h3 => ⟨p, r, xs, ys, rfl, rfl, e3 _ _ h2, h3, sz_of hl, fun l hl => q l _ (fresh_back (e2.trans e3) hl) ((e2.trans e3).trans (Ex.new hl)) upd_same⟩
theorem el_rep {k : Int} (ha : EvR ta σ H xs) (hb : Ev tb σ H (.int k)) (hk : -(2 ^ 63) ≤ k ∧ k < 2 ^ 63) (hl : xs.length * k.toNat ≤ 100000) : EvL (tOp rRep ta tb) σ H (List.replicate k.toNat xs).flatten := fun H1 e Q q =>
  ha H1 e _ fun p H2 e2 h2 => hb H2 (e.trans e2) _ fun H3 e3 => ⟨p, k, xs, rfl, rfl, e3 _ _ h2, hk.1, hk.2, sz_of hl, fun l hl => q l _ (fresh_back (e2.trans e3) hl) ((e2.trans e3).trans (Ex.new hl)) upd_same⟩
theorem rep_one {x : V} (n : Nat) : (List.replicate n [x]).flatten = List.replicate n x := by
  induction n with
  | zero => rfl
  | succ n ih => rw [List.replicate_succ, List.replicate_succ, List.flatten_cons, ih]; rfl
theorem el_of {te : TE} (h : EvS K te σ H xs) : EvL (tCB (rListS K) (tCons te tNil)) σ H xs := fun H1 e Q q =>
  h H1 e _ fun p H2 e2 h2 => ⟨p, xs, rfl, .inl h2, fun l hl => q l _ (fresh_back e2 hl) (e2.trans (Ex.new hl)) upd_same⟩
theorem ev_lenS (h : EvS K te σ H xs) : Ev (tCB (rLenS K) (tCons te tNil)) σ H (.int (xs.length : Int)) := fun H1 e Q q =>
  h H1 e _ fun p H2 e2 h2 => ⟨p, xs, rfl, .inl h2, q H2 e2⟩
theorem ev_sum {ns : List Int} (h : EvS K te σ H (ns.map V.int)) : Ev (tCB (rSum K) (tCons te tNil)) σ H (.int ns.sum) := fun H1 e Q q =>
  h H1 e _ fun p H2 e2 h2 => ⟨p, ns, rfl, h2, q H2 e2⟩
theorem dp_ints {K : PySem.W.Frag} {H : Hp} : ∀ ns : List Int, DpAll K H (ns.map V.int) (ns.map PyData.int)
  | [] => .nil
  | n :: r => .cons (.int n) (dp_ints r)
theorem eqv_ints : ∀ ns ms : List Int, PyData.eqvAll (ns.map PyData.int) (ms.map PyData.int) = decide (ns = ms)
  | [], [] => by simp [PyData.eqvAll]
  | [], _ :: _ => by simp [PyData.eqvAll]
  | _ :: _, [] => by simp [PyData.eqvAll]
  | n :: r, m :: t => by
    show (PyData.eqv (.int n) (.int m) && PyData.eqvAll (r.map PyData.int) (t.map PyData.int)) = _
    rw [eqv_ints r t]
    show ((n == m) && decide (r = t)) = _
    by_cases h1 : n = m <;> by_cases h2 : r = t <;> simp [h1, h2]
theorem canLay_ints : ∀ ns : List Int, PyData.canLayAll0 (ns.map PyData.int) = true
  | [] => by simp [PyData.canLayAll0]
  | n :: r => by
    show PyData.canLayAll0 (PyData.int n :: r.map PyData.int) = true
    rw [PyData.canLayAll0, canLay_ints r]
    simp [PyData.canLay0]
theorem depth_ints : ∀ ns : List Int, PyData.depthAll (ns.map PyData.int) ≤ 1
  | [] => by simp [PyData.depthAll]
  | n :: r => by
    show PyData.depthAll (PyData.int n :: r.map PyData.int) ≤ 1
    have := depth_ints r
    simp only [PyData.depthAll, PyData.depth]
    omega
theorem shaped_ints (ns : List Int) : SeqAt.shaped (.list (ns.map PyData.int)) = true := by
  unfold SeqAt.shaped
  have h1 := canLay_ints ns
  have h2 := depth_ints ns
  have h3 : PyData.depth (.list (ns.map PyData.int)) ≤ 64 := by
    rw [PyData.depth]
    omega
  rw [decide_eq_true h3, Bool.and_true]
  simpa only [PyData.canLay0] using h1
theorem ev_eqI {ns ms : List Int} (ha : EvS K ta σ H (ns.map V.int)) (hb : EvS K tb σ H (ms.map V.int)) : Ev (tOp (rEqD K) ta tb) σ H (.bl (decide (ns = ms))) := fun H1 e Q q =>
  ha H1 e _ fun p H2 e2 h2 => hb H2 (e.trans e2) _ fun r H3 e3 h3 => ⟨.list (ns.map PyData.int), .list (ms.map PyData.int), .lst (ex_l e3 h2) (dp_ints ns), .lst h3 (dp_ints ms), shaped_ints ns, shaped_ints ms, by
    show Q (.bl (PyData.eqvAll (ns.map PyData.int) (ms.map PyData.int))) H3
    rw [eqv_ints]
    exact q H3 (e2.trans e3)⟩
theorem ev_neI {ns ms : List Int} (ha : EvS K ta σ H (ns.map V.int)) (hb : EvS K tb σ H (ms.map V.int)) : Ev (tOp (rNeD K) ta tb) σ H (.bl (!decide (ns = ms))) := fun H1 e Q q =>
  ha H1 e _ fun p H2 e2 h2 => hb H2 (e.trans e2) _ fun r H3 e3 h3 => ⟨.list (ns.map PyData.int), .list (ms.map PyData.int), .lst (ex_l e3 h2) (dp_ints ns), .lst h3 (dp_ints ms), shaped_ints ns, shaped_ints ms, by
    show Q (.bl (!PyData.eqvAll (ns.map PyData.int) (ms.map PyData.int))) H3
    rw [eqv_ints]
    exact q H3 (e2.trans e3)⟩
theorem ev_ixS {i : Nat} {n : Int} {tl ti : TE} {v : V} (h : EvS K tl σ H xs) (hi : Ev ti σ H (.int n)) (ha : atI xs n = some v) : Ev (tOp (rIxL K) tl ti) σ H v := fun H1 e Q q =>
  h H1 e _ fun p H2 e2 h2 => hi H2 (e.trans e2) _ fun H3 e3 => ⟨p, xs, n, v, rfl, rfl, ex_l e3 h2, ha, q H3 (e2.trans e3)⟩
theorem el_slS {tl th : TO} {lo hi : Option Int} (h : EvS K te σ H xs) (h1 : EvO tl σ H lo) (h2 : EvO th σ H hi) : EvL (tSl (rSlL K) te tl th) σ H (cutV xs lo hi) := fun H1 e _ q =>
  h H1 e _ fun a H2 e2 hs => h1 H2 (e.trans e2) _ fun H3 e3 => h2 H3 ((e.trans e2).trans e3) _ fun H4 e4 =>
    ⟨a, xs, rfl, ex_l (e3.trans e4) hs, fun p hp => q p _ (fresh_back ((e2.trans e3).trans e4) hp) (((e2.trans e3).trans e4).trans (Ex.new hp)) upd_same⟩
theorem ev_at {n : Int} {tl ti : TE} {v : V} (h : EvS K tl σ H xs) (hi : Ev ti σ H (.int n)) (ha : atI xs n = some v) : Ev (tOp (rIxL K) tl ti) σ H v := ev_ixS (i := 0) h hi ha
theorem cut_to (xs : List V) (i : Nat) : cutV xs none (some (i : Int)) = xs.take i := by
  unfold cutV
  rw [HT.sIx_none, HT.sIx_nat, List.drop_zero, Nat.sub_zero]
  by_cases h : i ≤ xs.length
  · rw [Nat.min_eq_left h]
  · rw [Nat.min_eq_right (by omega), List.take_of_length_le (Nat.le_refl _), List.take_of_length_le (by omega)]
theorem cut_from (xs : List V) (i : Nat) : cutV xs (some (i : Int)) none = xs.drop i := by
  unfold cutV
  rw [HT.sIx_none, HT.sIx_nat]
  by_cases h : i ≤ xs.length
  · rw [Nat.min_eq_left h, List.take_of_length_le (by rw [List.length_drop]; omega)]
  · rw [Nat.min_eq_right (by omega), List.drop_of_length_le (Nat.le_refl _), List.drop_of_length_le (show xs.length ≤ i by omega), List.take_nil]
theorem cut_mid (xs : List V) (i j : Nat) : cutV xs (some (i : Int)) (some (j : Int)) = (xs.drop i).take (j - i) := by
  unfold cutV
  rw [HT.sIx_nat, HT.sIx_nat]
  by_cases h : i ≤ xs.length
  · rw [Nat.min_eq_left h]
    by_cases h2 : j ≤ xs.length
    · rw [Nat.min_eq_left h2]
    · rw [Nat.min_eq_right (by omega), List.take_of_length_le (by rw [List.length_drop]; omega), List.take_of_length_le (by rw [List.length_drop]; omega)]
  · rw [Nat.min_eq_right (by omega : xs.length ≤ i), List.drop_of_length_le (Nat.le_refl _), List.drop_of_length_le (show xs.length ≤ i by omega)]
    simp
theorem el_to {th : TE} {ns : List Int} {i : Nat} (h : EvS K te σ H (ns.map V.int)) (h2 : Ev th σ H (.int i)) : EvL (tSl (rSlL K) te tNoPart (tPart th)) σ H ((ns.take i).map V.int) :=
  EvL.is (el_slS h eo_none (eo_some h2)) (by rw [List.map_take]; exact cut_to _ i)
theorem el_from {th : TE} {ns : List Int} {i : Nat} (h : EvS K te σ H (ns.map V.int)) (h2 : Ev th σ H (.int i)) : EvL (tSl (rSlL K) te (tPart th) tNoPart) σ H ((ns.drop i).map V.int) :=
  EvL.is (el_slS h (eo_some h2) eo_none) (by rw [List.map_drop]; exact cut_from _ i)
theorem el_mid {t1 t2 : TE} {ns : List Int} {i j : Nat} (h : EvS K te σ H (ns.map V.int)) (h1 : Ev t1 σ H (.int i)) (h2 : Ev t2 σ H (.int j)) : EvL (tSl (rSlL K) te (tPart t1) (tPart t2)) σ H (((ns.drop i).take (j - i)).map V.int) :=
  EvL.is (el_slS h (eo_some h1) (eo_some h2)) (by rw [List.map_take, List.map_drop]; exact cut_mid _ i j)
section
variable {D : Ends} {tz : TS} {sp : Sp} {dvs vs : List V} {E : XK} {tA : TA}
/-- x = f(..), whatever f promises -/
theorem q_asgC {i : Nat} (h : EvA tA σ H vs) (k : ∀ H1, Ex H H1 → sp (vs ++ dvs) H1 (fun x H2 => tz D (σ.set i (some x)) H2) E) : tSeq (tAsg (tCall sp dvs E tA) (gName i)) tz D σ H := h H (Ex.refl H) _ fun H1 e => k H1 e
theorem s_asgC {i : Nat} (h : EvA tA σ H vs) (k : ∀ H1, Ex H H1 → sp (vs ++ dvs) H1 (fun x H2 => D.nx (σ.set i (some x)) H2) E) : tAsg (tCall sp dvs E tA) (gName i) D σ H := h H (Ex.refl H) _ fun H1 e => k H1 e
theorem q_dropC (h : EvA tA σ H vs) (k : ∀ H1, Ex H H1 → sp (vs ++ dvs) H1 (fun _ H2 => tz D σ H2) E) : tSeq (tDrop (tCall sp dvs E tA)) tz D σ H := h H (Ex.refl H) _ fun H1 e => k H1 e
theorem s_retC (h : EvA tA σ H vs) (k : ∀ H1, Ex H H1 → sp (vs ++ dvs) H1 D.rt E) : tRet (tCall sp dvs E tA) D σ H := h H (Ex.refl H) _ fun H1 e => k H1 e
end
theorem gl_get {ns : List Int} {i : Nat} (h : i < ns.length) : ns[i]? = some (ns.getD i 0) := by
  rw [List.getD_eq_getElem?_getD, List.getElem?_eq_getElem h]
  rfl
theorem q_asgRaw {te : TE} {i : Nat} {D : Ends} {tz : TS} (P : V → Hp → Prop) (h : ∀ Q : VK, (∀ x H2, P x H2 → Q x H2) → te σ H Q) (k : ∀ x H2, P x H2 → tz D (σ.set i (some x)) H2) : tSeq (tAsg te (gName i)) tz D σ H := h _ k
/-- a, b = a pair -/
theorem q_asgT {te : TE} {i j : Nat} {D : Ends} {tz : TS} (P : V → V → Hp → Prop) (h : ∀ Q : VK, (∀ t x y H2, P x y H2 → SqT K H2 t [x, y] → Q (.ref t) H2) → te σ H Q) (k : ∀ x y H2, P x y H2 → tz D ((σ.set i (some x)).set j (some y)) H2) :
    tSeq (tAsg te (gTup K 2 (gCons (gName i) (gCons (gName j) gNil)))) tz D σ H := h _ fun t x y H2 hP hT => ⟨t, [x, y], rfl, hT, rfl, x, [y], rfl, y, [], rfl, rfl, k x y H2 hP⟩
/-- the law's cell -/
def cellI (ns : List Int) (k : Int) : Int := ns.getD k.toNat 0
theorem cellI_in {ns : List Int} {k : Int} (h0 : 0 ≤ k) (h : k < ns.length) : ns[k.toNat]? = some (cellI ns k) := by
  unfold cellI
  rw [List.getD_eq_getElem?_getD, List.getElem?_eq_getElem (by omega)]
  rfl
theorem cellI_out {ns : List Int} {k : Int} (h : ¬ k < ns.length) : cellI ns k = 0 := by
  unfold cellI
  rw [List.getD_eq_getElem?_getD, List.getElem?_eq_none (by omega)]
  rfl
end
theorem Ex.get {H H' : Hp} {a : Addr} {o : HO} (e : Ex H H') (h : H a = some o) : H' a = some o := e a o h
local macro_rules | `(tactic| walk_at "hp") => `(tactic| first
  | assumption
  | exact upd_same
  | (refine' Ex.get (by assumption) ?h1; (case h1 => walk_at "hp")))
local macro_rules | `(tactic| walk_at "ex") => `(tactic| first
  | assumption
  | exact Ex.refl _
  | (refine' Ex.trans ?h1 (by assumption); (case h1 => walk_at "ex")))
local macro_rules | `(tactic| walk_at "sq") => `(tactic| first
  | assumption
  | (refine' sq_of ?h1; (case h1 => walk_at "hp"))
  | (refine' ex_l (by assumption) ?h1; (case h1 => walk_at "sq")))
local macro_rules | `(tactic| walk_at "evs") => `(tactic| first
  | (refine' Ev.s ?h1 ?h2; (case h1 => exact ev_var rfl); (case h2 => walk_at "sq"))
  | (refine' EvR.s ?h1; (case h1 => walk_at "evr")))
local macro_rules | `(tactic| walk_at "evr") => `(tactic| first
  | (refine' Ev.r ?h1 ?h2; (case h1 => exact ev_var rfl); (case h2 => walk_at "hp"))
  | (refine' EvL.r ?h1; (case h1 => walk_at "el")))
local macro_rules | `(tactic| walk_at "eo") => `(tactic| first
  | exact eo_none
  | (refine' eo_some ?h1; (case h1 => walk_at "ev")))
local macro_rules | `(tactic| walk_at "el") => `(tactic| first
  | (refine' el_lst ?h1 ?h2; (case h1 => walk_at "ea"); (case h2 => exact Nat.le_of_ble_eq_true rfl))
  | (refine' el_cat ?h1 ?h2 ?h3; (case h1 => walk_at "evr"); (case h2 => walk_at "evr"); (case h3 => walk_at "len"))
  | (refine' el_rep ?h1 ?h2 ?h3 ?h4; (case h1 => walk_at "evr"); (case h2 => walk_at "ev"); (case h3 => walk_at "side2"); (case h4 => walk_at "len"))
  | (refine' el_of ?h1; (case h1 => walk_at "evs"))
  | (refine' el_to ?h1 ?h2; (case h1 => walk_at "evs"); (case h2 => walk_at "ev"))
  | (refine' el_from ?h1 ?h2; (case h1 => walk_at "evs"); (case h2 => walk_at "ev"))
  | (refine' el_mid ?h1 ?h2 ?h3; (case h1 => walk_at "evs"); (case h2 => walk_at "ev"); (case h3 => walk_at "ev"))
  | (refine' el_slS ?h1 ?h2 ?h3; (case h1 => walk_at "evs"); (case h2 => walk_at "eo"); (case h3 => walk_at "eo"))
  | walk_at "elmore")
local macro_rules | `(tactic| walk_at "evmore") => `(tactic| first
  | (refine' ev_lenS ?h1; (case h1 => walk_at "evs"))
  | (refine' ev_sum ?h1; (case h1 => walk_at "evs"))
  | (refine' ev_eqI ?h1 ?h2; (case h1 => walk_at "evs"); (case h2 => walk_at "evs"))
  | (refine' ev_neI ?h1 ?h2; (case h1 => walk_at "evs"); (case h2 => walk_at "evs"))
  | (refine' ev_at ?h1 ?h2 ?h3; (case h1 => walk_at "evs"); (case h2 => walk_at "ev"); (case h3 => walk_at "at"))
  | (refine' ev_isiL ?h1 ?h2; (case h1 => walk_at "ev"); (case h2 => walk_at "hp"))
  | walk_at "evown")
local macro_rules | `(tactic| walk_at "at") => `(tactic| first
  | exact at_of rfl (at_int (by assumption))
  | exact at_of rfl (by assumption))
local macro_rules | `(tactic| walk_at "asgL") => `(tactic| (refine' q_asgL ?h ?h1; (case h => walk_at "el")))
local macro_rules | `(tactic| walk_at "retL") => `(tactic| (refine' s_retL ?h ?h1; (case h => walk_at "el")))

/-- a walk's reading said in other words -/
theorem PI.k {X : Cx} {tg e : Expr} {wi wi' : TI} (h : PI X tg e wi) (q : wi = wi') : PI X tg e wi' := q ▸ h
/-! ### comprehensions whose items are said in a list -/
theorem et_yes {σ : L2.St} {H : Hp} : EvT tYes σ H true := fun H1 _ _ q => q H1 (Ex.refl H1)
section
variable {K : PySem.W.Frag} {σ : L2.St} {H : Hp} {t1 t2 te : TE} {xs ys zs : List V} {vs : List Nat}
theorem take_snoc {zs : List V} {i : Nat} {z : V} (h : zs[i]? = some z) : zs.take (i + 1) = zs.take i ++ [z] := by
  rw [List.take_add_one, h]
  rfl
theorem el_lcZ {j1 j2 : Nat} (zs : List V) (h1 : EvS K t1 σ H xs) (h2 : EvS K t2 σ H ys) (hz : zs.length = min xs.length ys.length) (hb : zs.length ≤ 50000)
    (hw : ∀ x y, wipe (((wipe σ vs).set j1 (some x)).set j2 (some y)) vs = wipe σ vs)
    (he : ∀ (i : Nat) (x y : V) H1, Ex H H1 → xs[i]? = some x → ys[i]? = some y → ∃ z, zs[i]? = some z ∧ Ev te (((wipe σ vs).set j1 (some x)).set j2 (some y)) H1 z) :
    EvL (tLc (iZip K (tCons t1 (tCons t2 tNil))) (gTup K 2 (gCons (gName j1) (gCons (gName j2) gNil))) tYes te vs) σ H zs := fun H0 e Q q =>
  h1 H0 e _ fun p H1 e1 hp => h2 H1 (e.trans e1) _ fun r H2 e2 hr => ⟨p, r, xs, ys, rfl, ex_l e2 hp, hr, fun D hD =>
    ⟨fun i m H' => m = zs.length - i ∧ i ≤ zs.length ∧ Ex H2 H' ∧ H' D = some (.lst (zs.take i)), ⟨zs.length, rfl, Nat.zero_le _, Ex.new hD, upd_same⟩, by
      rintro i m H' ⟨rfl, hi, ex, hd⟩
      have qx : SqL K H' p xs := ex_l (e2.trans ex) hp
      have qy : SqL K H' r ys := ex_l ex hr
      by_cases hlt : i < zs.length
      · have hx : xs[i]? = some xs[i] := List.getElem?_eq_getElem (by omega)
        have hy : ys[i]? = some ys[i] := List.getElem?_eq_getElem (by omega)
        refine .inr ⟨⟨xs, ys, _, _, qx, qy, hx, hy⟩, fun H3 => i + 1 ≤ zs.length ∧ Ex H2 H3 ∧ H3 D = some (.lst (zs.take (i + 1))), fun H3 h3 => ⟨zs.length - (i + 1), by omega, rfl, h3⟩, fun v H3 hv => ?_⟩
        obtain ⟨T, x, y, rfl, hT, rfl, f1, f2⟩ := hv
        have ex3 : Ex H' (upd H' T (.tup [x, y])) := Ex.new hT
        obtain ⟨z, hz1, hz2⟩ := he i x y (upd H' T (.tup [x, y])) ((((e.trans e1).trans e2).trans ex).trans ex3) (f1 _ qx) (f2 _ qy)
        refine ⟨T, [x, y], rfl, st_of upd_same, rfl, x, [y], rfl, y, [], rfl, rfl, hw x y, ?_⟩
        refine hz2 _ (Ex.refl _) _ fun H4 e4 => ⟨zs.take i, e4 _ _ (ex3 _ _ hd), sz_lt (by rw [List.length_take]; omega), hlt, ?_, ?_⟩
        · exact Ex.mut ((ex.trans ex3).trans e4) hD
        · rw [upd_same, take_snoc hz1]
      · have ei : i = zs.length := by omega
        refine .inl ⟨⟨xs, ys, qx, qy, by omega⟩, ?_⟩
        rw [ei, List.take_length] at hd
        exact q D H' (fresh_back (e1.trans e2) hD) ((e1.trans e2).trans ex) hd⟩⟩
/-- over a list, each item kept -/
theorem el_lcS {j : Nat} (zs : List V) (h1 : EvS K t1 σ H xs) (hz : zs.length = xs.length) (hb : zs.length ≤ 50000) (hw : ∀ x, wipe ((wipe σ vs).set j (some x)) vs = wipe σ vs)
    (he : ∀ (i : Nat) (x : V) H1, Ex H H1 → xs[i]? = some x → ∃ z, zs[i]? = some z ∧ Ev te ((wipe σ vs).set j (some x)) H1 z) :
    EvL (tLc (iList K t1) (gName j) tYes te vs) σ H zs := fun H0 e Q q =>
  h1 H0 e _ fun p H1 e1 hp => ⟨p, rfl, ⟨xs, hp⟩, fun D hD => lc_list (xs := xs) (fun i H' => Ex H1 H' ∧ H' D = some (.lst (zs.take i))) ⟨Ex.new hD, upd_same⟩ (fun i H' _ h => ex_l h.1 hp)
    (fun i x H' hi h => ⟨hw x, by
      obtain ⟨z, hz1, hz2⟩ := he i x H' ((e.trans e1).trans h.1) hi
      have hl : i < xs.length := (List.getElem?_eq_some_iff.mp hi).1
      refine hz2 H' (Ex.refl _) _ fun H4 e4 => ⟨zs.take i, e4 _ _ h.2, sz_lt (by rw [List.length_take]; omega), Ex.mut (h.1.trans e4) hD, ?_⟩
      rw [upd_same, take_snoc hz1]⟩)
    (fun H' h => q D H' (fresh_back e1 hD) (e1.trans h.1) (by rw [h.2, ← hz, List.take_length]))⟩
/-- over range(n) -/
theorem el_lcR {ta : TA} {n : Int} {j : Nat} (zs : List V) (h1 : EvA ta σ H [.int n]) (hn : -100000 ≤ n) (hz : zs.length = n.toNat) (hb : zs.length ≤ 50000) (hw : ∀ x, wipe ((wipe σ vs).set j (some x)) vs = wipe σ vs)
    (he : ∀ (i : Nat) H1, Ex H H1 → i < zs.length → ∃ z, zs[i]? = some z ∧ Ev te ((wipe σ vs).set j (some (.int (i : Int)))) H1 z) :
    EvL (tLc (iRng1 ta) (gName j) tYes te vs) σ H zs := fun H0 e Q q =>
  h1 H0 e _ fun H1 e1 => ⟨n, rfl, by omega, by omega, fun D hD => lc_range (lo := 0) (n := n.toNat) (fun i H' => Ex H1 H' ∧ H' D = some (.lst (zs.take i))) ⟨Ex.new hD, upd_same⟩
    (fun i H' hi h => by
      have e0 : (0 : Int) + (i : Int) = (i : Int) := Int.zero_add _
      rw [e0]
      obtain ⟨z, hz1, hz2⟩ := he i H' ((e.trans e1).trans h.1) (by omega)
      refine ⟨hw _, hz2 H' (Ex.refl _) _ fun H4 e4 => ⟨zs.take i, e4 _ _ h.2, sz_lt (by rw [List.length_take]; omega), Ex.mut (h.1.trans e4) hD, ?_⟩⟩
      rw [upd_same, take_snoc hz1])
    (fun H' h => q D H' (fresh_back e1 hD) (e1.trans h.1) (by rw [h.2, show n.toNat = zs.length by omega, List.take_length]))⟩
/-- y = [.. for x in f(..)], whatever f promises -/
theorem s_asgLC {sp : Sp} {dvs args : List V} {E : XK} {ta : TA} {g : TG} {tt : TT} {D : Ends} {i : Nat} (h : EvA ta σ H args) (k : ∀ H1, Ex H H1 → sp (args ++ dvs) H1 (fun x H2 => tAsg (tLc (iList K (tC x)) g tt te vs) (gName i) D σ H2) E) :
    tAsg (tLc (iList K (tCall sp dvs E ta)) g tt te vs) (gName i) D σ H := h H (Ex.refl H) _ fun H1 e => k H1 e
theorem q_asgLC {sp : Sp} {dvs args : List V} {E : XK} {ta : TA} {g : TG} {tt : TT} {D : Ends} {i : Nat} {tz : TS} (h : EvA ta σ H args) (k : ∀ H1, Ex H H1 → sp (args ++ dvs) H1 (fun x H2 => tSeq (tAsg (tLc (iList K (tC x)) g tt te vs) (gName i)) tz D σ H2) E) :
    tSeq (tAsg (tLc (iList K (tCall sp dvs E ta)) g tt te vs) (gName i)) tz D σ H := h H (Ex.refl H) _ fun H1 e => k H1 e
theorem s_retLC {sp : Sp} {dvs args : List V} {E : XK} {ta : TA} {g : TG} {tt : TT} {D : Ends} (h : EvA ta σ H args) (k : ∀ H1, Ex H H1 → sp (args ++ dvs) H1 (fun x H2 => tRet (tLc (iList K (tC x)) g tt te vs) D σ H2) E) :
    tRet (tLc (iList K (tCall sp dvs E ta)) g tt te vs) D σ H := h H (Ex.refl H) _ fun H1 e => k H1 e
end

/-! ### calls with keywords, defaults -/
theorem kwAllN {K : PySem.W.Frag} {D : Addr} : ∀ p ∈ ([] : List (Str × V)), ∃ u, PySem.W.nsIn K D p.1 = some (some u) ∧ RelV p.2 u := fun p hp => by cases hp
theorem kwAllC {K : PySem.W.Frag} {D : Addr} {q : Str × V} {l : List (Str × V)} (h : ∃ u, PySem.W.nsIn K D q.1 = some (some u) ∧ RelV q.2 u) (hl : ∀ p ∈ l, ∃ u, PySem.W.nsIn K D p.1 = some (some u) ∧ RelV p.2 u) : ∀ p ∈ q :: l, ∃ u, PySem.W.nsIn K D p.1 = some (some u) ∧ RelV p.2 u := fun p hp => by
  rcases List.mem_cons.mp hp with rfl | hp
  · exact h
  · exact hl p hp
theorem kwAll1 {K : PySem.W.Frag} {D : Addr} {q : Str × V} (h : ∃ u, PySem.W.nsIn K D q.1 = some (some u) ∧ RelV q.2 u) : ∀ p ∈ [q], ∃ u, PySem.W.nsIn K D p.1 = some (some u) ∧ RelV p.2 u := fun p hp => by
  rcases List.mem_cons.mp hp with rfl | hp
  · exact h
  · cases hp
section
variable {K : PySem.W.Frag} {x qual : Str} {params : Arguments} {body : List Stmt} {scope : Scope} {dvs : List V} {kws : List (Str × V)} {f : Addr} {fd : FuncData} {ps : List Str}
/-- f(a, .., k = v, ..), nothing left to a default, no defaults of place -/
theorem fund_kb0 {g : List Value → List Value → List Value} {gV : List V → List V → List V} (F : FunD K x qual params body scope [] kws f fd) (n : Nat) (ks : List Str)
    (hrel : ∀ {vs : List V} {us : List Value} {zs : List V} {ws : List Value}, Vals vs us → Vals zs ws → Vals (gV vs zs) (g us ws))
    (h : ∀ (kV doc pm : Value) (an : Option Addr) (cdv ct : Value) (us ws : List Value), us.length = n → ws.length = ks.length → bindArgs (PySem.W.fnOf x qual params body scope .none kV doc pm an cdv ct) ⟨us, ks.zip ws⟩ = pure (ps.zip (g us ws))) :
    KBn K fd ps n ks g gV := by
  obtain ⟨oc, od, dV, kV, doc, pm, an, cdv, ct, osl, rfl, lk, hcd, hD, hK⟩ := F.ex
  rcases hD with ⟨_, rfl⟩ | ⟨e, _⟩
  · exact ⟨fun s us ws X l1 l2 => .of_eq (h kV doc pm an cdv ct us ws l1 l2), hrel⟩
  · exact absurd rfl e
/-- the same of a def with defaults of place -/
theorem fund_kb1 {g : List Value → List Value → List Value} {gV : List V → List V → List V} (F : FunD K x qual params body scope dvs kws f fd) (hd : dvs ≠ []) (n : Nat) (ks : List Str)
    (hrel : ∀ {vs : List V} {us : List Value} {zs : List V} {ws : List Value}, Vals vs us → Vals zs ws → Vals (gV vs zs) (g us ws))
    (h : ∀ (T : Addr) (kV doc pm : Value) (an : Option Addr) (cdv ct : Value) (us its ws : List Value), us.length = n → its.length = dvs.length → ws.length = ks.length →
      ∃ k, bindArgs (PySem.W.fnOf x qual params body scope (.ref T) kV doc pm an cdv ct) ⟨us, ks.zip ws⟩ = seqItems? (.ref T) >>= k ∧ k (some its.toArray) = pure (ps.zip (g us ws))) :
    KBn K fd ps n ks g gV := by
  obtain ⟨oc, od, dV, kV, doc, pm, an, cdv, ct, osl, rfl, lk, hcd, hD, hK⟩ := F.ex
  rcases hD with ⟨e, _⟩ | ⟨_, T, o, its, m, rfl, lT, oT, rT⟩
  · exact absurd e hd
  · refine ⟨fun s us ws X l1 l2 => ?_, hrel⟩
    obtain ⟨k, e1, e2⟩ := h T kV doc pm an cdv ct us its ws l1 rT.length.symm l2
    refine BindsTo.of_looks fun M => ?_
    rw [e1]
    exact looks_items X lT oT (.of_pure e2)
end

/-- what the top has left -/
structure TX (K : PySem.W.Frag) (mg : Str → Option Value) where
  a_fold : Addr
  d_fold : FuncData
  F_fold : Fun K "fold" "fold" s_fold a_fold d_fold
  b_fold : Binds K d_fold ["n"] []
  g_fold : mg "fold" = some (.ref a_fold)
  a_code_length : Addr
  d_code_length : FuncData
  F_code_length : Fun K "code_length" "code_length" s_code_length a_code_length d_code_length
  b_code_length : Binds K d_code_length ["k", "n"] []
  g_code_length : mg "code_length" = some (.ref a_code_length)
  a_legal_partition_order : Addr
  d_legal_partition_order : FuncData
  F_legal_partition_order : Fun K "legal_partition_order" "legal_partition_order" s_legal_partition_order a_legal_partition_order d_legal_partition_order
  b_legal_partition_order : Binds K d_legal_partition_order ["size", "order", "partition_order"] []
  g_legal_partition_order : mg "legal_partition_order" = some (.ref a_legal_partition_order)
  a_partition_sizes : Addr
  d_partition_sizes : FuncData
  F_partition_sizes : Fun K "partition_sizes" "partition_sizes" s_partition_sizes a_partition_sizes d_partition_sizes
  b_partition_sizes : Binds K d_partition_sizes ["size", "order", "partition_order"] []
  g_partition_sizes : mg "partition_sizes" = some (.ref a_partition_sizes)
  a_plan_fits : Addr
  d_plan_fits : FuncData
  F_plan_fits : Fun K "plan_fits" "plan_fits" s_plan_fits a_plan_fits d_plan_fits
  b_plan_fits : Binds K d_plan_fits ["plan", "residuals", "order"] []
  g_plan_fits : mg "plan_fits" = some (.ref a_plan_fits)
  a_residual_bits : Addr
  d_residual_bits : FuncData
  F_residual_bits : Fun K "residual_bits" "residual_bits" s_residual_bits a_residual_bits d_residual_bits
  b_residual_bits : Binds K d_residual_bits ["plan", "residuals", "order"] []
  g_residual_bits : mg "residual_bits" = some (.ref a_residual_bits)
  a_parts : Addr
  d_parts : FuncData
  F_parts : Fun K "_parts" "_parts" s_parts a_parts d_parts
  b_parts : Binds K d_parts ["residuals", "order", "partition_order"] []
  g_parts : mg "_parts" = some (.ref a_parts)
  a_coding_fits : Addr
  d_coding_fits : FuncData
  F_coding_fits : Fun K "_coding_fits" "_coding_fits" s_coding_fits a_coding_fits d_coding_fits
  b_coding_fits : Binds K d_coding_fits ["coding", "part"] []
  g_coding_fits : mg "_coding_fits" = some (.ref a_coding_fits)
  a_fits_raw : Addr
  d_fits_raw : FuncData
  F_fits_raw : Fun K "_fits_raw" "_fits_raw" s_fits_raw a_fits_raw d_fits_raw
  b_fits_raw : Binds K d_fits_raw ["width", "residual"] []
  g_fits_raw : mg "_fits_raw" = some (.ref a_fits_raw)
  a_coding_width : Addr
  d_coding_width : FuncData
  F_coding_width : Fun K "_coding_width" "_coding_width" s_coding_width a_coding_width d_coding_width
  b_coding_width : Binds K d_coding_width ["method"] []
  g_coding_width : mg "_coding_width" = some (.ref a_coding_width)
  a_part_bits : Addr
  d_part_bits : FuncData
  F_part_bits : Fun K "_part_bits" "_part_bits" s_part_bits a_part_bits d_part_bits
  b_part_bits : Binds K d_part_bits ["method", "coding", "part"] []
  g_part_bits : mg "_part_bits" = some (.ref a_part_bits)
  a_law_cell : Addr
  d_law_cell : FuncData
  F_law_cell : Fun K "_law_cell" "_law_cell" s_law_cell a_law_cell d_law_cell
  b_law_cell : Binds K d_law_cell ["script", "k"] []
  g_law_cell : mg "_law_cell" = some (.ref a_law_cell)
  a_law_row : Addr
  d_law_row : FuncData
  F_law_row : Fun K "_law_row" "_law_row" s_law_row a_law_row d_law_row
  b_law_row : Binds K d_law_row ["cell", "count", "base"] []
  g_law_row : mg "_law_row" = some (.ref a_law_row)
  a_law_values : Addr
  d_law_values : FuncData
  F_law_values : Fun K "_law_values" "_law_values" s_law_values a_law_values d_law_values
  b_law_values : Binds K d_law_values ["coding", "cells"] []
  g_law_values : mg "_law_values" = some (.ref a_law_values)
  a_law_built : Addr
  d_law_built : FuncData
  F_law_built : Fun K "_law_built" "_law_built" s_law_built a_law_built d_law_built
  b_law_built : Binds K d_law_built ["script"] []
  g_law_built : mg "_law_built" = some (.ref a_law_built)
  a_law_fields : Addr
  d_law_fields : FuncData
  F_law_fields : Fun K "_law_fields" "_law_fields" s_law_fields a_law_fields d_law_fields
  b_law_fields : Binds K d_law_fields ["value", "width"] []
  g_law_fields : mg "_law_fields" = some (.ref a_law_fields)
  a_law_code : Addr
  d_law_code : FuncData
  F_law_code : Fun K "_law_code" "_law_code" s_law_code a_law_code d_law_code
  b_law_code : Binds K d_law_code ["k", "value"] []
  g_law_code : mg "_law_code" = some (.ref a_law_code)
  a_law_plan_bits : Addr
  d_law_plan_bits : FuncData
  F_law_plan_bits : Fun K "_law_plan_bits" "_law_plan_bits" s_law_plan_bits a_law_plan_bits d_law_plan_bits
  b_law_plan_bits : Binds K d_law_plan_bits ["plan", "residuals", "order"] []
  g_law_plan_bits : mg "_law_plan_bits" = some (.ref a_law_plan_bits)
  a_law_beyond : Addr
  d_law_beyond : FuncData
  F_law_beyond : Fun K "_law_beyond" "_law_beyond" s_law_beyond a_law_beyond d_law_beyond
  b_law_beyond : Binds K d_law_beyond ["plan", "residuals", "order", "k"] []
  g_law_beyond : mg "_law_beyond" = some (.ref a_law_beyond)
  a_law_refuses : Addr
  d_law_refuses : FuncData
  F_law_refuses : Fun K "_law_refuses" "_law_refuses" s_law_refuses a_law_refuses d_law_refuses
  b_law_refuses : Binds K d_law_refuses ["plan", "residuals", "order"] []
  g_law_refuses : mg "_law_refuses" = some (.ref a_law_refuses)
  a_law : Addr
  d_law : FuncData
  F_law : Fun K "law" "law" s_law a_law d_law
  b_law : Binds K d_law ["script"] []
  g_law : mg "law" = some (.ref a_law)
  m_len : mg "len" = none
  m_all : mg "all" = none
  m_zip : mg "zip" = none
  m_sum : mg "sum" = none
  m_range : mg "range" = none
  m_min : mg "min" = none
  m_tuple : mg "tuple" = none
  m_max : mg "max" = none
  m_list : mg "list" = none
  m_isinstance : mg "isinstance" = none
  m_int : mg "int" = none
  m_bool : mg "bool" = none
section
variable {P : Program} {w : World} {K : PySem.W.Frag} {mg : Str → Option Value} {base : Heap}
/-! ### x is not False -/
def rBl : R2 := fun x y H Q => ∃ a b, x = .bl a ∧ y = .bl b ∧ Q (.bl (!decide (a = b))) H
theorem op_isnotB {X : Cx} : OpR X (compareOp .IsNot) rBl := op_isnot_bl
theorem et_notB {σ : L2.St} {H : Hp} {ta : TE} {a b : Bool} (h : Ev ta σ H (.bl a)) : EvT (tTest (tOp rBl ta (tC (.bl b)))) σ H (!decide (a = b)) := et_test fun H1 e Q q => h H1 e _ fun H2 e2 => ⟨a, b, rfl, rfl, q H2 e2⟩

/-! ### a tuple of one, many times -/
def rRepU (K : PySem.W.Frag) : R2 := fun x y H Q => ∃ l k v, x = .ref l ∧ y = .int k ∧ SqT K H l [v] ∧ 2 ≤ k ∧ k ≤ 100000 ∧ ∀ p, H p = none → Q (.ref p) (upd H p (.tup (List.replicate k.toNat v)))
theorem op_repU {X : Cx} : OpR X (binaryOp .Mult) (rRepU X.K) := by
  intro pins s σ H x y vx vy Q I rx ry h
  obtain ⟨l, k, z, rfl, rfl, hT, h1, h2, q⟩ := h
  cases rx
  obtain ⟨t, rfl⟩ := ry
  obtain ⟨its, r, ⟨⟨cls, dd, data, sl⟩, ho, hc, n, hd⟩, hs⟩ := I.tuple hT
  simp only at hc hd
  subst hc hd
  obtain ⟨z', rfl⟩ : ∃ z', its = [z'] := by
    have := r.length
    match its, this with
    | [a], _ => exact ⟨a, rfl⟩
  have rz : RelV z z' := by cases r; assumption
  have c0 : (decide (k < -(2 ^ 63)) || decide (k ≥ 2 ^ 63)) = false := by rw [decide_eq_false (by omega), decide_eq_false (by omega)]; rfl
  have c1 : (#[z'].isEmpty || k == 1) = false := by
    rw [show #[z'].isEmpty = false from rfl, Bool.false_or]
    exact beq_eq_false_iff_ne.mpr (by omega)
  have c2 : (decide (k ≤ 0) || #[z'].isEmpty) = false := by
    rw [show #[z'].isEmpty = false from rfl, Bool.or_false]
    exact decide_eq_false (by omega)
  have hm : ((#[z'].size : Nat) : Int) * k = k := by show ((1 : Nat) : Int) * k = k; omega
  have c4 : Builtin.Tuple.tupleTooMany (((#[z'].size : Nat) : Int) * k) = false := by
    unfold Builtin.Tuple.tupleTooMany
    rw [hm, sizeLine_eq]
    exact decide_eq_false (by omega)
  have hre : (List.replicate k.toNat [z']).flatten = List.replicate k.toNat z' := by
    induction k.toNat with
    | zero => rfl
    | succ n ih => rw [List.replicate_succ, List.replicate_succ, List.flatten_cons, ih]; rfl
  have hsz : (List.foldl (fun x1 x2 => x1 ++ x2) #[] (List.replicate k.toNat #[z'])) = (List.replicate k.toNat z').toArray := by
    rw [← hre]
    exact size_rep [z'] _
  have hln : k.toNat ≤ sizeLine := sz_of (by omega)
  refine wpAny_binaryOp_repeat_ref (T := "tuple") (U := "int") (by decide) ⟨_, ho, rfl⟩ (fun s' => typeIs_int s' k t) noFill_tuple_mul F.fills_int_mul F.slot_int_rmul repeat_tuple F.slot_int_index.lookup
    (call_meets F.slot_int_rmul (typeIs_int s k t) F.entry_int_rmul (F.args_int_rmul_2 _ _) (int_rmul_tuple k t l #[z'] n dd sl)
      ⟨ho, rfl, ⟨_, ho, rfl⟩, call_meets F.slot_tuple_mul ⟨_, ho, rfl⟩ F.entry_tuple_mul (F.args_tuple_mul_2 _ _) (tuple_mulW l #[z'] n dd sl k t c0 c1 c2 (by rw [hm]; omega) c4 (by rw [hsz, List.size_toArray, List.length_replicate]; exact hln)) ⟨ho, ?_⟩⟩)
  rw [hsz]
  refine ⟨.ref s.heap.objs.size, _, I.laid (t' := s.toks) (o := .tup (List.replicate k.toNat z)) (fun b ob q => Heap.get?_push_of_some _ q) (Nat.le_refl _) ?_, rfl, q _ (I.hok.fresh (Nat.le_refl _))⟩
  refine ⟨by rw [List.length_replicate]; exact hln, List.replicate k.toNat z', ?_, IsTup.new _ _⟩
  induction k.toNat with
  | zero => exact .nil
  | succ n ih => exact .cons rz ih

/-! ### zip of a tuple and a list -/
def ItM (K : PySem.W.Frag) (a b : Addr) : It where
  go i H := ∃ (xs ys : List V) (x y : V), SqT K H a xs ∧ SqL K H b ys ∧ xs[i]? = some x ∧ ys[i]? = some y
  yld i H v H' := ∃ T x y, v = .ref T ∧ H T = none ∧ H' = upd H T (.tup [x, y]) ∧ (∀ xs, SqT K H a xs → xs[i]? = some x) ∧ ∀ ys, SqL K H b ys → ys[i]? = some y
  stop i H := ∃ xs ys : List V, SqT K H a xs ∧ SqL K H b ys ∧ i ≤ xs.length ∧ i ≤ ys.length ∧ (i = xs.length ∨ i = ys.length)
structure Mx (z TI TO i1 i2 a b : Addr) : Prop where
  sep : ZipSep2 z TI TO i1 i2 [i1, a] [i2, b]
  ai : a ≠ i1
  bi : b ≠ i2
structure MxAt (z TI TO i1 i2 a b : Addr) (i : Nat) (h : Heap) : Prop where
  hz : PySem.IsZip h z TI TO .none
  hI : IsTupOf2 h TI (.ref i1) (.ref i2)
  hO : ∃ x y, IsTupOf2 h TO x y
  h1 : h.IsTupleIter i1 a i
  h2 : h.IsListIter i2 b i
theorem five {z TI TO i1 i2 c : Addr} (h : c ∈ [z, TI, TO, i1, i2]) : c = z ∨ c = TI ∨ c = TO ∨ c = i1 ∨ c = i2 := by simpa using h
theorem off {z TI TO i1 i2 c : Addr} (h : c ∉ [z, TI, TO, i1, i2]) : c ≠ z ∧ c ≠ TI ∧ c ≠ TO ∧ c ≠ i1 ∧ c ≠ i2 := by simpa using h
theorem MxAt.has {z TI TO i1 i2 a b : Addr} {i : Nat} {h : Heap} (m : MxAt z TI TO i1 i2 a b i h) : ∀ c ∈ [z, TI, TO, i1, i2], ∃ o, h.get? c = some o ∧ ∀ v, o.data ≠ .cell v := fun c hc => by
  obtain ⟨m1, m2, ⟨_, _, m3⟩, ⟨o4, e4, _, d4⟩, ⟨o5, e5, _, d5⟩⟩ := m
  rcases five hc with rfl | rfl | rfl | rfl | rfl
  · exact ⟨_, m1, fun v e => nomatch e⟩
  · exact ⟨_, m2, fun v e => nomatch e⟩
  · exact ⟨_, m3, fun v e => nomatch e⟩
  · exact ⟨o4, e4, fun v e => nomatch (d4.symm.trans e)⟩
  · exact ⟨o5, e5, fun v e => nomatch (d5.symm.trans e)⟩
theorem MxAt.keep {z TI TO i1 i2 a b : Addr} {i : Nat} {h h' : Heap} (m : MxAt z TI TO i1 i2 a b i h) (k : ∀ c ∈ [z, TI, TO, i1, i2], ∀ o, h.get? c = some o → h'.get? c = some o) : MxAt z TI TO i1 i2 a b i h' := by
  obtain ⟨m1, m2, ⟨x, y, m3⟩, m4, m5⟩ := m
  exact ⟨k z (by simp) _ m1, k TI (by simp) _ m2, ⟨x, y, k TO (by simp) _ m3⟩, m4.at (k i1 (by simp)), m5.at (k i2 (by simp))⟩
theorem get_of {α : Type} {l : List α} {i : Nat} {x : α} (h : l[i]? = some x) : i < l.length := (List.getElem?_eq_some_iff.mp h).1
theorem turn_zipM {P : Program} {w : World} {K : PySem.W.Frag} {elts : List Expr} {kk : Nat} {tpos : Pos} {a b z TI TO i1 i2 : Addr} (D : Mx z TI TO i1 i2 a b) :
    Turn P w K (.Tuple elts kk tpos) (ItM K a b) [z, TI, TO, i1, i2] z (MxAt z TI TO i1 i2 a b) where
  mem := List.mem_cons_self
  obj := fun _ _ m => m.has
  keep := fun _ _ _ m k => m.keep k
  item := by
    rintro X rfl rfl rfl calm i pins s σ H E I out m ⟨xs, ys, x, y, qx, qy, hx, hy⟩
    obtain ⟨ta, ra, pa, _⟩ := I.tuple qx
    obtain ⟨tb, rb, pb, _⟩ := I.list qy
    have none1 : X.A.in1.handled = none := I.ok.hd calm
    have old := m.has
    obtain ⟨m1, m2, ⟨u0, v0, m3⟩, m4, m5⟩ := m
    have la := get_of hx
    have lb := get_of hy
    have wa := ra.length
    have wb := rb.length
    refine wpAny_pyNext_zipD2_item D.sep (Draws.tuple none1 i1 a D.ai ta.toArray) (Draws.list none1 i2 b D.bi tb.toArray) m1 m2 m3 ⟨m4, pa⟩ ⟨m5, pb.isList⟩ (by simp; omega) (by simp; omega) fun u v h1 tk gu gv n1 n3 n4 n5 nT nsz far => ⟨_, rfl, ?_⟩
    obtain ⟨u', eu, ru⟩ := ra.get hx
    obtain ⟨v', ev, rv⟩ := rb.get hy
    obtain rfl : u' = u := Option.some.inj (eu.symm.trans (by simpa using gu))
    obtain rfl : v' = v := Option.some.inj (ev.symm.trans (by simpa using gv))
    refine wpAny_letOwnedTupleGo_zip (s := { s with heap := h1, toks := tk }) n1 fun h2 z2 sb => ?_
    have far2 : ∀ c o, c ∉ [z, TI, TO, i1, i2] → s.heap.get? c = some o → h2.get? c = some o := fun c o hc e => by
      obtain ⟨c1, _, c3, c4, c5⟩ := off hc
      exact (sb.2 c c1).trans (far c o c1 c3 c4 c5 e)
    have ne : z ≠ s.heap.objs.size := Nat.ne_of_lt (Heap.lt_size m1)
    have tup : IsTupOf2 h2 s.heap.objs.size u' v' := (sb.2 _ ne.symm).trans nT
    have ok2 : ObjOk X.prog X.w (upd H s.heap.objs.size (.tup [x, y])) h2 s.heap.objs.size (.tup [x, y]) := ⟨sz_of (n := 2) (by decide), [u', v'], .cons ru (.cons rv .nil), ⟨_, tup, rfl, _, rfl⟩⟩
    have free := I.hok.fresh (Nat.le_refl s.heap.objs.size)
    refine ⟨.ref s.heap.objs.size, upd H s.heap.objs.size (.tup [x, y]), I.turnedNew (t' := tk) far2 out (Nat.le_refl _) ok2, rfl, ⟨_, x, y, rfl, free, rfl, fun l q => I.tuple_inj qx q ▸ hx, fun l q => I.list_inj qy q ▸ hy⟩, ?_, fun c hc => ?_⟩
    · exact ⟨z2, (sb.2 _ D.sep.TIz).trans (far _ _ D.sep.TIz D.sep.TITO D.sep.TIi1 D.sep.TIi2 m2), ⟨u', v', (sb.2 _ D.sep.TOz).trans n3⟩, n4.1.at fun o e => (sb.2 _ D.sep.zi1.symm).trans e, n5.1.at fun o e => (sb.2 _ D.sep.zi2.symm).trans e⟩
    · obtain ⟨o, e, _⟩ := old c hc
      rw [upd_ne (Nat.ne_of_lt (Heap.lt_size e))]
      exact (out c hc).1
  done := by
    rintro X rfl rfl rfl calm i pins s σ H E I out m ⟨xs, ys, qx, qy, l1, l2, l3⟩
    obtain ⟨ta, ra, pa, _⟩ := I.tuple qx
    obtain ⟨tb, rb, pb, _⟩ := I.list qy
    have none1 : X.A.in1.handled = none := I.ok.hd calm
    obtain ⟨m1, m2, ⟨u0, v0, m3⟩, m4, m5⟩ := m
    have wa := ra.length
    have wb := rb.length
    refine wpAny_pyNext_zipD2_end D.sep (Draws.tuple none1 i1 a D.ai ta.toArray) (Draws.list none1 i2 b D.bi tb.toArray) m1 m2 m3 ⟨m4, pa⟩ ⟨m5, pb.isList⟩ (by simp; omega) (by simp; omega) (by simp; omega) fun h1 tk far => ⟨rfl, ?_⟩
    refine I.turnedL (t' := tk) (ch := [z, TI, TO, i1, i2]) (fun c o hc e => ?_) out
    obtain ⟨c1, _, c3, c4, c5⟩ := off hc
    exact far c o c1 c3 c4 c5 e
  self := fun _ _ _ _ _ m q => wpAny_pyIter_zip m.hz q
theorem sep_new {n a b : Nat} (ha : a < n) (hb : b < n) : (n + 2 ≠ n + 4) ∧ (n + 3 ≠ n + 4) ∧ (n + 2 ≠ n + 3) ∧ (n + 2 ≠ n) ∧ (n + 4 ∉ [n, a]) ∧ (n + 3 ∉ [n, a]) ∧ (n + 2 ≠ n + 1) ∧ (n + 4 ∉ [n + 1, b]) ∧ (n + 3 ∉ [n + 1, b]) ∧ (n ∉ [n + 1, b]) ∧ (n + 1 ∉ [n, a]) ∧ a ≠ n ∧ b ≠ n + 1 := by
  simp only [List.mem_cons, List.not_mem_nil, or_false, not_or]
  omega
theorem mx_new {n a b : Nat} (ha : a < n) (hb : b < n) : Mx (n + 4) (n + 2) (n + 3) n (n + 1) a b := by
  obtain ⟨h1, h2, h3, h4, h5, h6, h7, h8, h9, h10, h11, h12, h13⟩ := sep_new ha hb
  exact ⟨⟨h1, h2, h3, h4, List.mem_cons_self, h5, h6, h7, List.mem_cons_self, h8, h9, h10, h11⟩, h12, h13⟩
def iZipM (K : PySem.W.Frag) (ta : TA) : TI := fun σ H R => ta σ H fun vs H1 => ∃ a b xs ys, vs = [.ref a, .ref b] ∧ SqT K H1 a xs ∧ SqL K H1 b ys ∧ R (ItM K a b) H1
theorem pi_zipM {X : Cx} {e e2 : Expr} {ta : TA} {p pos tpos : Pos} {elts : List Expr} {kk : Nat} (hg : Gl X "zip") (hm : X.mg "zip" = none) (ha : PA X [e, e2] ta)
    (hs : starEach [e, e2] X.env = (false, eval e X.env) :: starEach [e2] X.env := by rfl) (hpl : (backTo pos (starEach [e2] X.env)).any (·.1) = false := by rfl) : PI X (.Tuple elts kk tpos) (.Call (.Name "zip" p) [e, e2] [] pos) (iZipM X.K ta) := by
  refine ⟨fun pins s0 σ H R I0 h0 => Call_ (ld_blt I0 hg hm PyProof.Rows.boot_zip (PyProof.Rows.callWith_type1 (thn (ha.run pos pins s0 σ H _ I0 h0) ?_) hs hpl))⟩
  rintro us s ⟨vs, H1, I, rel, a, b, xs, ys, rfl, qx, qy, q⟩
  obtain ⟨ta', ra, pa, _⟩ := I.tuple qx
  obtain ⟨tb, rb, pb, _⟩ := I.list qy
  rcases rel with _ | ⟨r1, _ | ⟨r2, _ | _⟩⟩
  cases r1
  cases r2
  have alt : a < s.heap.objs.size := by obtain ⟨o, e, _⟩ := id pa; exact Heap.lt_size e
  have blt : b < s.heap.objs.size := pb.lt
  refine zip_begins2 (begins_tuple a ta'.toArray) (begins_list b tb.toArray) pa pb.isList fun h' hz hI hO g1 g2 hsz hk => wpAny_pyIter_zip hz ?_
  refine ⟨_, [s.heap.objs.size + 4, s.heap.objs.size + 2, s.heap.objs.size + 3, s.heap.objs.size, s.heap.objs.size + 1], _, _, H1, rfl, I.kept (t' := s.toks) hk, turn_zipM (a := a) (b := b) (mx_new alt blt), ⟨hz, hI, ⟨_, _, hO⟩, ⟨_, g1, rfl, rfl⟩, ⟨_, g2, rfl, rfl⟩⟩, fun c hc => ?_, q⟩
  have hle : s.heap.objs.size ≤ c := by
    rcases five hc with rfl | rfl | rfl | rfl | rfl
    · exact Nat.le_add_right _ _
    · exact Nat.le_add_right _ _
    · exact Nat.le_add_right _ _
    · exact Nat.le_refl _
    · exact Nat.le_add_right _ _
  exact I.fpOk hle (I.hok.fresh hle)

/-! ### int(x), bits of a number -/
theorem Ev.is {σ : L2.St} {H : Hp} {te : TE} {x y : V} (h : Ev te σ H x) (e : x = y) : Ev te σ H y := e ▸ h
theorem ev_int1 {σ : L2.St} {H : Hp} {te : TE} {i : Int} (h : Ev te σ H (.int i)) : Ev (tCB (fun xs H Q => (∃ i, xs = [V.int i] ∧ Q (V.int i) H) ∨ ∃ k, xs = [V.bl k] ∧ Q (V.int (if k = true then 1 else 0)) H) (tCons te tNil)) σ H (.int i) :=
  ev_cb (ea_cons h ea_nil) fun H1 _ Q q => .inl ⟨i, rfl, q H1 (Ex.refl H1)⟩
theorem q_augR {σ : L2.St} {H : Hp} {te : TE} {D : Ends} {tz : TS} {i : Nat} {g : Int → Int → V} {a b : Int} (h1 : σ[i]? = some (some (.int a))) (h : Ev te σ H (.int b)) (k : ∀ H1, Ex H H1 → tz D (σ.set i (some (g a b))) H1) : tSeq (tAug i te (rI0 g)) tz D σ H :=
  ⟨_, h1, h H (Ex.refl H) _ fun H1 e => ⟨a, b, rfl, rfl, k H1 e⟩⟩
theorem s_augR {σ : L2.St} {H : Hp} {te : TE} {D : Ends} {i : Nat} {g : Int → Int → V} {a b : Int} (h1 : σ[i]? = some (some (.int a))) (h : Ev te σ H (.int b)) (k : ∀ H1, Ex H H1 → D.nx (σ.set i (some (g a b))) H1) : tAug i te (rI0 g) D σ H :=
  ⟨_, h1, h H (Ex.refl H) _ fun H1 e => ⟨a, b, rfl, rfl, k H1 e⟩⟩
theorem ev_atT {K : PySem.W.Frag} {σ : L2.St} {H : Hp} {tl ti : TE} {t : Addr} {xs : List V} {n : Int} {v : V} (h : Ev tl σ H (.ref t)) (hT : SqT K H t xs) (hi : Ev ti σ H (.int n)) (ha : atI xs n = some v) : Ev (tOp (rIxT K) tl ti) σ H v := fun H1 e Q q =>
  h H1 e _ fun H2 e2 => hi H2 (e.trans e2) _ fun H3 e3 => ⟨t, xs, n, v, rfl, rfl, ex_t ((e.trans e2).trans e3) hT, ha, q H3 (e2.trans e3)⟩
local macro_rules | `(tactic| walk_at "side") => `(tactic| first
  | omega
  | (show CDivW _ _; exact ⟨by omega, by decide⟩)
  | (show CDivW _ _; exact wide_div (b := 80) (by omega) (by omega) (by decide) (by decide)))
local macro_rules | `(tactic| walk_at "evown") => `(tactic| (refine' ev_int1 ?h1; (case h1 => walk_at "ev")))
/-- numbers from 0 on, as such -/
def cs (ds : List Nat) : List Int := ds.map fun d : Nat => (d : Int)
theorem cs_of {ns : List Int} {b : Int} (h : ∀ n ∈ ns, 0 ≤ n ∧ n < b) : ∃ ds : List Nat, ns = cs ds ∧ ds.length = ns.length ∧ ∀ d ∈ ds, (d : Int) < b := by
  refine ⟨ns.map Int.toNat, ?_, List.length_map .., fun d hd => ?_⟩
  · unfold cs
    rw [List.map_map]
    conv => lhs; rw [← List.map_id ns]
    refine List.map_congr_left fun n hn => ?_
    have := (h n hn).1
    show n = ((n.toNat : Nat) : Int)
    omega
  · obtain ⟨n, hn, rfl⟩ := List.mem_map.mp hd
    have := h n hn
    omega
theorem cs_len (ds : List Nat) : (cs ds).length = ds.length := List.length_map ..
theorem cs_at {ds : List Nat} {i : Nat} {d : Nat} (h : ds[i]? = some d) : (cs ds)[i]? = some (d : Int) := by unfold cs; rw [List.getElem?_map, h]; rfl
theorem cs_take (ds : List Nat) (i : Nat) : (cs ds).take i = cs (ds.take i) := by unfold cs; rw [List.map_take]
theorem cs_drop (ds : List Nat) (i : Nat) : (cs ds).drop i = cs (ds.drop i) := by unfold cs; rw [List.map_drop]
theorem cs_append (ds es : List Nat) : cs (ds ++ es) = cs ds ++ cs es := List.map_append ..

def sp_cell (K : PySem.W.Frag) : Sp := fun vs H Q _ => ∃ (a : Addr) (ns : List Int) (k : Int), vs = [.ref a, .int k] ∧ SqL K H a (ns.map V.int) ∧ 0 ≤ k ∧ RetV (.int (cellI ns k)) H Q
theorem ok_law_cell (T : TX K mg) : FnOk P w K mg base CX0 1 T.a_law_cell T.d_law_cell ["script", "k"] (sp_cell K) := by
  refine T.F_law_cell.ok sc_law_cell (fun vs H Q E h => by obtain ⟨a, ns, k, rfl, _⟩ := h; rfl) (fun cdv A outer s H vs Q E hr h => ?_)
  obtain ⟨a, ns, k, rfl, hS, hk, q⟩ := h
  refine ⟨_, (pss_cons (ps_if (pt_cmpR op_lt (pv 1) (pe_callB (r := rLenS K) call_len_seq (by rfl) T.m_len PySem.boot_len (pa_cons (pv 0) pa_nil)) (nomark _)) (pss_one (ps_ret (pe_ix (r := rIxL K) ix_list (pv 0) (pv 1) (fun _ _ => rfl)))) pss_nil)
      (pss_one (ps_ret pe_int))), ?_⟩
  have hl := (ev_lenS (K := K) (Ev.s (te := tVar 0) (σ := start ["script", "k"] [.ref a, .int k]) (ev_var rfl) hS))
  refine q_when (et_test (ev_I0 (ev_var rfl) hl)) ?_ ?_
  · intro hb H1 e1
    have hb : k < ns.length := by
      have := of_decide_eq_true hb
      rwa [List.length_map] at this
    refine s_ret (v := .int (cellI ns k)) (ev_ixS (i := 0) (n := k) (Ev.s (ev_var rfl) (ex_l e1 hS)) (ev_var rfl) ?_) fun H2 e2 => q H2 (e1.trans e2)
    exact at_of (j := k.toNat) (by omega) (at_int (cellI_in hk hb))
  · intro hb H1 e1
    have hb : ¬ k < ns.length := by
      have := of_decide_eq_false hb
      rwa [List.length_map] at this
    walk_at "ret"
    intro H2 e2
    exact ret_eq q (e1.trans e2) (by rw [cellI_out hb])
theorem ev_cell {σ : L2.St} {H : Hp} {ta tk : TE} {E : XK} {ns : List Int} {k : Int} {a : Addr} (ha : Ev ta σ H (.ref a)) (hS : SqL K H a (ns.map V.int)) (hk : Ev tk σ H (.int k)) (h0 : 0 ≤ k) : Ev (tCall (sp_cell K) [] E (tCons ta (tCons tk tNil))) σ H (.int (cellI ns k)) :=
  ev_call (ea_cons ha (ea_cons hk ea_nil)) fun H1 e Q q _ => ⟨a, ns, k, rfl, ex_l e hS, h0, q⟩
local macro_rules | `(tactic| walk_at "evown") => `(tactic| (refine' ev_cell ?h1 ?h2 ?h3 ?h4; (case h1 => exact ev_var rfl); (case h2 => walk_at "sq"); (case h3 => walk_at "ev"); (case h4 => walk_at "side")))

/-! ### objects: fields, methods, making -/
section
variable {K : PySem.W.Frag} {σ : L2.St} {H : Hp} {to te tv : TE} {a C : Addr} {dx : Addr} {fs : List (Str × V)} {f m : Str} {v : V} {D : Ends} {tz : TS} {sp : Sp} {dvs vs : List V} {E : XK} {t : TA}
theorem ev_fld (c : Cls K C) (hn : NoAttr K C f) (h : Ev to σ H (.ref a)) (hx : H a = some (.ins C dx fs)) (hl : fs.lookup f = some v) : Ev (tFld K to f) σ H v := fun H1 e Q q => h H1 e _ fun H2 e2 => ⟨a, C, dx, fs, v, rfl, (e.trans e2) _ _ hx, c, hn, hl, q H2 e2⟩
theorem q_fld (c : Cls K C) (hn : NoAttr K C f) (hv : Ev tv σ H v) (h : Ev to σ H (.ref a)) (hx : H a = some (.ins C dx fs)) (hl : fs.length < 1000) (k : ∀ H1, Ex H H1 → tz D σ (upd H1 a (.ins C dx (putF f v fs)))) : tSeq (sFld K to tv f) tz D σ H :=
  hv H (Ex.refl H) _ fun H1 e1 => h H1 e1 _ fun H2 e2 => ⟨a, C, dx, fs, rfl, (e1.trans e2) _ _ hx, c, hn, hl, k H2 (e1.trans e2)⟩
theorem s_fld (c : Cls K C) (hn : NoAttr K C f) (hv : Ev tv σ H v) (h : Ev to σ H (.ref a)) (hx : H a = some (.ins C dx fs)) (hl : fs.length < 1000) (k : ∀ H1, Ex H H1 → D.nx σ (upd H1 a (.ins C dx (putF f v fs)))) : sFld K to tv f D σ H :=
  hv H (Ex.refl H) _ fun H1 e1 => h H1 e1 _ fun H2 e2 => ⟨a, C, dx, fs, rfl, (e1.trans e2) _ _ hx, c, hn, hl, k H2 (e1.trans e2)⟩
theorem q_fldL {xs : List V} (c : Cls K C) (hn : NoAttr K C f) (hv : EvL tv σ H xs) (h : ∀ H1, Ex H H1 → Ev to σ H1 (.ref a)) (hx : H a = some (.ins C dx fs)) (hl : fs.length < 1000) (k : ∀ p H1, H p = none → Ex H H1 → H1 p = some (.lst xs) → tz D σ (upd H1 a (.ins C dx (putF f (.ref p) fs)))) : tSeq (sFld K to tv f) tz D σ H :=
  hv H (Ex.refl H) _ fun p H1 hp e1 g1 => h H1 e1 H1 (Ex.refl H1) _ fun H2 e2 => ⟨a, C, dx, fs, rfl, (e1.trans e2) _ _ hx, c, hn, hl, k p H2 hp (e1.trans e2) (e2 _ _ g1)⟩
/-- o.m(..), whatever m promises -/
theorem mth (h : Ev to σ H (.ref a)) (hx : H a = some (.ins C dx fs)) (hm : fs.lookup m = none) (ha : EvA t σ H vs) {Q : VK} (k : ∀ H1, Ex H H1 → sp (.ref a :: (vs ++ dvs)) H1 Q E) : tMeth C m sp dvs E to t σ H Q :=
  h H (Ex.refl H) _ fun H1 e1 => ⟨a, dx, fs, rfl, e1 _ _ hx, hm, ha H1 e1 _ fun H2 e2 => k H2 (e1.trans e2)⟩
theorem q_dropM (h : Ev to σ H (.ref a)) (hx : H a = some (.ins C dx fs)) (hm : fs.lookup m = none) (ha : EvA t σ H vs) (k : ∀ H1, Ex H H1 → sp (.ref a :: (vs ++ dvs)) H1 (fun _ H2 => tz D σ H2) E) : tSeq (tDrop (tMeth C m sp dvs E to t)) tz D σ H := mth h hx hm ha k
theorem s_dropM (h : Ev to σ H (.ref a)) (hx : H a = some (.ins C dx fs)) (hm : fs.lookup m = none) (ha : EvA t σ H vs) (k : ∀ H1, Ex H H1 → sp (.ref a :: (vs ++ dvs)) H1 (fun _ H2 => D.nx σ H2) E) : tDrop (tMeth C m sp dvs E to t) D σ H := mth h hx hm ha k
theorem q_asgM {i : Nat} (h : Ev to σ H (.ref a)) (hx : H a = some (.ins C dx fs)) (hm : fs.lookup m = none) (ha : EvA t σ H vs) (k : ∀ H1, Ex H H1 → sp (.ref a :: (vs ++ dvs)) H1 (fun x H2 => tz D (σ.set i (some x)) H2) E) : tSeq (tAsg (tMeth C m sp dvs E to t) (gName i)) tz D σ H := mth h hx hm ha k
theorem s_retM (h : Ev to σ H (.ref a)) (hx : H a = some (.ins C dx fs)) (hm : fs.lookup m = none) (ha : EvA t σ H vs) (k : ∀ H1, Ex H H1 → sp (.ref a :: (vs ++ dvs)) H1 D.rt E) : tRet (tMeth C m sp dvs E to t) D σ H := mth h hx hm ha k
/-- a method that changes nothing and gives a value -/
theorem ev_mth (h : Ev to σ H (.ref a)) (hx : H a = some (.ins C dx fs)) (hm : fs.lookup m = none) (ha : EvA t σ H vs) (k : SpV sp (.ref a :: (vs ++ dvs)) H v) : Ev (tMeth C m sp dvs E to t) σ H v := fun H1 e Q q =>
  h H1 e _ fun H2 e2 => ⟨a, dx, fs, rfl, (e.trans e2) _ _ hx, hm, ha H2 (e.trans e2) _ fun H3 e3 => k H3 ((e.trans e2).trans e3) Q (fun H4 e4 => q H4 ((e2.trans e3).trans e4)) E⟩
end
theorem fresh_ne {H : Hp} {p q : Addr} {o : HO} (hp : H p = none) (hq : H q = some o) : q ≠ p := ne_of_none hq hp
theorem bitNot_eq (x : Int) : Builtin.bitNot x = -x - 1 := rfl
theorem bitAnd_maskZ (x : Int) (k : Nat) : Builtin.bitAnd x (2 ^ k - 1) = x % 2 ^ k := by
  by_cases h : 0 ≤ x
  · exact _root_.Bits.bitAnd_mask k h
  · have hp : (1 : Int) ≤ 2 ^ k := by
      have : 0 < 2 ^ k := Nat.two_pow_pos k
      have h2 : ((2 : Int) ^ k) = ((2 ^ k : Nat) : Int) := by rw [Int.natCast_pow]; rfl
      omega
    rw [PyProof.Rows.bitAnd_np h (by omega), Nat.and_comm]
    have h2 : ((2 : Int) ^ k) = ((2 ^ k : Nat) : Int) := by rw [Int.natCast_pow]; rfl
    have h3 : ((2 : Int) ^ k - 1).toNat = 2 ^ k - 1 := by omega
    rw [h3, Nat.and_two_pow_sub_one_eq_mod, bitNot_eq]
    have h4 : ((-x - 1).toNat : Int) = -x - 1 := by omega
    rw [h2, Int.natCast_emod, h4]
    generalize 2 ^ k = m at *
    have hm : (0 : Int) < (m : Int) := by omega
    have e1 := Int.emod_add_mul_ediv x m
    have e2 := Int.emod_add_mul_ediv (-x - 1) m
    have a1 := Int.emod_nonneg x (by omega : (m : Int) ≠ 0)
    have a2 := Int.emod_lt_of_pos x hm
    have b1 := Int.emod_nonneg (-x - 1) (by omega : (m : Int) ≠ 0)
    have b2 := Int.emod_lt_of_pos (-x - 1) hm
    generalize x % (m : Int) = r at *
    generalize (-x - 1) % (m : Int) = s at *
    generalize x / (m : Int) = p at *
    generalize (-x - 1) / (m : Int) = q at *
    -- r + s + 1 is a multiple of m between 1 and 2m - 1
    have e3 : r + s + 1 = m * (-(p + q)) := by
      rw [Int.mul_neg, Int.mul_add]
      omega
    have h5 : -(p + q) = 1 := by
      have c1 : 0 < (m : Int) * (-(p + q)) := by omega
      have c2 : (m : Int) * (-(p + q)) < m * 2 := by omega
      have c3 := Int.pos_of_mul_pos_right (a := (m : Int)) (b := -(p + q)) (by exact c1) hm
      have c4 : -(p + q) < 2 := Int.lt_of_mul_lt_mul_left c2 (by omega)
      omega
    rw [h5, Int.mul_one] at e3
    omega
theorem q_fldaugI {K : PySem.W.Frag} {σ : L2.St} {H : Hp} {to tv : TE} {a C dx : Addr} {fs : List (Str × V)} {f : Str} {i j : Int} {D : Ends} {tz : TS} (c : Cls K C) (hn : NoAttr K C f) (h : Ev to σ H (.ref a)) (hx : H a = some (.ins C dx fs)) (hl : fs.lookup f = some (.int i)) (hv : Ev tv σ H (.int j)) (hz : fs.length < 1000)
    (k : ∀ H1, Ex H H1 → tz D σ (upd H1 a (.ins C dx (putF f (.int (i + j)) fs)))) : tSeq (sFldAug K to tv rAdd f) tz D σ H :=
  h H (Ex.refl H) _ fun H1 e1 => ⟨a, C, dx, fs, .int i, rfl, e1 _ _ hx, c, hn, hl, hv H1 e1 _ fun H2 e2 => ⟨i, j, rfl, rfl, dx, fs, (e1.trans e2) _ _ hx, hz, k H2 (e1.trans e2)⟩⟩
/-- [e for j in range(n)] whose element changes objects -/
theorem tlc_rngM {ta : TA} {te : TE} {vs : List Nat} {n : Int} {j : Nat} {σ : L2.St} {H : Hp} {Q : VK} (h : EvA ta σ H [.int n]) (hn : -100000 ≤ n ∧ n ≤ 100000)
    (k : ∀ H1, Ex H H1 → ∀ Dl, H1 Dl = none → ∃ Pv : Nat → Hp → Prop, Pv 0 (upd H1 Dl (.lst [])) ∧ (∀ (i : Nat) H', i < n.toNat → Pv i H' → wipe ((wipe σ vs).set j (some (.int (i : Int)))) vs = wipe σ vs ∧ te ((wipe σ vs).set j (some (.int (i : Int)))) H' fun y H4 => ∃ acc, H4 Dl = some (.lst acc) ∧ acc.length < sizeLine ∧ Pv (i + 1) (upd H4 Dl (.lst (acc ++ [y])))) ∧ (∀ H', Pv n.toNat H' → Q (.ref Dl) H')) :
    tLc (iRng1 ta) (gName j) tYes te vs σ H Q := h H (Ex.refl H) _ fun H1 e1 => ⟨n, rfl, by omega, by omega, fun Dl hD => by
  obtain ⟨Pv, h0, hs, hd⟩ := k H1 e1 Dl hD
  refine lc_range (lo := 0) (n := n.toNat) Pv h0 (fun i H' hi p => ?_) hd
  rw [Int.zero_add]
  exact hs i H' hi p⟩

theorem pow_cast (k : Nat) : ((2 : Int) ^ k) = ((2 ^ k : Nat) : Int) := by rw [Int.natCast_pow]; rfl
theorem pow_pos2 (i : Nat) : (0 : Int) < 2 ^ i := Int.pow_pos (by decide)
theorem pow_le16 {m : Nat} (h : m ≤ 16) : (2 : Int) ^ m ≤ 65536 := by
  have h1 : 2 ^ m ≤ 2 ^ 16 := Nat.pow_le_pow_right (by decide) h
  have h2 : ((2 : Int) ^ m) = ((2 ^ m : Nat) : Int) := by rw [Int.natCast_pow]; rfl
  omega
/-! ### the program -/
def sp_legal : Sp := fun vs H Q _ => ∃ (s o : Int) (m : Nat), vs = [.int s, .int o, .int m] ∧ m ≤ 16 ∧ RetV (.bl (decide (s % 2 ^ m = 0) && decide (o < s / 2 ^ m))) H Q
theorem ok_legal_partition_order (T : TX K mg) : FnOk P w K mg base CX0 1 T.a_legal_partition_order T.d_legal_partition_order ["size", "order", "partition_order"] sp_legal := by
  refine T.F_legal_partition_order.ok sc_legal_partition_order (fun vs H Q E h => by obtain ⟨s, o, m, rfl, _⟩ := h; rfl) (fun cdv A outer s H vs Q E hr h => ?_)
  obtain ⟨s, o, m, rfl, hm, k⟩ := h
  have h1 := pow_pos2 m
  have h2 := pow_le16 hm
  refine ⟨_, (pss_cons (ps_set (i := 3) sc_legal_partition_order.nd rfl (Or.inl rfl) (pe_op op_shl pe_int (pv 2)))
      (pss_one (ps_ret (pe_and (pe_cmpR op_eq (pe_op op_mod (pv 0) (pv 3)) pe_int (nomark _)) (pe_one (pe_cmpR op_gt (pe_op op_fdiv (pv 0) (pv 3)) (pv 1) (nomark _))))))), ?_⟩
  refine q_asg (v := .int (2 ^ m)) (ev_is (v := .int (1 * 2 ^ (m : Int).toNat)) (by walk_at "ev") (by rw [Int.toNat_natCast, Int.one_mul])) fun H1 e1 => ?_
  walk_at "ret"
  intro H2 e2
  refine ret_eq k (e1.trans e2) ?_
  have e0 : decide (V.int (s % 2 ^ m) = V.int 0) = decide (s % 2 ^ m = 0) := by simp
  rw [e0]
def sp_sizes : Sp := fun vs H Q _ => ∃ (s o : Int) (m : Nat), vs = [.int s, .int o, .int m] ∧ m ≤ 16 ∧ RetL (((s / 2 ^ m - o) :: List.replicate (2 ^ m - 1) (s / 2 ^ m)).map V.int) H Q
theorem ok_partition_sizes (T : TX K mg) : FnOk P w K mg base CX0 1 T.a_partition_sizes T.d_partition_sizes ["size", "order", "partition_order"] sp_sizes := by
  refine T.F_partition_sizes.ok sc_partition_sizes (fun vs H Q E h => by obtain ⟨s, o, m, rfl, _⟩ := h; rfl) (fun cdv A outer s H vs Q E hr h => ?_)
  obtain ⟨s, o, m, rfl, hm, k⟩ := h
  have h1 := pow_pos2 m
  have h2 := pow_le16 hm
  have h3 : ((2 : Int) ^ m - 1).toNat = 2 ^ m - 1 := by
    have : ((2 : Int) ^ m) = ((2 ^ m : Nat) : Int) := by rw [Int.natCast_pow]; rfl
    omega
  have h4 : 2 ^ m ≤ 65536 := by
    have : ((2 : Int) ^ m) = ((2 ^ m : Nat) : Int) := by rw [Int.natCast_pow]; rfl
    omega
  refine ⟨_, (pss_cons (ps_set (i := 3) sc_partition_sizes.nd rfl (Or.inl rfl) (pe_op op_shr (pv 0) (pv 2)))
      (pss_one (ps_ret (pe_op op_cat (pe_lst (pa_cons (pe_op op_sub (pv 3) (pv 1)) pa_nil)) (pe_op op_rep (pe_lst (pa_cons (pv 3) pa_nil)) (pe_op op_sub (pe_op op_shl pe_int (pv 2)) pe_int)))))), ?_⟩
  refine q_asg (v := .int (s / 2 ^ m)) (ev_is (v := .int (s / 2 ^ (m : Int).toNat)) (by walk_at "ev") (by rw [Int.toNat_natCast])) fun H1 e1 => ?_
  refine s_retL (EvL.is (el_cat (xs := [.int (s / 2 ^ m - o)]) (ys := List.replicate (2 ^ m - 1) (.int (s / 2 ^ m))) (EvL.r (el_lst (by walk_at "ea") (Nat.le_of_ble_eq_true rfl))) (EvL.r (EvL.is (el_rep (xs := [.int (s / 2 ^ m)]) (k := 2 ^ m - 1) (EvL.r (el_lst (by walk_at "ea") (Nat.le_of_ble_eq_true rfl))) (ev_is (v := .int (1 * 2 ^ (m : Int).toNat - 1)) (by walk_at "ev") (by rw [Int.toNat_natCast, Int.one_mul])) (by omega) (by rw [h3]; show 1 * (2 ^ m - 1) ≤ 100000; omega)) (by rw [h3, rep_one]))) (by rw [List.length_replicate]; show 1 + _ ≤ 100000; omega)) (by simp)) fun p H2 hp e2 h2 => k.go e1 hp e2 h2
theorem el_sizes {σ : L2.St} {H : Hp} {t1 t2 t3 : TE} {E : XK} {s o : Int} {m : Nat} (h1 : Ev t1 σ H (.int s)) (h2 : Ev t2 σ H (.int o)) (h3 : Ev t3 σ H (.int m)) (hm : m ≤ 16) :
    EvL (tCall sp_sizes [] E (tCons t1 (tCons t2 (tCons t3 tNil)))) σ H (((s / 2 ^ m - o) :: List.replicate (2 ^ m - 1) (s / 2 ^ m)).map V.int) :=
  el_call (ea_cons h1 (ea_cons h2 (ea_cons h3 ea_nil))) fun H1 e Q q _ => ⟨s, o, m, rfl, hm, q⟩
theorem ev_legal {σ : L2.St} {H : Hp} {t1 t2 t3 : TE} {E : XK} {s o : Int} {m : Nat} (h1 : Ev t1 σ H (.int s)) (h2 : Ev t2 σ H (.int o)) (h3 : Ev t3 σ H (.int m)) (hm : m ≤ 16) :
    Ev (tCall sp_legal [] E (tCons t1 (tCons t2 (tCons t3 tNil)))) σ H (.bl (decide (s % 2 ^ m = 0) && decide (o < s / 2 ^ m))) :=
  ev_call (ea_cons h1 (ea_cons h2 (ea_cons h3 ea_nil))) fun H1 e Q q _ => ⟨s, o, m, rfl, hm, q⟩

/-- a tuple that is read -/
def EvP (K : PySem.W.Frag) (te : TE) (σ : L2.St) (H : Hp) (xs : List V) : Prop := ∀ H1, Ex H H1 → ∀ Q : VK, (∀ p H2, Ex H1 H2 → SqT K H2 p xs → Q (.ref p) H2) → te σ H1 Q
theorem Ev.p {te : TE} {σ : L2.St} {H : Hp} {a : Addr} {xs : List V} (h : Ev te σ H (.ref a)) (hx : SqT K H a xs) : EvP K te σ H xs := fun H1 e Q q => h H1 e Q fun H2 e2 => q a H2 e2 (ex_t e2 (ex_t e hx))
/-! ### partitions -/
def startN (o w i : Nat) : Nat := i * w - o
def sizeN (o w i : Nat) : Nat := if i = 0 then w - o else w
def partL (rs : List Int) (o w i : Nat) : List Int := (rs.drop (startN o w i)).take (sizeN o w i)
theorem start_next {o w i : Nat} (h : o ≤ w) : startN o w i + sizeN o w i = startN o w (i + 1) := by
  unfold startN sizeN
  rw [Nat.succ_mul]
  by_cases hi : i = 0
  · rw [if_pos hi, hi]
    omega
  · rw [if_neg hi]
    have : w ≤ i * w := Nat.le_mul_of_pos_left w (by omega)
    omega
theorem size_at {o w n i : Nat} (h : i < 2 ^ n) (hw : o ≤ w) : ((((w : Int) - (o : Int)) :: List.replicate (2 ^ n - 1) (w : Int)))[i]? = some ((sizeN o w i : Nat) : Int) := by
  unfold sizeN
  cases i with
  | zero => rw [if_pos rfl]; show some _ = _; congr 1; omega
  | succ j => rw [if_neg (by omega), List.getElem?_cons_succ, List.getElem?_replicate, if_pos (by omega)]
theorem part_len {rs : List Int} {o w n i : Nat} (hl : rs.length + o = w * 2 ^ n) (hw : o ≤ w) (hi : i < 2 ^ n) : (partL rs o w i).length = sizeN o w i := by
  have h1 : startN o w (i + 1) ≤ rs.length := by
    unfold startN
    have : (i + 1) * w ≤ 2 ^ n * w := Nat.mul_le_mul_right w hi
    rw [Nat.mul_comm (2 ^ n)] at this
    omega
  have h2 := start_next (i := i) hw
  unfold partL
  rw [List.length_take, List.length_drop]
  omega
def PartsAt (H : Hp) (pp : Addr) (ps : List Addr) (rs : List Int) (o w : Nat) : Prop := H pp = some (.lst (ps.map V.ref)) ∧ ∀ (i : Nat) q, ps[i]? = some q → H q = some (.lst ((partL rs o w i).map V.int))
def sp_parts : Sp := fun vs H Q _ => ∃ (r : Addr) (rs : List Int) (o w n : Nat), vs = [.ref r, .int (o : Int), .int (n : Int)] ∧ H r = some (.lst (rs.map V.int)) ∧ n ≤ 16 ∧ rs.length + o = w * 2 ^ n ∧ o ≤ w ∧ rs.length ≤ 90000 ∧ ∀ pp ps H', H pp = none → Ex H H' → ps.length = 2 ^ n → PartsAt H' pp ps rs o w → Q (.ref pp) H'
theorem q_forL' {σ : L2.St} {H : Hp} {D : Ends} {tu tz : TS} {tl : TE} {g : TG} {xs : List V} (h : EvL tl σ H xs) (k : ∀ p H1, H p = none → Ex H H1 → H1 p = some (.lst xs) → tSeq (tFor (iList K (tC (.ref p))) g tu) tz D σ H1) : tSeq (tFor (iList K tl) g tu) tz D σ H := h H (Ex.refl H) _ fun p H1 hp e g => k p H1 hp e g
theorem ok_parts (T : TX K mg) : FnOk P w K mg base CX0 2 T.a_parts T.d_parts ["residuals", "order", "partition_order"] sp_parts := by
  refine T.F_parts.ok sc_parts (fun vs H Q E h => by obtain ⟨r, rs, o, w, n, rfl, _⟩ := h; rfl) (fun cdv A outer s0 H vs Q E hr h => ?_)
  obtain ⟨r, rs, o, wd, n, rfl, hr0, hn, hl, hw, hrl, k⟩ := h
  refine ⟨_, (pss_cons (ps_set (i := 3) sc_parts.nd rfl (Or.inl rfl) (pe_lst pa_nil))
      (pss_cons (ps_set (i := 4) sc_parts.nd rfl (Or.inl rfl) pe_int)
      (pss_cons (ps_for PassesOwn.never rfl (pi_list (pe_call (ok_partition_sizes T) (hr.mono (by decide)) (by rfl) T.g_partition_sizes T.F_partition_sizes.kp T.b_partition_sizes .nil pass0 (pa_cons (pe_op op_add (pe_callB (r := rLenS K) call_len_seq (by rfl) T.m_len PySem.boot_len (pa_cons (pv 0) pa_nil)) (pv 1)) (pa_cons (pv 1) (pa_cons (pv 2) pa_nil))))) (pg_name (i := 5) sc_parts.nd rfl (Or.inl rfl)) (pss_cons (ps_expr (pe_bm PySem.F.plainAttrs_list PySem.F.slot_list_append PySem.F.type_list_append mt_append (pv 3) (pa_cons (pe_slice (r := rSlL K) sl_list (pv 0) (po_some (pv 4)) (po_some (pe_op op_add (pv 4) (pv 5)))) pa_nil)))
        (pss_one (ps_aug (i := 4) sc_parts.nd rfl (Or.inl rfl) (pv 5) ip_add))))
      (pss_one (ps_ret (pv 3)))))), ?_⟩
  have hp0 := Nat.two_pow_pos n
  have h16 : 2 ^ n ≤ 65536 := Nat.pow_le_pow_right (by decide) hn
  refine q_asgL (xs := []) (el_lst ea_nil (by decide)) fun pp H1 hpp e1 g1 => ?_
  refine q_asg (v := .int 0) ev_c fun H2 e2 => ?_
  have e12 := e1.trans e2
  have hdiv : (((rs.length + o : Nat) : Int)) / 2 ^ n = (wd : Int) := by rw [pow_cast, hl, ← Int.natCast_ediv, Nat.mul_div_cancel _ hp0]
  refine q_forL' (xs := ((((wd : Int) - (o : Int)) :: List.replicate (2 ^ n - 1) (wd : Int))).map V.int) (EvL.is (el_sizes (s := ((rs.length + o : Nat) : Int)) (Ev.is (ev_I0 (ev_lenS (Ev.s (ev_var rfl) (sq_of (e12 _ _ hr0)))) (ev_var rfl)) (congrArg V.int (by rw [List.length_map]; omega))) (ev_var rfl) (ev_var rfl) hn) (by rw [hdiv])) fun ps H3 hps e3 g3 => ?_
  have e13 := e12.trans e3
  have npp : ps ≠ pp := (fresh_ne hps (e2 _ _ g1)).symm
  refine q_forLn (K := K) (a := ps) ev_c (sq_of g3) (fun i σ' H' => ∃ (qs : List Addr) (z5 : Option V), σ' = [some (.ref r), some (.int (o : Int)), some (.int (n : Int)), some (.ref pp), some (.int ((startN o wd i : Nat) : Int)), z5] ∧ Ex H H' ∧ H' ps = some (.lst (((((wd : Int) - (o : Int)) :: List.replicate (2 ^ n - 1) (wd : Int))).map V.int)) ∧ qs.length = i ∧ H' pp = some (.lst (qs.map V.ref)) ∧ (∀ (j : Nat) q, qs[j]? = some q → q ≠ pp ∧ H' q = some (.lst ((partL rs o wd j).map V.int))))
    (fun H4 e4 => ⟨[], none, by unfold startN; rw [Nat.zero_mul, Nat.zero_sub]; rfl, e13.trans e4, e4 _ _ g3, rfl, e4 _ _ (e3 _ _ (e2 _ _ g1)), fun j q h => by simp at h⟩) (fun i σ' H' _ h => by obtain ⟨_, _, _, _, h, _⟩ := h; exact sq_of h) ?_ ?_
  · rintro i x σ' H4 hx ⟨qs, z5, rfl, ex, gs, hql, gpp, hqs⟩
    obtain ⟨c, hc, hi, rfl⟩ := int_at hx
    rw [List.length_cons, List.length_replicate] at hi
    have hi2 : i < 2 ^ n := by omega
    rw [size_at hi2 hw] at hc
    obtain rfl := Option.some.inj hc
    have hst := start_next (i := i) hw
    refine q_appL (ys := (partL rs o wd i).map V.int) gpp (ev_var rfl) (EvL.is (el_mid (ns := rs) (i := startN o wd i) (j := startN o wd i + sizeN o wd i) (Ev.s (ev_var rfl) (sq_of (ex _ _ hr0))) (ev_var rfl) (Ev.is (ev_I0 (ev_var rfl) (ev_var rfl)) (congrArg V.int (by omega)))) (by unfold partL; rw [show startN o wd i + sizeN o wd i - startN o wd i = sizeN o wd i by omega])) (by rw [List.length_map]; omega) fun q H5 hq e5 g5 => ?_
    have nq : q ≠ pp := (fresh_ne hq gpp).symm
    refine s_augR (a := ((startN o wd i : Nat) : Int)) (b := ((sizeN o wd i : Nat) : Int)) rfl (ev_var rfl) fun H6 e6 => ?_
    have hpp0 : H pp = none := hpp
    refine ⟨qs ++ [q], some (.int ((sizeN o wd i : Nat) : Int)), ?_, Ex.trans (Ex.mut (ex.trans e5) hpp0) e6, e6 _ _ (by rw [upd_ne npp]; exact e5 _ _ gs), by rw [List.length_append, hql]; rfl, e6 _ _ (by rw [upd_same, List.map_append]; rfl), fun j u hu => ?_⟩
    · show [_, _, _, _, some (V.int (((startN o wd i : Nat) : Int) + ((sizeN o wd i : Nat) : Int))), _] = _
      rw [show ((startN o wd i : Nat) : Int) + ((sizeN o wd i : Nat) : Int) = ((startN o wd (i + 1) : Nat) : Int) by omega]
    · by_cases hj : j < i
      · rw [List.getElem?_append_left (by omega)] at hu
        obtain ⟨n1, h1⟩ := hqs j u hu
        exact ⟨n1, e6 _ _ (by rw [upd_ne n1]; exact e5 _ _ h1)⟩
      · rw [List.getElem?_append_right (by omega), hql] at hu
        have hj0 : j = i := by
          cases hz : j - i with
          | zero => omega
          | succ m => rw [hz] at hu; simp at hu
        subst hj0
        rw [Nat.sub_self] at hu
        obtain rfl := Option.some.inj hu
        exact ⟨nq, e6 _ _ (by rw [upd_ne nq]; exact g5)⟩
  · rintro σ' H4 ⟨qs, z5, rfl, ex, gs, hql, gpp, hqs⟩
    rw [List.length_map, List.length_cons, List.length_replicate] at hql
    exact s_ret (v := .ref pp) (ev_var rfl) fun H5 e5 => k pp qs H5 hpp (ex.trans e5) (by omega) ⟨e5 _ _ gpp, fun j q h => e5 _ _ (hqs j q h).2⟩
theorem ev_all {σ : L2.St} {H : Hp} {te : TE} {bs : List Bool} {b : Bool} (h : EvS K te σ H (bs.map V.bl)) (hb : bs.all id = b) : Ev (tCB (rAll K) (tCons te tNil)) σ H (.bl b) := fun H1 e Q q => h H1 e _ fun p H2 e2 hp => ⟨p, bs, rfl, hp, by rw [hb]; exact q H2 e2⟩
/-! ### codings -/
structure Cd where
  (raw : Bool) (num : Nat)
def kstr (r : Bool) : Str := if r then "raw" else "rice"
def CdAt (H : Hp) (q : Addr) (c : Cd) : Prop := H q = some (.tup [.str (kstr c.raw), .int (c.num : Int)])
def CdsAt (K : PySem.W.Frag) (H : Hp) (tc : Addr) (qs : List Addr) (cds : List Cd) : Prop := SqT K H tc (qs.map V.ref) ∧ qs.length = cds.length ∧ ∀ (i : Nat) q c, qs[i]? = some q → cds[i]? = some c → CdAt H q c
theorem CdsAt.ex {H H1 : Hp} {tc : Addr} {qs : List Addr} {cds : List Cd} (e : Ex H H1) (h : CdsAt K H tc qs cds) : CdsAt K H1 tc qs cds := ⟨ex_t e h.1, h.2.1, fun i q c a b => e _ _ (h.2.2 i q c a b)⟩
def fitR (wd : Nat) (r : Int) : Bool := if wd = 0 then decide (r = 0) else decide (-((2 ^ (wd - 1) : Nat) : Int) ≤ r) && decide (r < ((2 ^ (wd - 1) : Nat) : Int))
def fitC (c : Cd) (part : List Int) : Bool := if c.raw then part.all (fitR c.num) else true
def sp_fitr : Sp := fun vs H Q _ => ∃ (wd : Nat) (r : Int), vs = [.int (wd : Int), .int r] ∧ wd ≤ 1000 ∧ RetV (.bl (fitR wd r)) H Q
theorem ok_fits_raw (T : TX K mg) : FnOk P w K mg base CX0 1 T.a_fits_raw T.d_fits_raw ["width", "residual"] sp_fitr := by
  refine T.F_fits_raw.ok sc_fits_raw (fun vs H Q E h => by obtain ⟨wd, r, rfl, _⟩ := h; rfl) (fun cdv A outer s0 H vs Q E hr h => ?_)
  obtain ⟨wd, r, rfl, hwd, k⟩ := h
  refine ⟨_, (pss_cons (ps_if (pt_cmpR op_eq (pv 0) pe_int (nomark _)) (pss_one (ps_ret (pe_cmpR op_eq (pv 1) pe_int (nomark _)))) pss_nil)
      (pss_cons (ps_set (i := 2) sc_fits_raw.nd rfl (Or.inl rfl) (pe_op op_shl pe_int (pe_op op_sub (pv 0) pe_int)))
      (pss_one (ps_ret (pe_chain op_le op_lt (pe_un un_neg (pv 2)) (pv 1) (pv 2)))))), ?_⟩
  refine q_when (b := decide (wd = 0)) (et_test (Ev.is (ev_eq (ev_var rfl) ev_c rfl) (congrArg V.bl (decide_eq_decide.mpr ⟨fun h => by have := V.int.inj h; omega, fun h => by rw [h]; rfl⟩)))) (fun hb H1 e1 => ?_) (fun hb H1 e1 => ?_)
  · have hb := of_decide_eq_true hb
    refine s_ret (v := .bl (fitR wd r)) (Ev.is (ev_eq (ev_var rfl) ev_c rfl) (congrArg V.bl ?_)) fun H2 e2 => k H2 (e1.trans e2)
    unfold fitR
    rw [if_pos hb]
    exact decide_eq_decide.mpr ⟨V.int.inj, fun h => by rw [h]⟩
  · have hb := of_decide_eq_false hb
    refine q_asg (v := .int ((2 ^ (wd - 1) : Nat) : Int)) (Ev.is (ev_I (j := ((wd - 1 : Nat) : Int)) ev_c (Ev.is (ev_I0 (ev_var rfl) ev_c) (congrArg V.int (by omega))) (show CPow 1 ((wd - 1 : Nat) : Int) from ⟨by omega, by omega, by decide⟩)) (congrArg V.int (by rw [Int.toNat_natCast, Int.one_mul, pow_cast]))) fun H2 e2 => ?_
    refine s_ret (v := .bl (fitR wd r)) (Ev.is (ev_chain (ev_negI (ev_var rfl)) (ev_var rfl) (ev_var rfl)) (congrArg V.bl ?_)) fun H3 e3 => k H3 ((e1.trans e2).trans e3)
    unfold fitR
    rw [if_neg hb]
theorem ev_strq {σ : L2.St} {H : Hp} {te : TE} {r : Bool} (z : Str) (b : Bool) (h : Ev te σ H (.str (kstr r))) (hb : decide (V.str (kstr r) = V.str z) = b) : EvT (tTest (tOp rEq te (tC (.str z)))) σ H b := et_test (Ev.is (ev_eq h ev_c rfl) (congrArg V.bl hb))
theorem q_asg2T {σ : L2.St} {H : Hp} {te : TE} {i j : Nat} {t : Addr} {x y : V} {D : Ends} {tz : TS} (h : Ev te σ H (.ref t)) (hT : H t = some (.tup [x, y])) (k : ∀ H1, Ex H H1 → tz D ((σ.set i (some x)).set j (some y)) H1) :
    tSeq (tAsg te (gTup K 2 (gCons (gName i) (gCons (gName j) gNil)))) tz D σ H := h H (Ex.refl H) _ fun H1 e1 => ⟨t, [x, y], rfl, st_of (e1 _ _ hT), rfl, x, [y], rfl, y, [], rfl, rfl, k H1 e1⟩
def sp_cfit : Sp := fun vs H Q _ => ∃ (q p : Addr) (c : Cd) (part : List Int), vs = [.ref q, .ref p] ∧ CdAt H q c ∧ H p = some (.lst (part.map V.int)) ∧ c.num ≤ 1000 ∧ part.length ≤ 40000 ∧ RetV (.bl (fitC c part)) H Q
theorem ok_coding_fits (T : TX K mg) : FnOk P w K mg base CX0 2 T.a_coding_fits T.d_coding_fits ["coding", "part"] sp_cfit := by
  refine T.F_coding_fits.ok sc_coding_fits (fun vs H Q E h => by obtain ⟨q, p, c, part, rfl, _⟩ := h; rfl) (fun cdv A outer s0 H vs Q E hr h => ?_)
  obtain ⟨q, p, ⟨raw, num⟩, part, rfl, hq, hp, hn, hl, k⟩ := h
  refine ⟨_, (pss_cons (ps_asg (pv 0) (pg_tup rfl (pgs_cons (pg_name (i := 2) sc_coding_fits.nd rfl (Or.inl rfl)) (pgs_cons (pg_name (i := 3) sc_coding_fits.nd rfl (Or.inr rfl)) pgs_nil))))
      (pss_cons (ps_if (pt_cmpR op_eq (pv 2) pe_str (nomark _)) (pss_one (ps_ret pe_bl)) pss_nil)
      (pss_one (ps_ret (pe_callB (r := rAll K) (cr_all rfl) (by rfl) T.m_all PyProof.Rows.boot_all (pa_cons (pe_lc (own := [("residual", 4)]) (g := gName 4) (tt := tYes) rfl sc_coding_fits.nd (pi_list (pv 1)) (blkOk_by (N := ["coding", "part", "kind", "width", "residual"]) (sc := defScope s_coding_fits) (by decide +kernel)) (fun _ _ _ _ _ => pg_name (i := 4) sc_coding_fits.nd rfl (Or.inl rfl)) (fun _ _ _ _ _ => pts_nil) (fun _ _ _ _ _ => (pe_call (ok_fits_raw T) (hr.mono (by decide)) (by rfl) T.g_fits_raw T.F_fits_raw.kp T.b_fits_raw .nil pass0 (pa_cons (pv 3) (pa_cons (pv 4) pa_nil))))) pa_nil)))))), ?_⟩
  refine q_asg2T (ev_var rfl) hq fun H1 e1 => ?_
  cases raw with
  | false =>
    refine q_when (b := true) (ev_strq "rice" true (ev_var rfl) (show decide (V.str (kstr false) = V.str "rice") = true by decide)) (fun _ H2 e2 => ?_) (fun hb => by cases hb)
    exact s_ret (v := .bl true) ev_c fun H3 e3 => k H3 ((e1.trans e2).trans e3)
  | true =>
    refine q_when (b := false) (ev_strq "rice" false (ev_var rfl) (show decide (V.str (kstr true) = V.str "rice") = false by decide)) (fun hb => by cases hb) fun _ H2 e2 => ?_
    have e12 := e1.trans e2
    have hp2 := e12 _ _ hp
    refine s_ret (v := .bl (fitC ⟨true, num⟩ part)) (ev_all (bs := part.map (fitR num)) (EvR.s (EvL.r (EvL.is (xs := (part.map fun r => V.bl (fitR num r))) (el_lcS _ (Ev.s (ev_var rfl) (sq_of hp2)) (by rw [List.length_map, List.length_map]) (by rw [List.length_map]; omega) (fun _ => rfl) fun i x H3 e3 hx => ?_) (by rw [List.map_map]; rfl)))) ?_) fun H3 e3 => k H3 (e12.trans e3)
    · obtain ⟨r, hr, hi, rfl⟩ := int_at hx
      exact ⟨_, by rw [List.getElem?_map, hr]; rfl, ev_call (ea_cons (ev_var rfl) (ea_cons (ev_var rfl) ea_nil)) fun H4 e4 Q2 q2 _ => ⟨num, r, rfl, hn, q2⟩⟩
    · show _ = part.all (fitR num)
      rw [List.all_map]
      rfl
/-- over zip of a tuple and a list -/
theorem el_lcZM {σ : L2.St} {H : Hp} {t1 t2 te : TE} {xs ys : List V} {vs : List Nat} {j1 j2 : Nat} (zs : List V) (h1 : EvP K t1 σ H xs) (h2 : EvS K t2 σ H ys) (hz1 : zs.length = xs.length) (hz2 : zs.length = ys.length) (hb : zs.length ≤ 50000)
    (hw : ∀ x y, wipe (((wipe σ vs).set j1 (some x)).set j2 (some y)) vs = wipe σ vs)
    (he : ∀ (i : Nat) (x y : V) H1, Ex H H1 → xs[i]? = some x → ys[i]? = some y → ∃ z, zs[i]? = some z ∧ Ev te (((wipe σ vs).set j1 (some x)).set j2 (some y)) H1 z) :
    EvL (tLc (iZipM K (tCons t1 (tCons t2 tNil))) (gTup K 2 (gCons (gName j1) (gCons (gName j2) gNil))) tYes te vs) σ H zs := fun H0 e Q q =>
  h1 H0 e _ fun p H1 e1 hp => h2 H1 (e.trans e1) _ fun r H2 e2 hr => ⟨p, r, xs, ys, rfl, ex_t e2 hp, hr, fun D hD =>
    ⟨fun i m H' => m = zs.length - i ∧ i ≤ zs.length ∧ Ex H2 H' ∧ H' D = some (.lst (zs.take i)), ⟨zs.length, rfl, Nat.zero_le _, Ex.new hD, upd_same⟩, by
      rintro i m H' ⟨rfl, hi, ex, hd⟩
      have qx : SqT K H' p xs := ex_t (e2.trans ex) hp
      have qy : SqL K H' r ys := ex_l ex hr
      by_cases hlt : i < zs.length
      · have hx : xs[i]? = some xs[i] := List.getElem?_eq_getElem (by omega)
        have hy : ys[i]? = some ys[i] := List.getElem?_eq_getElem (by omega)
        refine .inr ⟨⟨xs, ys, _, _, qx, qy, hx, hy⟩, fun H3 => i + 1 ≤ zs.length ∧ Ex H2 H3 ∧ H3 D = some (.lst (zs.take (i + 1))), fun H3 h3 => ⟨zs.length - (i + 1), by omega, rfl, h3⟩, fun v H3 hv => ?_⟩
        obtain ⟨T, x, y, rfl, hT, rfl, f1, f2⟩ := hv
        have ex3 : Ex H' (upd H' T (.tup [x, y])) := Ex.new hT
        obtain ⟨z, hz1, hz2⟩ := he i x y (upd H' T (.tup [x, y])) ((((e.trans e1).trans e2).trans ex).trans ex3) (f1 _ qx) (f2 _ qy)
        refine ⟨T, [x, y], rfl, st_of upd_same, rfl, x, [y], rfl, y, [], rfl, rfl, hw x y, ?_⟩
        refine hz2 _ (Ex.refl _) _ fun H4 e4 => ⟨zs.take i, e4 _ _ (ex3 _ _ hd), sz_lt (by rw [List.length_take]; omega), hlt, ?_, ?_⟩
        · exact Ex.mut ((ex.trans ex3).trans e4) hD
        · rw [upd_same, take_snoc hz1]
      · have ei : i = zs.length := by omega
        refine .inl ⟨⟨xs, ys, qx, qy, by omega, by omega, by omega⟩, ?_⟩
        rw [ei, List.take_length] at hd
        exact q D H' (fresh_back (e1.trans e2) hD) ((e1.trans e2).trans ex) hd⟩⟩
theorem ev_lenT {σ : L2.St} {H : Hp} {te : TE} {xs : List V} (h : EvP K te σ H xs) : Ev (tCB (rLenS K) (tCons te tNil)) σ H (.int (xs.length : Int)) := fun H1 e Q q => h H1 e _ fun p H2 e2 hp => ⟨p, xs, rfl, .inr hp, q H2 e2⟩
def fitP (cds : List Cd) (rs : List Int) (o w : Nat) : Bool := (List.range cds.length).all fun i => fitC (cds.getD i ⟨false, 0⟩) (partL rs o w i)
def fits (n : Nat) (cds : List Cd) (rs : List Int) (o : Nat) : Bool :=
  decide ((rs.length + o) % 2 ^ n = 0) && (decide (o < (rs.length + o) / 2 ^ n) && (decide (cds.length = 2 ^ n) && fitP cds rs o ((rs.length + o) / 2 ^ n)))
def sp_fits (K : PySem.W.Frag) : Sp := fun vs H Q _ => ∃ (t tc r : Addr) (qs : List Addr) (cds : List Cd) (m n o : Nat) (rs : List Int), vs = [.ref t, .ref r, .int (o : Int)] ∧ H t = some (.tup [.int (m : Int), .int (n : Int), .ref tc]) ∧ CdsAt K H tc qs cds ∧ H r = some (.lst (rs.map V.int)) ∧ n ≤ 16 ∧ rs.length ≤ 40000 ∧ (∀ c ∈ cds, c.num ≤ 1000) ∧ cds.length ≤ 40000 ∧ RetV (.bl (fits n cds rs o)) H Q
theorem q_asg3T {σ : L2.St} {H : Hp} {te : TE} {i j l : Nat} {t : Addr} {x y z : V} {D : Ends} {tz : TS} (h : Ev te σ H (.ref t)) (hT : H t = some (.tup [x, y, z])) (k : ∀ H1, Ex H H1 → tz D (((σ.set i (some x)).set j (some y)).set l (some z)) H1) :
    tSeq (tAsg te (gTup K 3 (gCons (gName i) (gCons (gName j) (gCons (gName l) gNil))))) tz D σ H := h H (Ex.refl H) _ fun H1 e1 => ⟨t, [x, y, z], rfl, st_of (e1 _ _ hT), rfl, x, [y, z], rfl, y, [z], rfl, z, [], rfl, rfl, k H1 e1⟩
theorem ok_plan_fits (T : TX K mg) : FnOk P w K mg base CX0 3 T.a_plan_fits T.d_plan_fits ["plan", "residuals", "order"] (sp_fits K) := by
  refine T.F_plan_fits.ok sc_plan_fits (fun vs H Q E h => by obtain ⟨t, tc, r, qs, cds, m, n, o, rs, rfl, _⟩ := h; rfl) (fun cdv A outer s0 H vs Q E hr h => ?_)
  obtain ⟨t, tc, r, qs, cds, m, n, o, rs, rfl, ht, hc, hr0, hn, hrl, hcn, hcl, k⟩ := h
  refine ⟨_, (pss_cons (ps_asg (pv 0) (pg_tup rfl (pgs_cons (pg_name (i := 3) sc_plan_fits.nd rfl (Or.inl rfl)) (pgs_cons (pg_name (i := 4) sc_plan_fits.nd rfl (Or.inl rfl)) (pgs_cons (pg_name (i := 5) sc_plan_fits.nd rfl (Or.inl rfl)) pgs_nil)))))
      (pss_cons (ps_if (pt_not (pt_val (pe_call (ok_legal_partition_order T) (hr.mono (by decide)) (by rfl) T.g_legal_partition_order T.F_legal_partition_order.kp T.b_legal_partition_order .nil pass0 (pa_cons (pe_op op_add (pe_callB (r := rLenS K) call_len_seq (by rfl) T.m_len PySem.boot_len (pa_cons (pv 1) pa_nil)) (pv 2)) (pa_cons (pv 2) (pa_cons (pv 4) pa_nil)))))) (pss_one (ps_ret pe_bl)) pss_nil)
      (pss_cons (ps_if (pt_cmpR op_ne (pe_callB (r := rLenS K) call_len_seq (by rfl) T.m_len PySem.boot_len (pa_cons (pv 5) pa_nil)) (pe_op op_shl pe_int (pv 4)) (nomark _)) (pss_one (ps_ret pe_bl)) pss_nil)
      (pss_cons (ps_set (i := 6) sc_plan_fits.nd rfl (Or.inl rfl) (pe_call (ok_parts T) (hr.mono (by decide)) (by rfl) T.g_parts T.F_parts.kp T.b_parts .nil pass0 (pa_cons (pv 1) (pa_cons (pv 2) (pa_cons (pv 4) pa_nil)))))
      (pss_one (ps_ret (pe_callB (r := rAll K) (cr_all rfl) (by rfl) T.m_all PyProof.Rows.boot_all (pa_cons (pe_lc (own := [("coding", 7), ("part", 8)]) (g := (gTup K 2 (gCons (gName 7) (gCons (gName 8) gNil)))) (tt := tYes) rfl sc_plan_fits.nd (pi_zipM (by rfl) T.m_zip (pa_cons (pv 5) (pa_cons (pv 6) pa_nil))) (blkOk_by (N := ["plan", "residuals", "order", "_", "partition_order", "codings", "parts", "coding", "part"]) (sc := defScope s_plan_fits) (by decide +kernel)) (fun _ _ _ _ _ => (pg_tup rfl (pgs_cons (pg_name (i := 7) sc_plan_fits.nd rfl (Or.inl rfl)) (pgs_cons (pg_name (i := 8) sc_plan_fits.nd rfl (Or.inl rfl)) pgs_nil)))) (fun _ _ _ _ _ => pts_nil) (fun _ _ _ _ _ => (pe_call (ok_coding_fits T) (hr.mono (by decide)) (by rfl) T.g_coding_fits T.F_coding_fits.kp T.b_coding_fits .nil pass0 (pa_cons (pv 7) (pa_cons (pv 8) pa_nil))))) pa_nil)))))))), ?_⟩
  refine q_asg3T (ev_var rfl) ht fun H1 e1 => ?_
  have hp0 := Nat.two_pow_pos n
  have hlv : Ev (tCB (rLenS K) (tCons (tVar 1) tNil)) [some (.ref t), some (.ref r), some (.int (o : Int)), some (.int (m : Int)), some (.int (n : Int)), some (.ref tc), none, none, none] H1 (.int (rs.length : Int)) := Ev.is (ev_lenS (Ev.s (ev_var rfl) (sq_of (e1 _ _ hr0)))) (by rw [List.length_map])
  have hmd : ∀ a : Nat, ((a : Int) % 2 ^ n = 0 ↔ a % 2 ^ n = 0) ∧ (a : Int) / 2 ^ n = ((a / 2 ^ n : Nat) : Int) := fun a => by
    rw [pow_cast]
    generalize 2 ^ n = q at *
    rw [← Int.natCast_emod, ← Int.natCast_ediv]
    exact ⟨by omega, rfl⟩
  obtain ⟨S, hS⟩ : ∃ S, rs.length + o = S := ⟨_, rfl⟩
  have k : RetV (.bl (decide (S % 2 ^ n = 0) && (decide (o < S / 2 ^ n) && (decide (cds.length = 2 ^ n) && fitP cds rs o (S / 2 ^ n))))) H Q := by rw [← hS]; exact k
  have hleg : Ev (tCall sp_legal [] E0 (tCons (tOp (rI0 fun i j => V.int (i + j)) (tCB (rLenS K) (tCons (tVar 1) tNil)) (tVar 2)) (tCons (tVar 2) (tCons (tVar 4) tNil)))) [some (.ref t), some (.ref r), some (.int (o : Int)), some (.int (m : Int)), some (.int (n : Int)), some (.ref tc), none, none, none] H1 (.bl (decide (S % 2 ^ n = 0) && decide (o < S / 2 ^ n))) :=
    Ev.is (ev_legal (s := ((S : Nat) : Int)) (o := (o : Int)) (Ev.is (ev_I0 hlv (ev_var rfl)) (congrArg V.int (by omega))) (ev_var rfl) (ev_var rfl) hn) (congrArg V.bl (by rw [decide_eq_decide.mpr (hmd S).1, (hmd S).2, decide_eq_decide.mpr (show (o : Int) < ((S / 2 ^ n : Nat) : Int) ↔ o < S / 2 ^ n by omega)]))
  refine q_when (et_not (et_B hleg)) (fun hb H2 e2 => ?_) (fun hb H2 e2 => ?_)
  · refine s_ret (v := .bl false) ev_c fun H3 e3 => ?_
    have := k H3 ((e1.trans e2).trans e3)
    rw [← Bool.and_assoc, (Bool.not_eq_true' _).mp hb, Bool.false_and] at this
    exact this
  have hb : (decide (S % 2 ^ n = 0) && decide (o < S / 2 ^ n)) = true := by
    cases hc : (decide (S % 2 ^ n = 0) && decide (o < S / 2 ^ n)) with
    | true => rfl
    | false => rw [hc] at hb; cases hb
  rw [← Bool.and_assoc, hb, Bool.true_and] at k
  rw [Bool.and_eq_true] at hb
  have hm0 := of_decide_eq_true hb.1
  have hlt := of_decide_eq_true hb.2
  have hSw : S = S / 2 ^ n * 2 ^ n := by
    have := Nat.div_add_mod S (2 ^ n)
    rw [hm0, Nat.add_zero, Nat.mul_comm] at this
    exact this.symm
  generalize S / 2 ^ n = wd at *
  have e12 := e1.trans e2
  have hcl2 := hc.2.1
  refine q_when (b := !decide (cds.length = 2 ^ n)) (et_test (Ev.is (ev_ne (ev_lenT (Ev.p (ev_var rfl) (ex_t e12 hc.1))) (Ev.is (ev_I ev_c (ev_var rfl) (show CPow 1 (n : Int) from ⟨by omega, by omega, by decide⟩)) (congrArg V.int (a₂ := ((2 ^ n : Nat) : Int)) (by rw [Int.toNat_natCast, Int.one_mul, pow_cast]))) rfl) (congrArg V.bl (congrArg not (decide_eq_decide.mpr ⟨fun h => by have := V.int.inj h; rw [List.length_map] at this; omega, fun h => by rw [List.length_map, hcl2, h]⟩))))) (fun hb2 H3 e3 => ?_) (fun hb2 H3 e3 => ?_)
  · refine s_ret (v := .bl false) ev_c fun H4 e4 => ?_
    have := k H4 ((e12.trans e3).trans e4)
    rw [(Bool.not_eq_true' _).mp hb2, Bool.false_and] at this
    exact this
  have hb2 : decide (cds.length = 2 ^ n) = true := by
    cases hc2 : decide (cds.length = 2 ^ n) with
    | true => rfl
    | false => rw [hc2] at hb2; cases hb2
  rw [hb2, Bool.true_and] at k
  have hcl3 := of_decide_eq_true hb2
  have e13 := e12.trans e3
  refine q_asgC (vs := [.ref r, .int (o : Int), .int (n : Int)]) (ea_cons (ev_var rfl) (ea_cons (ev_var rfl) (ea_cons (ev_var rfl) ea_nil))) fun H4 e4 => ⟨r, rs, o, wd, n, rfl, (e13.trans e4) _ _ hr0, hn, by omega, by omega, by omega, fun pp ps H5 hpp e5 hpl hP => ?_⟩
  have e15 := e13.trans (e4.trans e5)
  have hc5 := hc.ex e15
  refine s_ret (v := .bl (fitP cds rs o wd)) (ev_all (bs := (List.range cds.length).map fun i => fitC (cds.getD i ⟨false, 0⟩) (partL rs o wd i)) (EvR.s (EvL.r (EvL.is (xs := (List.range cds.length).map fun i => V.bl (fitC (cds.getD i ⟨false, 0⟩) (partL rs o wd i))) (el_lcZM (xs := qs.map V.ref) (ys := ps.map V.ref) _ (Ev.p (ev_var rfl) hc5.1) (Ev.s (ev_var rfl) (sq_of hP.1)) (by rw [List.length_map, List.length_range, List.length_map]; omega) (by rw [List.length_map, List.length_range, List.length_map]; omega) (by rw [List.length_map, List.length_range]; omega) (fun _ _ => rfl) fun i x y H6 e6 hx hy => ?_) (by rw [List.map_map]; rfl)))) ?_) fun H6 e6 => k H6 (e15.trans e6)
  · rw [List.getElem?_map] at hx hy
    obtain ⟨qa, hqa, rfl⟩ := Option.map_eq_some_iff.mp hx
    obtain ⟨pa, hpa, rfl⟩ := Option.map_eq_some_iff.mp hy
    have hi : i < cds.length := by have := (List.getElem?_eq_some_iff.mp hqa).1; omega
    have hci : cds[i]? = some cds[i] := List.getElem?_eq_getElem hi
    have hgd : cds.getD i ⟨false, 0⟩ = cds[i] := by rw [List.getD_eq_getElem?_getD, hci]; rfl
    refine ⟨_, by rw [List.getElem?_map, List.getElem?_range hi]; rfl, ?_⟩
    have hpl2 : (partL rs o wd i).length ≤ 40000 := by unfold partL; rw [List.length_take, List.length_drop]; omega
    exact ev_call (ea_cons (ev_var rfl) (ea_cons (ev_var rfl) ea_nil)) fun H7 e7 Q2 q2 _ => ⟨qa, pa, cds.getD i ⟨false, 0⟩, partL rs o wd i, rfl, (e6.trans e7) _ _ (hc5.2.2 i qa _ hqa (by rw [hci, hgd])), (e6.trans e7) _ _ (hP.2 i pa hpa), by rw [hgd]; exact hcn _ (List.getElem_mem hi), hpl2, q2⟩
  · unfold fitP
    rw [List.all_map]
    rfl

def bits8 (b : Nat) : List Bool := (List.range 8).map fun k => b.testBit (7 - k)
/-! ### fields of bits -/
def bitsN (n v : Nat) : List Bool := (List.range n).map fun k => v.testBit (n - 1 - k)
theorem bitsN_len (n v : Nat) : (bitsN n v).length = n := by unfold bitsN; rw [List.length_map, List.length_range]
theorem bitsN_at {n v i : Nat} (h : i < n) : (bitsN n v)[i]? = some (v.testBit (n - 1 - i)) := by
  unfold bitsN
  rw [List.getElem?_map, List.getElem?_range h]
  rfl
theorem bitsN_congr {n v u : Nat} (h : ∀ i, i < n → v.testBit i = u.testBit i) : bitsN n v = bitsN n u := by
  unfold bitsN
  exact List.map_congr_left fun k hk => h _ (by have := List.mem_range.mp hk; omega)
theorem bitsN_mod (n v : Nat) : bitsN n (v % 2 ^ n) = bitsN n v := bitsN_congr fun i hi => by rw [Nat.testBit_mod_two_pow, decide_eq_true hi, Bool.true_and]
theorem bitsN_add (n w x : Nat) : bitsN (n + w) x = bitsN n (x / 2 ^ w) ++ bitsN w x := by
  refine List.ext_getElem? fun i => ?_
  by_cases h : i < n
  · rw [List.getElem?_append_left (by rw [bitsN_len]; exact h), bitsN_at h, bitsN_at (by omega), Nat.testBit_div_two_pow, show n - 1 - i + w = n + w - 1 - i by omega]
  · rw [List.getElem?_append_right (by rw [bitsN_len]; omega), bitsN_len]
    by_cases h2 : i - n < w
    · rw [bitsN_at h2, bitsN_at (by omega), show w - 1 - (i - n) = n + w - 1 - i by omega]
    · rw [List.getElem?_eq_none (by rw [bitsN_len]; omega), List.getElem?_eq_none (by rw [bitsN_len]; omega)]
theorem bitsN_cat {n w h v : Nat} (hv : v < 2 ^ w) : bitsN (n + w) (h * 2 ^ w + v) = bitsN n h ++ bitsN w v := by
  rw [bitsN_add]
  congr 1
  · rw [Nat.add_comm, Nat.add_mul_div_right _ _ (Nat.two_pow_pos w), Nat.div_eq_of_lt hv, Nat.zero_add]
  · rw [← bitsN_mod, Nat.add_comm, Nat.add_mul_mod_self_right, bitsN_mod]
theorem bits8_N (b : Nat) : bits8 b = bitsN 8 b := rfl
theorem bitsN_zero (n : Nat) : bitsN n 0 = List.replicate n false := by
  unfold bitsN
  refine List.ext_getElem? fun i => ?_
  rw [List.getElem?_map]
  by_cases h : i < n
  · rw [List.getElem?_range h, List.getElem?_replicate, if_pos h]
    show some (Nat.testBit 0 _) = _
    rw [Nat.zero_testBit]
  · rw [List.getElem?_eq_none (by rw [List.length_range]; omega), List.getElem?_eq_none (by rw [List.length_replicate]; omega)]
    rfl
theorem bits_flat_len (ws : List Nat) : (ws.flatMap bits8).length = 8 * ws.length := by
  induction ws with
  | nil => rfl
  | cons d r ih =>
    rw [List.flatMap_cons, List.length_append, ih, List.length_cons]
    show 8 + _ = _
    omega

/-! ### lists of bits, as numbers -/
def b2 (b : Bool) : Int := if b then 1 else 0
theorem b2_bit (n i : Nat) : Builtin.bitAnd ((n : Int) / 2 ^ i) 1 = b2 (n.testBit i) := by
  have h1 : ((n : Int) / 2 ^ i) = ((n / 2 ^ i : Nat) : Int) := by
    rw [Int.natCast_ediv, Int.natCast_pow]
    rfl
  rw [h1, PyProof.Rows.bitAnd_m1, Nat.testBit_eq_decide_div_mod_eq]
  unfold b2
  by_cases h : n / 2 ^ i % 2 = 1
  · rw [decide_eq_true h, if_pos rfl]
    omega
  · rw [decide_eq_false h, if_neg (by decide)]
    omega
def bI (ms : List Bool) : List Int := ms.map b2
theorem bI_len (ms : List Bool) : (bI ms).length = ms.length := List.length_map ..
theorem bI_append (ms ns : List Bool) : bI (ms ++ ns) = bI ms ++ bI ns := List.map_append ..
theorem bI_at {ms : List Bool} {i : Nat} {b : Bool} (h : ms[i]? = some b) : (bI ms)[i]? = some (b2 b) := by unfold bI; rw [List.getElem?_map, h]; rfl
theorem bI_false (n : Nat) : bI (List.replicate n false) = List.replicate n 0 := by unfold bI; rw [List.map_replicate]; rfl
theorem ev_bit {σ : L2.St} {H : Hp} {t1 t2 : TE} {n i : Nat} {j : Int} (h1 : Ev t1 σ H (.int (n : Int))) (h2 : Ev t2 σ H (.int j)) (hj : j = (i : Int)) : Ev (tOp (rI0 fun i j => .int (Builtin.bitAnd i j)) (tOp (rI (fun _ j => 0 ≤ j) fun i j => .int (i / 2 ^ j.toNat)) t1 t2) (tC (.int 1))) σ H (.int (b2 (n.testBit i))) := by
  subst hj
  exact Ev.is (ev_I0 (ev_I h1 h2 (by show (0 : Int) ≤ _; omega)) ev_c) (congrArg V.int (by rw [Int.toNat_natCast]; exact b2_bit n i))
def valL (ms : List Bool) : Nat := ms.foldl (fun a b => 2 * a + b.toNat) 0
theorem valL_snoc (ms : List Bool) (b : Bool) : valL (ms ++ [b]) = 2 * valL ms + b.toNat := by unfold valL; rw [List.foldl_append]; rfl
theorem valL_8 : ∀ d, d < 256 → valL (bits8 d) = d := by decide +kernel
def padN (n : Nat) : Nat := (8 - n % 8) % 8
theorem b2_nat (b : Bool) : b2 b = (b.toNat : Int) := by cases b <;> rfl

def foldI (n : Int) : Int := if n < 0 then -2 * n - 1 else 2 * n
def unfoldI (u : Int) : Int := if u % 2 = 0 then u / 2 else -(u / 2) - 1
theorem foldI_inj {a b : Int} (h : foldI a = foldI b) : a = b := by
  unfold foldI at h
  split at h <;> split at h <;> omega
theorem unfold_fold (n : Int) : unfoldI (foldI n) = n := by
  unfold unfoldI foldI
  split <;> split <;> omega
theorem fold_unfold {u : Int} (h : 0 ≤ u) : foldI (unfoldI u) = u := by
  unfold unfoldI foldI
  split <;> split <;> omega
def sp_fold : Sp := fun vs H Q _ => ∃ n : Int, vs = [.int n] ∧ RetV (.int (foldI n)) H Q
theorem ok_fold (T : TX K mg) : FnOk P w K mg base CX0 1 T.a_fold T.d_fold ["n"] sp_fold := by
  refine T.F_fold.ok sc_fold (fun vs H Q E h => by obtain ⟨n, rfl, _⟩ := h; rfl) (fun cdv A outer s H vs Q E hr h => ?_)
  obtain ⟨n, rfl, k⟩ := h
  refine ⟨_, (pss_cons (ps_if (pt_cmpR op_lt (pv 0) pe_int (nomark _)) (pss_one (ps_ret (pe_op op_sub (pe_op op_mul (pe_un un_neg pe_int) (pv 0)) pe_int))) pss_nil)
      (pss_one (ps_ret (pe_op op_mul pe_int (pv 0))))), ?_⟩
  walk_at "when"
  · intro hb H1 e1
    walk_at "ret"
    intro H2 e2
    refine ret_eq k (e1.trans e2) ?_
    have hb : n < 0 := of_decide_eq_true hb
    unfold foldI
    rw [if_pos hb]
  · intro hb H1 e1
    walk_at "ret"
    intro H2 e2
    refine ret_eq k (e1.trans e2) ?_
    have hb : ¬ n < 0 := of_decide_eq_false hb
    unfold foldI
    rw [if_neg hb]
theorem ev_fold {σ : L2.St} {H : Hp} {te : TE} {E : XK} {n : Int} (h : Ev te σ H (.int n)) : Ev (tCall sp_fold [] E (tCons te tNil)) σ H (.int (foldI n)) := ev_call (ea_cons h ea_nil) fun H1 _ Q q _ => ⟨n, rfl, q⟩

/-! ### Rice codes -/
def codeB (k u : Nat) : List Bool := List.replicate (u / 2 ^ k) false ++ ([true] ++ bitsN k (u % 2 ^ k))
theorem codeB_len (k u : Nat) : (codeB k u).length = u / 2 ^ k + 1 + k := by
  unfold codeB
  rw [List.length_append, List.length_append, List.length_replicate, bitsN_len]
  show u / 2 ^ k + (1 + k) = _
  omega
theorem foldI_nn (n : Int) : 0 ≤ foldI n := by unfold foldI; split <;> omega
theorem foldI_un (u : Nat) : foldI (unfoldI (u : Int)) = (u : Int) := fold_unfold (by omega)
def sp_clen : Sp := fun vs H Q _ => ∃ (k u : Nat) (n : Int), vs = [.int (k : Int), .int n] ∧ foldI n = (u : Int) ∧ RetV (.int ((u / 2 ^ k + 1 + k : Nat) : Int)) H Q
theorem ok_code_length (T : TX K mg) : FnOk P w K mg base CX0 2 T.a_code_length T.d_code_length ["k", "n"] sp_clen := by
  refine T.F_code_length.ok sc_code_length (fun vs H Q E h => by obtain ⟨k, u, n, rfl, _⟩ := h; rfl) (fun cdv A outer s H vs Q E hr h => ?_)
  obtain ⟨k, u, n, rfl, hu, q⟩ := h
  refine ⟨_, (pss_one (ps_ret (pe_op op_add (pe_op op_add (pe_op op_shr (pe_call (ok_fold T) (hr.mono (by decide)) (by rfl) T.g_fold T.F_fold.kp T.b_fold .nil pass0 (pa_cons (pv 1) pa_nil)) (pv 0)) pe_int) (pv 0)))), ?_⟩
  exact s_ret (Ev.is (ev_I0 (ev_I0 (ev_I (Ev.is (ev_fold (ev_var rfl)) (congrArg V.int hu)) (ev_var rfl) (by show (0 : Int) ≤ _; omega)) ev_c) (ev_var rfl)) (congrArg V.int (by rw [Int.toNat_natCast, pow_cast, ← Int.natCast_ediv]; omega))) fun H1 e1 => q H1 e1
theorem ev_clen {σ : L2.St} {H : Hp} {t1 t2 : TE} {E : XK} {k u : Nat} {n : Int} (h1 : Ev t1 σ H (.int (k : Int))) (h2 : Ev t2 σ H (.int n)) (hu : foldI n = (u : Int)) : Ev (tCall sp_clen [] E (tCons t1 (tCons t2 tNil))) σ H (.int ((u / 2 ^ k + 1 + k : Nat) : Int)) := ev_call (ea_cons h1 (ea_cons h2 ea_nil)) fun H1 _ Q q _ => ⟨k, u, n, rfl, hu, q⟩

/-! ### the bits of a plan -/
def clenN (k : Nat) (r : Int) : Nat := (foldI r).toNat / 2 ^ k + 1 + k
def pbits (m : Nat) (c : Cd) (part : List Int) : Nat := 4 + m + if c.raw then 5 + c.num * part.length else (part.map (clenN c.num)).sum
def rbits (m : Nat) (cds : List Cd) (rs : List Int) (o w : Nat) : Nat → Nat
  | 0 => 6
  | i + 1 => rbits m cds rs o w i + pbits m (cds.getD i ⟨false, 0⟩) (partL rs o w i)
theorem walk_zipM {a b : Addr} {xs ys : List V} {n : Nat} (h1 : xs.length = n) (h2 : ys.length = n) : Walk (ItM K a b) n (fun H => SqT K H a xs ∧ SqL K H b ys) (YPair (fun i => xs[i]?) (fun i => ys[i]?)) where
  goes := fun i H hi g => ⟨xs, ys, xs[i]'(by omega), ys[i]'(by omega), g.1, g.2, List.getElem?_eq_getElem _, List.getElem?_eq_getElem _⟩
  stops := fun H g => ⟨xs, ys, g.1, g.2, by omega, by omega, .inl h1.symm⟩
  yields := fun i H x H' hi g ⟨T, x, y, e1, e2, e3, f1, f2⟩ => ⟨T, x, y, e1, e2, e3, f1 _ g.1, f2 _ g.2⟩
theorem q_zipC {σ : L2.St} {H : Hp} {t1 : TE} {tA : TA} {a : Addr} {vs dvs : List V} {sp : Sp} {E : XK} {g : TG} {tu tz : TS} {D : Ends} (h1 : Ev t1 σ H (.ref a)) (h2 : EvA tA σ H vs) (k : ∀ H1, Ex H H1 → sp (vs ++ dvs) H1 (fun y H2 => tSeq (tFor (iZipM K (tCons (tC (.ref a)) (tCons (tC y) tNil))) g tu) tz D σ H2) E) :
    tSeq (tFor (iZipM K (tCons t1 (tCons (tCall sp dvs E tA) tNil))) g tu) tz D σ H := h1 H (Ex.refl H) _ fun H1 e1 => h2 H1 e1 _ fun H2 e2 => k H2 (e1.trans e2)
theorem q_forZM {σ : L2.St} {H : Hp} {a b : Addr} {xs ys : List V} {n : Nat} {j1 j2 : Nat} {tu tz : TS} {D : Ends} (hx : SqT K H a xs) (hy : SqL K H b ys) (h1 : xs.length = n) (h2 : ys.length = n) (Pv : Nat → L2.St → Hp → Prop) (h0 : Pv 0 σ H) (hG : ∀ i σ' H', i ≤ n → Pv i σ' H' → SqT K H' a xs ∧ SqL K H' b ys)
    (hs : ∀ i σ' H' x y, xs[i]? = some x → ys[i]? = some y → Pv i σ' H' → ∀ H1, Ex H' H1 → tu { nx := Pv (i + 1), rt := D.rt, bk := tz D, ct := Pv (i + 1) } ((σ'.set j1 (some x)).set j2 (some y)) H1) (hd : ∀ σ' H', Pv n σ' H' → tz D σ' H') :
    tSeq (tFor (iZipM K (tCons (tC (.ref a)) (tCons (tC (.ref b)) tNil))) (gTup K 2 (gCons (gName j1) (gCons (gName j2) gNil))) tu) tz D σ H :=
  ⟨a, b, xs, ys, rfl, hx, hy, for_it (D := { D with nx := tz D }) (walk_zipM h1 h2) Pv h0 hG (fun i x σ' H1 H2 hi p y => by
    obtain ⟨T, u, v, rfl, hT, rfl, g1, g2⟩ := y
    exact ⟨T, [u, v], rfl, st_of upd_same, rfl, u, [v], rfl, v, [], rfl, rfl, hs i σ' H1 u v g1 g2 p _ (Ex.new hT)⟩) hd⟩
def sp_cw : Sp := fun vs H Q _ => ∃ m : Nat, vs = [.int (m : Int)] ∧ RetV (.int ((4 + m : Nat) : Int)) H Q
theorem ok_coding_width (T : TX K mg) : FnOk P w K mg base CX0 1 T.a_coding_width T.d_coding_width ["method"] sp_cw := by
  refine T.F_coding_width.ok sc_coding_width (fun vs H Q E h => by obtain ⟨m, rfl, _⟩ := h; rfl) (fun cdv A outer s0 H vs Q E hr h => ?_)
  obtain ⟨m, rfl, k⟩ := h
  refine ⟨_, (pss_one (ps_ret (pe_op op_add pe_int (pv 0)))), ?_⟩
  exact s_ret (Ev.is (ev_I0 ev_c (ev_var rfl)) (congrArg V.int (by omega))) fun H1 e1 => k H1 e1
theorem ev_cw {σ : L2.St} {H : Hp} {te : TE} {E : XK} {m : Nat} (h : Ev te σ H (.int (m : Int))) : Ev (tCall sp_cw [] E (tCons te tNil)) σ H (.int ((4 + m : Nat) : Int)) := ev_call (ea_cons h ea_nil) fun H1 e Q q _ => ⟨m, rfl, q⟩
def sp_pbits : Sp := fun vs H Q _ => ∃ (m : Nat) (q p : Addr) (c : Cd) (part : List Int), vs = [.int (m : Int), .ref q, .ref p] ∧ CdAt H q c ∧ H p = some (.lst (part.map V.int)) ∧ c.num ≤ 1000 ∧ part.length ≤ 40000 ∧ RetV (.int ((pbits m c part : Nat) : Int)) H Q
theorem sum_nat (f : Int → Nat) : ∀ l : List Int, (l.map fun r => ((f r : Nat) : Int)).sum = (((l.map f).sum : Nat) : Int)
  | [] => rfl
  | a :: r => by rw [List.map_cons, List.sum_cons, sum_nat f r, List.map_cons, List.sum_cons, Int.natCast_add]
theorem ok_part_bits (T : TX K mg) : FnOk P w K mg base CX0 3 T.a_part_bits T.d_part_bits ["method", "coding", "part"] sp_pbits := by
  refine T.F_part_bits.ok sc_part_bits (fun vs H Q E h => by obtain ⟨m, q, p, c, part, rfl, _⟩ := h; rfl) (fun cdv A outer s0 H vs Q E hr h => ?_)
  obtain ⟨m, q, p, ⟨raw, num⟩, part, rfl, hq, hp, hn, hl, k⟩ := h
  have hn : num ≤ 1000 := hn
  refine ⟨_, (pss_cons (ps_asg (pv 1) (pg_tup rfl (pgs_cons (pg_name (i := 3) sc_part_bits.nd rfl (Or.inl rfl)) (pgs_cons (pg_name (i := 4) sc_part_bits.nd rfl (Or.inr rfl)) pgs_nil))))
      (pss_cons (ps_if (pt_cmpR op_eq (pv 3) pe_str (nomark _)) (pss_one (ps_ret (pe_op op_add (pe_op op_add (pe_call (ok_coding_width T) (hr.mono (by decide)) (by rfl) T.g_coding_width T.F_coding_width.kp T.b_coding_width .nil pass0 (pa_cons (pv 0) pa_nil)) pe_int) (pe_op op_mul (pv 4) (pe_callB (r := rLenS K) call_len_seq (by rfl) T.m_len PySem.boot_len (pa_cons (pv 2) pa_nil)))))) pss_nil)
      (pss_one (ps_ret (pe_op op_add (pe_call (ok_coding_width T) (hr.mono (by decide)) (by rfl) T.g_coding_width T.F_coding_width.kp T.b_coding_width .nil pass0 (pa_cons (pv 0) pa_nil)) (pe_callB (r := rSum K) (cr_sum rfl) (by rfl) T.m_sum PyProof.Rows.boot_sum (pa_cons (pe_lc (own := [("residual", 5)]) (g := gName 5) (tt := tYes) rfl sc_part_bits.nd (pi_list (pv 2)) (blkOk_by (N := ["method", "coding", "part", "kind", "number", "residual"]) (sc := defScope s_part_bits) (by decide +kernel)) (fun _ _ _ _ _ => pg_name (i := 5) sc_part_bits.nd rfl (Or.inl rfl)) (fun _ _ _ _ _ => pts_nil) (fun _ _ _ _ _ => (pe_call (ok_code_length T) (hr.mono (by decide)) (by rfl) T.g_code_length T.F_code_length.kp T.b_code_length .nil pass0 (pa_cons (pv 4) (pa_cons (pv 5) pa_nil))))) pa_nil))))))), ?_⟩
  refine q_asg2T (ev_var rfl) hq fun H1 e1 => ?_
  cases raw with
  | true =>
    refine q_when (b := true) (ev_strq "raw" true (ev_var rfl) (show decide (V.str (kstr true) = V.str "raw") = true by decide)) (fun _ H2 e2 => ?_) (fun hb => by cases hb)
    have e12 := e1.trans e2
    refine s_ret (v := .int ((pbits m ⟨true, num⟩ part : Nat) : Int)) (Ev.is (ev_I0 (ev_I0 (ev_cw (ev_var rfl)) ev_c) (ev_I (ev_var rfl) (Ev.is (ev_lenS (Ev.s (ev_var rfl) (sq_of (e12 _ _ hp)))) (by rw [List.length_map])) (show CMul (num : Int) (part.length : Int) from .inl (by omega)))) (congrArg V.int ?_)) fun H3 e3 => k H3 (e12.trans e3)
    show ((4 + m : Nat) : Int) + 5 + (num : Int) * (part.length : Int) = ((4 + m + (5 + num * part.length) : Nat) : Int)
    rw [← Int.natCast_mul]
    omega
  | false =>
    refine q_when (b := false) (ev_strq "raw" false (ev_var rfl) (show decide (V.str (kstr false) = V.str "raw") = false by decide)) (fun hb => by cases hb) fun _ H2 e2 => ?_
    have e12 := e1.trans e2
    refine s_ret (v := .int ((pbits m ⟨false, num⟩ part : Nat) : Int)) (Ev.is (ev_I0 (ev_cw (ev_var rfl)) (ev_sum (ns := part.map fun r => ((clenN num r : Nat) : Int)) (EvR.s (EvL.r (EvL.is (xs := part.map fun r => V.int ((clenN num r : Nat) : Int)) (el_lcS _ (Ev.s (ev_var rfl) (sq_of (e12 _ _ hp))) (by rw [List.length_map, List.length_map]) (by rw [List.length_map]; omega) (fun _ => rfl) fun i x H3 e3 hx => ?_) (by rw [List.map_map]; rfl)))))) (congrArg V.int ?_)) fun H3 e3 => k H3 (e12.trans e3)
    · obtain ⟨r, hr, hi, rfl⟩ := int_at hx
      exact ⟨_, by rw [List.getElem?_map, hr]; rfl, ev_clen (u := (foldI r).toNat) (ev_var rfl) (ev_var rfl) (by have := foldI_nn r; omega)⟩
    · rw [sum_nat]
      show ((4 + m : Nat) : Int) + _ = ((4 + m + (part.map (clenN num)).sum : Nat) : Int)
      omega
def sp_rbits (K : PySem.W.Frag) : Sp := fun vs H Q _ => ∃ (t tc r : Addr) (qs : List Addr) (cds : List Cd) (m n o wd : Nat) (rs : List Int), vs = [.ref t, .ref r, .int (o : Int)] ∧ H t = some (.tup [.int (m : Int), .int (n : Int), .ref tc]) ∧ CdsAt K H tc qs cds ∧ H r = some (.lst (rs.map V.int)) ∧ n ≤ 16 ∧ rs.length ≤ 40000 ∧ (∀ c ∈ cds, c.num ≤ 1000) ∧ cds.length = 2 ^ n ∧ rs.length + o = wd * 2 ^ n ∧ o ≤ wd ∧ RetV (.int ((rbits m cds rs o wd cds.length : Nat) : Int)) H Q
theorem ok_residual_bits (T : TX K mg) : FnOk P w K mg base CX0 4 T.a_residual_bits T.d_residual_bits ["plan", "residuals", "order"] (sp_rbits K) := by
  refine T.F_residual_bits.ok sc_residual_bits (fun vs H Q E h => by obtain ⟨t, tc, r, qs, cds, m, n, o, wd, rs, rfl, _⟩ := h; rfl) (fun cdv A outer s0 H vs Q E hr h => ?_)
  obtain ⟨t, tc, r, qs, cds, m, n, o, wd, rs, rfl, ht, hc, hr0, hn, hrl, hcn, hcl, hl, how, k⟩ := h
  refine ⟨_, (pss_cons (ps_asg (pv 0) (pg_tup rfl (pgs_cons (pg_name (i := 3) sc_residual_bits.nd rfl (Or.inl rfl)) (pgs_cons (pg_name (i := 4) sc_residual_bits.nd rfl (Or.inl rfl)) (pgs_cons (pg_name (i := 5) sc_residual_bits.nd rfl (Or.inl rfl)) pgs_nil)))))
      (pss_cons (ps_set (i := 6) sc_residual_bits.nd rfl (Or.inl rfl) pe_int)
      (pss_cons (ps_for PassesOwn.never rfl (pi_zipM (by rfl) T.m_zip (pa_cons (pv 5) (pa_cons (pe_call (ok_parts T) (hr.mono (by decide)) (by rfl) T.g_parts T.F_parts.kp T.b_parts .nil pass0 (pa_cons (pv 1) (pa_cons (pv 2) (pa_cons (pv 4) pa_nil)))) pa_nil))) (pg_tup rfl (pgs_cons (pg_name (i := 7) sc_residual_bits.nd rfl (Or.inl rfl)) (pgs_cons (pg_name (i := 8) sc_residual_bits.nd rfl (Or.inl rfl)) pgs_nil))) (pss_one (ps_aug (i := 6) sc_residual_bits.nd rfl (Or.inl rfl) (pe_call (ok_part_bits T) (hr.mono (by decide)) (by rfl) T.g_part_bits T.F_part_bits.kp T.b_part_bits .nil pass0 (pa_cons (pv 3) (pa_cons (pv 7) (pa_cons (pv 8) pa_nil)))) ip_add)))
      (pss_one (ps_ret (pv 6)))))), ?_⟩
  refine q_asg3T (ev_var rfl) ht fun H1 e1 => ?_
  refine q_asg (v := .int 6) ev_c fun H2 e2 => ?_
  have e12 := e1.trans e2
  refine q_zipC (a := tc) (vs := [.ref r, .int (o : Int), .int (n : Int)]) (ev_var rfl) (ea_cons (ev_var rfl) (ea_cons (ev_var rfl) (ea_cons (ev_var rfl) ea_nil))) fun H3 e3 => ⟨r, rs, o, wd, n, rfl, (e12.trans e3) _ _ hr0, hn, hl, how, by omega, fun pp ps H4 hpp e4 hpl hP => ?_⟩
  have e14 := e12.trans (e3.trans e4)
  have hc4 := hc.ex e14
  refine q_forZM hc4.1 (sq_of hP.1) (n := cds.length) (by rw [List.length_map]; exact hc4.2.1) (by rw [List.length_map]; omega) (fun i σ' H' => ∃ z7 z8 : Option V, σ' = [some (.ref t), some (.ref r), some (.int (o : Int)), some (.int (m : Int)), some (.int (n : Int)), some (.ref tc), some (.int ((rbits m cds rs o wd i : Nat) : Int)), z7, z8] ∧ Ex H4 H') ⟨none, none, rfl, Ex.refl _⟩ (fun i σ' H' _ h => by obtain ⟨_, _, _, ex⟩ := h; exact ⟨ex_t ex hc4.1, ex_l ex (sq_of hP.1)⟩) ?_ ?_
  · rintro i σ' H5 x y hx hy ⟨z7, z8, rfl, ex⟩ H6 e6
    rw [List.getElem?_map] at hx hy
    obtain ⟨qa, hqa, rfl⟩ := Option.map_eq_some_iff.mp hx
    obtain ⟨pa, hpa, rfl⟩ := Option.map_eq_some_iff.mp hy
    have hc42 := hc4.2.1
    have hi : i < cds.length := by have := (List.getElem?_eq_some_iff.mp hqa).1; omega
    have hci : cds[i]? = some cds[i] := List.getElem?_eq_getElem hi
    have hgd : cds.getD i ⟨false, 0⟩ = cds[i] := by rw [List.getD_eq_getElem?_getD, hci]; rfl
    have hpl2 : (partL rs o wd i).length ≤ 40000 := by unfold partL; rw [List.length_take, List.length_drop]; omega
    have ex6 := ex.trans e6
    refine s_augR (a := ((rbits m cds rs o wd i : Nat) : Int)) (b := ((pbits m (cds.getD i ⟨false, 0⟩) (partL rs o wd i) : Nat) : Int)) rfl (ev_call (ea_cons (ev_var rfl) (ea_cons (ev_var rfl) (ea_cons (ev_var rfl) ea_nil))) fun H7 e7 Q2 q2 _ => ⟨m, qa, pa, _, _, rfl, (ex6.trans e7) _ _ (hc4.2.2 i qa _ hqa (by rw [hci, hgd])), (ex6.trans e7) _ _ (hP.2 i pa hpa), by rw [hgd]; exact hcn _ (List.getElem_mem hi), hpl2, q2⟩) fun H7 e7 => ⟨some (.ref qa), some (.ref pa), ?_, ex6.trans e7⟩
    show [_, _, _, _, _, _, some (V.int (((rbits m cds rs o wd i : Nat) : Int) + ((pbits m (cds.getD i ⟨false, 0⟩) (partL rs o wd i) : Nat) : Int))), _, _] = _
    rw [← Int.natCast_add]
    rfl
  · rintro σ' H5 ⟨z7, z8, rfl, ex⟩
    exact s_ret (ev_var rfl) fun H6 e6 => k H6 ((e14.trans ex).trans e6)

theorem s_ext {σ : L2.St} {H : Hp} {ta te : TE} {D : Ends} {l : Addr} {xs zs : List V} (hl : H l = some (.lst xs)) (ha : Ev ta σ H (.ref l)) (he : EvR te σ H zs) (hs : xs.length + zs.length ≤ 100000) (k : ∀ H1, Ex H H1 → D.nx σ (upd H1 l (.lst (xs ++ zs)))) : tDrop (tBM K "list" rExtend ta (tCons te tNil)) D σ H :=
  ha H (Ex.refl H) _ fun H1 e1 => ⟨.inl ⟨rfl, _, sq_of (e1 _ _ hl)⟩, he H1 e1 _ fun b H2 e2 g2 => ⟨l, b, xs, zs, rfl, rfl, (e1.trans e2) _ _ hl, g2, sz_of hs, k H2 (e1.trans e2)⟩⟩
theorem q_ext {σ : L2.St} {H : Hp} {ta te : TE} {D : Ends} {tz : TS} {l : Addr} {xs zs : List V} (hl : H l = some (.lst xs)) (ha : Ev ta σ H (.ref l)) (he : EvR te σ H zs) (hs : xs.length + zs.length ≤ 100000) (k : ∀ H1, Ex H H1 → tz D σ (upd H1 l (.lst (xs ++ zs)))) : tSeq (tDrop (tBM K "list" rExtend ta (tCons te tNil))) tz D σ H := s_ext (D := { D with nx := tz D }) hl ha he hs k

def sp_row : Sp := fun vs H Q _ => ∃ (c : Int) (n : Nat) (b : Int), vs = [.int c, .int (n : Int), .int b] ∧ n ≤ 1000 ∧ 0 < b ∧ b ≤ 2 ^ 40 ∧ ∀ p (ns : List Int) H', H p = none → Ex H H' → H' p = some (.lst (ns.map V.int)) → ns.length = n → (∀ x ∈ ns, 0 ≤ x ∧ x < b) → Q (.ref p) H'
theorem ok_law_row (T : TX K mg) : FnOk P w K mg base CX0 1 T.a_law_row T.d_law_row ["cell", "count", "base"] sp_row := by
  refine T.F_law_row.ok sc_law_row (fun vs H Q E h => by obtain ⟨c, n, b, rfl, _⟩ := h; rfl) (fun cdv A outer s0 H vs Q E hr h => ?_)
  obtain ⟨c, n, b, rfl, hn, hb0, hb1, k⟩ := h
  refine ⟨_, (pss_cons (ps_set (i := 3) sc_law_row.nd rfl (Or.inl rfl) (pe_lst pa_nil))
      (pss_cons (ps_set (i := 4) sc_law_row.nd rfl (Or.inl rfl) (pv 0))
      (pss_cons (ps_if (pt_cmpR op_lt (pv 4) pe_int (nomark _)) (pss_one (ps_set (i := 4) sc_law_row.nd rfl (Or.inl rfl) (pe_un un_neg (pv 4)))) pss_nil)
      (pss_cons (ps_for PassesOwn.never rfl (pi_range1 (by rfl) T.m_range (pa_cons (pv 1) pa_nil)) (pg_name (i := 5) sc_law_row.nd rfl (Or.inl rfl)) (pss_one (ps_if (pt_cmpR op_ge (pv 4) (pe_op op_pow pe_int pe_int) (nomark _)) (pss_cons (ps_expr (pe_bm PySem.F.plainAttrs_list PySem.F.slot_list_append PySem.F.type_list_append mt_append (pv 3) (pa_cons (pe_op op_mod (pv 4) (pv 2)) pa_nil)))
          (pss_one (ps_set (i := 4) sc_law_row.nd rfl (Or.inl rfl) (pe_op op_fdivW (pv 4) (pv 2))))) (pss_cons (ps_set (i := 6) sc_law_row.nd rfl (Or.inl rfl) (pe_op op_mod (pe_op op_add (pe_op op_mul (pe_op op_add (pv 4) pe_int) pe_int) (pe_op op_mul (pe_op op_add (pv 5) pe_int) pe_int)) pe_int))
          (pss_one (ps_expr (pe_bm PySem.F.plainAttrs_list PySem.F.slot_list_append PySem.F.type_list_append mt_append (pv 3) (pa_cons (pe_op op_mod (pe_op op_fdivW (pe_op op_mod (pe_op op_add (pe_op op_mul (pv 6) pe_int) (pe_op op_mul (pv 5) pe_int)) pe_int) pe_int) (pv 2)) pa_nil))))))))
      (pss_one (ps_ret (pv 3))))))), ?_⟩
  refine q_asgL (xs := []) (el_lst ea_nil (by decide)) fun p H1 hp e1 g1 => ?_
  have hlog : b.natAbs.log2 < 9000 := by
    have : b.natAbs < 2 ^ 41 := by omega
    have := (Nat.log2_lt (n := b.natAbs) (k := 41) (by omega)).mpr this
    omega
  refine q_asg (v := .int c) (ev_var rfl) fun H2 e2 => ?_
  refine q_ifAsg (b := decide (c < 0)) (v := .int (if c < 0 then -c else c)) (et_test (ev_I0 (ev_var rfl) ev_c)) (fun hb => Ev.is (ev_negI (ev_var rfl)) (by rw [if_pos (of_decide_eq_true hb)])) (fun hb => by rw [if_neg (of_decide_eq_false hb)]; rfl) fun H3 e3 => ?_
  have e13 := e1.trans (e2.trans e3)
  generalize (if c < 0 then -c else c) = re0
  refine q_forR1 (n := (n : Int)) (ea_cons (ev_var rfl) ea_nil) (by omega) (fun i σ' H' => ∃ (re : Int) (ns : List Int) (z5 z6 : Option V), σ' = [some (.int c), some (.int (n : Int)), some (.int b), some (.ref p), some (.int re), z5, z6] ∧ Ex H H' ∧ H' p = some (.lst (ns.map V.int)) ∧ ns.length = i ∧ (∀ x ∈ ns, 0 ≤ x ∧ x < b)) (fun H4 e4 => ⟨re0, [], none, none, rfl, e13.trans e4, e4 _ _ ((e2.trans e3) _ _ g1), rfl, fun x hx => by cases hx⟩) ?_ ?_
  · rintro i σ' H4 hi ⟨re, ns, z5, z6, rfl, ex, gp, hnl, hns⟩
    have snoc : ∀ x : Int, 0 ≤ x → x < b → ∀ y ∈ ns ++ [x], 0 ≤ y ∧ y < b := fun x h0 h1 y hy => by
      rcases List.mem_append.mp hy with h | h
      · exact hns y h
      · rw [List.mem_singleton.mp h]
        exact ⟨h0, h1⟩
    have big : ns.length < 100000 := by omega
    refine s_if (b := decide ((10 : Int) ^ (18 : Int).toNat ≤ re)) (et_test (ev_I0 (ev_var rfl) (ev_I ev_c ev_c (show CPow 10 18 from ⟨by decide, by decide, by decide⟩)))) (fun _ H5 e5 => ?_) (fun _ H5 e5 => ?_)
    · refine q_app (v := .int (re % b)) (e5 _ _ gp) (ev_var rfl) (ev_I (ev_var rfl) (ev_var rfl) hb0) (by rw [List.length_map]; exact big) fun H6 e6 => ?_
      refine s_asg (v := .int (re / b)) (ev_I (ev_var rfl) (ev_var rfl) ⟨hb0, hlog⟩) fun H7 e7 => ⟨re / b, ns ++ [re % b], _, _, rfl, (Ex.mut (ex.trans (e5.trans e6)) hp).trans e7, e7 _ _ (by rw [upd_same, List.map_append]; rfl), by rw [List.length_append, hnl]; rfl, snoc _ (Int.emod_nonneg _ (by omega)) (Int.emod_lt_of_pos _ hb0)⟩
    · obtain ⟨mx, hmx⟩ : ∃ mx, ((re + 1) * 48271 + ((i : Int) + 1) * 69621) % 2147483647 = mx := ⟨_, rfl⟩
      refine q_asg (v := .int mx) (Ev.is (ev_I (ev_I0 (ev_I (ev_I0 (ev_var rfl) ev_c) ev_c (.inr (by decide))) (ev_I (ev_I0 (ev_var rfl) ev_c) ev_c (.inr (by decide)))) ev_c (by decide)) (congrArg V.int hmx)) fun H6 e6 => ?_
      refine s_app (v := .int ((mx * 16807 + (i : Int) * 30269) % 998244353 / 7 % b)) ((e5.trans e6) _ _ gp) (ev_var rfl) (ev_I (ev_I (ev_I (ev_I0 (ev_I (ev_var rfl) ev_c (.inr (by decide))) (ev_I (ev_var rfl) ev_c (.inr (by decide)))) ev_c (by decide)) ev_c ⟨by decide, by decide⟩) (ev_var rfl) hb0) (by rw [List.length_map]; exact big) fun H7 e7 => ⟨re, ns ++ [(mx * 16807 + (i : Int) * 30269) % 998244353 / 7 % b], _, _, rfl, Ex.mut (ex.trans ((e5.trans e6).trans e7)) hp, by rw [upd_same, List.map_append]; rfl, by rw [List.length_append, hnl]; rfl, snoc _ (Int.emod_nonneg _ (by omega)) (Int.emod_lt_of_pos _ hb0)⟩
  · rintro σ' H4 ⟨re, ns, z5, z6, rfl, ex, gp, hnl, hns⟩
    rw [Int.toNat_natCast] at hnl
    exact s_ret (v := .ref p) (ev_var rfl) fun H5 e5 => k p ns H5 hp (ex.trans e5) (e5 _ _ gp) hnl hns
def valOk (c : Cd) (v : Int) : Prop := if c.raw then fitR c.num v = true else (foldI v).toNat / 2 ^ c.num ≤ 40 ∧ foldI v ≤ 4294967294
theorem fitC_of {c : Cd} {vl : List Int} (h : ∀ v ∈ vl, valOk c v) : fitC c vl = true := by
  unfold fitC
  split
  · rename_i hr
    exact List.all_eq_true.mpr fun v hv => by have := h v hv; unfold valOk at this; rwa [if_pos hr] at this
  · rfl
theorem unf_fold {u : Int} (h : 0 ≤ u) : foldI (if u % 2 = 1 then -(u / 2) - 1 else u / 2) = u := by
  unfold foldI
  split <;> split <;> omega
def sp_vals : Sp := fun vs H Q _ => ∃ (q pc : Addr) (c : Cd) (ns : List Int), vs = [.ref q, .ref pc] ∧ CdAt H q c ∧ H pc = some (.lst (ns.map V.int)) ∧ c.num ≤ 40 ∧ ns.length ≤ 1000 ∧ (∀ x ∈ ns, 0 ≤ x) ∧ ∀ p (vl : List Int) H', H p = none → Ex H H' → H' p = some (.lst (vl.map V.int)) → vl.length = ns.length → (∀ v ∈ vl, valOk c v) → Q (.ref p) H'
theorem ok_law_values (T : TX K mg) : FnOk P w K mg base CX0 1 T.a_law_values T.d_law_values ["coding", "cells"] sp_vals := by
  refine T.F_law_values.ok sc_law_values (fun vs H Q E h => by obtain ⟨q, pc, c, ns, rfl, _⟩ := h; rfl) (fun cdv A outer s0 H vs Q E hr h => ?_)
  obtain ⟨q, pc, ⟨raw, num⟩, ns, rfl, hq, hpc, hnum, hl, hns, k⟩ := h
  have hnum : num ≤ 40 := hnum
  refine ⟨_, (pss_cons (ps_set (i := 2) sc_law_values.nd rfl (Or.inl rfl) (pe_lst pa_nil))
      (pss_cons (ps_for PassesOwn.never rfl (pi_list (pv 1)) (pg_name (i := 3) sc_law_values.nd rfl (Or.inl rfl)) (pss_cons (ps_if (pt_cmpR op_eq (pe_ix (r := rIxT K) ix_tup (pv 0) pe_int (fun _ _ => rfl)) pe_str (nomark _)) (pss_cons (ps_set (i := 4) sc_law_values.nd rfl (Or.inl rfl) (pe_ix (r := rIxT K) ix_tup (pv 0) pe_int (fun _ _ => rfl)))
          (pss_cons (ps_set (i := 5) sc_law_values.nd rfl (Or.inl rfl) pe_int)
          (pss_one (ps_if (pt_cmpR op_gt (pv 4) pe_int (nomark _)) (pss_one (ps_set (i := 5) sc_law_values.nd rfl (Or.inl rfl) (pe_op op_sub (pe_op op_mod (pv 3) (pe_op op_shl pe_int (pv 4))) (pe_op op_shl pe_int (pe_op op_sub (pv 4) pe_int))))) pss_nil)))) (pss_cons (ps_set (i := 6) sc_law_values.nd rfl (Or.inl rfl) (pe_callB (call_min2 rfl) (by rfl) T.m_min PyProof.Rows.boot_min (pa_cons (pe_op op_mod (pv 3) (pe_op op_shl pe_int (pe_ix (r := rIxT K) ix_tup (pv 0) pe_int (fun _ _ => rfl)))) (pa_cons pe_int pa_nil))))
          (pss_cons (ps_set (i := 5) sc_law_values.nd rfl (Or.inl rfl) (pe_op op_fdiv (pv 6) pe_int))
          (pss_one (ps_if (pt_cmpR op_eq (pe_op op_mod (pv 6) pe_int) pe_int (nomark _)) (pss_one (ps_set (i := 5) sc_law_values.nd rfl (Or.inl rfl) (pe_op op_sub (pe_un un_neg (pe_op op_fdiv (pv 6) pe_int)) pe_int))) pss_nil)))))
        (pss_one (ps_expr (pe_bm PySem.F.plainAttrs_list PySem.F.slot_list_append PySem.F.type_list_append mt_append (pv 2) (pa_cons (pv 5) pa_nil))))))
      (pss_one (ps_ret (pv 2))))), ?_⟩
  refine q_asgL (xs := []) (el_lst ea_nil (by decide)) fun p H1 hp e1 g1 => ?_
  refine q_forLn (K := K) (a := pc) (ev_var rfl) (sq_of (e1 _ _ hpc)) (fun i σ' H' => ∃ (vl : List Int) (z3 z4 z5 z6 : Option V), σ' = [some (.ref q), some (.ref pc), some (.ref p), z3, z4, z5, z6] ∧ Ex H H' ∧ H' p = some (.lst (vl.map V.int)) ∧ vl.length = i ∧ ∀ v ∈ vl, valOk ⟨raw, num⟩ v) (fun H2 e2 => ⟨[], none, none, none, none, rfl, e1.trans e2, e2 _ _ g1, rfl, fun v hv => by cases hv⟩) (fun i σ' H' _ h => by obtain ⟨_, _, _, _, _, _, ex, _⟩ := h; exact sq_of (ex _ _ hpc)) ?_ ?_
  · rintro i x σ' H2 hx ⟨vl, z3, z4, z5, z6, rfl, ex, gp, hvl, hok⟩
    obtain ⟨cell, hcell, hi, rfl⟩ := int_at hx
    have hc0 := hns _ (List.mem_of_getElem? hcell)
    have snoc : ∀ v, valOk ⟨raw, num⟩ v → ∀ y ∈ vl ++ [v], valOk ⟨raw, num⟩ y := fun v hv y hy => by
      rcases List.mem_append.mp hy with h | h
      · exact hok y h
      · rw [List.mem_singleton.mp h]
        exact hv
    have hT := fun {H3 : Hp} (e3 : Ex H2 H3) => (st_of ((ex.trans e3) _ _ hq) : SqT K H3 q [.str (kstr raw), .int (num : Int)])
    have hp1 := Nat.two_pow_pos num
    cases raw with
    | true =>
      refine q_if (b := true) (ev_strq "raw" true (ev_atT (ev_var rfl) (hT (Ex.refl _)) ev_c (at_of (j := 0) rfl rfl)) (show decide (V.str (kstr true) = V.str "raw") = true by decide)) (fun _ H3 e3 => ?_) (fun hb => by cases hb)
      refine q_asg (v := .int (num : Int)) (ev_atT (ev_var rfl) (hT e3) ev_c (at_of (j := 1) rfl rfl)) fun H4 e4 => ?_
      refine q_asg (v := .int 0) ev_c fun H5 e5 => ?_
      obtain ⟨v, hv⟩ : ∃ v : Int, (if 0 < num then cell % ((2 ^ num : Nat) : Int) - ((2 ^ (num - 1) : Nat) : Int) else 0) = v := ⟨_, rfl⟩
      have hvok : valOk ⟨true, num⟩ v := by
        show fitR num v = true
        unfold fitR
        by_cases h0 : num = 0
        · rw [if_pos h0, ← hv, if_neg (by omega)]
          rfl
        · have hpw : 2 ^ num = 2 * 2 ^ (num - 1) := by rw [show num = (num - 1) + 1 by omega, Nat.pow_succ, Nat.mul_comm, Nat.add_sub_cancel]
          have h1 := Int.emod_nonneg cell (show ((2 ^ num : Nat) : Int) ≠ 0 by omega)
          have h2 := Int.emod_lt_of_pos cell (show (0 : Int) < ((2 ^ num : Nat) : Int) by omega)
          rw [if_neg h0, ← hv, if_pos (by omega), Bool.and_eq_true]
          exact ⟨decide_eq_true (by omega), decide_eq_true (by omega)⟩
      refine s_ifAsg (b := decide (0 < num)) (v := .int v) (et_test (Ev.is (ev_I0 (ev_var rfl) ev_c) (congrArg V.bl (decide_eq_decide.mpr (by show (0 : Int) < (num : Int) ↔ _; omega))))) (fun hb => ?_) (fun hb => by rw [← hv, if_neg (of_decide_eq_false hb)]; rfl) fun H6 e6 => ?_
      · have hb := of_decide_eq_true hb
        exact Ev.is (ev_I0 (ev_I (j := ((2 ^ num : Nat) : Int)) (ev_var rfl) (Ev.is (ev_I ev_c (ev_var rfl) (show CPow 1 (num : Int) from ⟨by omega, by omega, by decide⟩)) (congrArg V.int (by rw [Int.toNat_natCast, Int.one_mul, pow_cast]))) (by show (0 : Int) < _; omega)) (Ev.is (ev_I (j := ((num - 1 : Nat) : Int)) ev_c (Ev.is (ev_I0 (ev_var rfl) ev_c) (congrArg V.int (by omega))) (show CPow 1 ((num - 1 : Nat) : Int) from ⟨by omega, by omega, by decide⟩)) (congrArg V.int (by rw [Int.toNat_natCast, Int.one_mul, pow_cast])))) (congrArg V.int (by rw [← hv, if_pos hb]))
      · have e26 := (e3.trans e4).trans (e5.trans e6)
        refine s_app (v := .int v) (e26 _ _ gp) (ev_var rfl) (ev_var rfl) (by rw [List.length_map]; omega) fun H7 e7 => ⟨vl ++ [v], _, _, _, _, rfl, Ex.mut (ex.trans (e26.trans e7)) hp, by rw [upd_same, List.map_append]; rfl, by rw [List.length_append, hvl]; rfl, snoc v hvok⟩
    | false =>
      refine q_if (b := false) (ev_strq "raw" false (ev_atT (ev_var rfl) (hT (Ex.refl _)) ev_c (at_of (j := 0) rfl rfl)) (show decide (V.str (kstr false) = V.str "raw") = false by decide)) (fun hb => by cases hb) fun _ H3 e3 => ?_
      have h40 : (40 : Int) * 2 ^ ((num : Nat) : Int).toNat = ((40 * 2 ^ num : Nat) : Int) := by rw [Int.toNat_natCast, pow_cast, Int.natCast_mul]; rfl
      obtain ⟨x, hx0⟩ : ∃ x, cell % ((40 * 2 ^ num : Nat) : Int) = x := ⟨_, rfl⟩
      have hx1 := Int.emod_nonneg cell (show ((40 * 2 ^ num : Nat) : Int) ≠ 0 by omega)
      have hx2 := Int.emod_lt_of_pos cell (show (0 : Int) < ((40 * 2 ^ num : Nat) : Int) by omega)
      rw [hx0] at hx1 hx2
      obtain ⟨u, hu⟩ : ∃ u : Int, (if (4294967294 : Int) < x then 4294967294 else x) = u := ⟨_, rfl⟩
      have hu0 : 0 ≤ u ∧ u ≤ 4294967294 ∧ u < ((40 * 2 ^ num : Nat) : Int) := by rw [← hu]; split <;> omega
      refine q_asg (v := .int u) (Ev.is (ev_min2 (ev_I (j := ((40 * 2 ^ num : Nat) : Int)) (ev_var rfl) (Ev.is (ev_I ev_c (ev_atT (ev_var rfl) (hT e3) ev_c (at_of (j := 1) rfl rfl)) (show CPow 40 (num : Int) from ⟨by omega, by omega, by decide⟩)) (congrArg V.int h40)) (by show (0 : Int) < _; omega)) ev_c) (congrArg V.int (by rw [hx0]; exact hu))) fun H4 e4 => ?_
      refine q_asg (v := .int (u / 2)) (ev_I (ev_var rfl) ev_c ⟨by decide, by decide⟩) fun H5 e5 => ?_
      obtain ⟨v, hv⟩ : ∃ v : Int, (if u % 2 = 1 then -(u / 2) - 1 else u / 2) = v := ⟨_, rfl⟩
      have hfv : foldI v = u := by rw [← hv]; exact unf_fold hu0.1
      have hvok : valOk ⟨false, num⟩ v := by
        show (foldI v).toNat / 2 ^ num ≤ 40 ∧ foldI v ≤ 4294967294
        rw [hfv]
        have : u.toNat / 2 ^ num < 40 := (Nat.div_lt_iff_lt_mul hp1).mpr (by omega)
        omega
      refine s_ifAsg (b := decide (V.int (u % 2) = V.int 1)) (v := .int v) (et_test (ev_eq (ev_I (ev_var rfl) ev_c (by decide)) ev_c rfl)) (fun hb => Ev.is (ev_I0 (ev_negI (ev_I (ev_var rfl) ev_c ⟨by decide, by decide⟩)) ev_c) (congrArg V.int (by rw [← hv, if_pos (V.int.inj (of_decide_eq_true hb))]))) (fun hb => by rw [← hv, if_neg (fun z => of_decide_eq_false hb (congrArg V.int z))]; rfl) fun H6 e6 => ?_
      have e26 := (e3.trans e4).trans (e5.trans e6)
      refine s_app (v := .int v) (e26 _ _ gp) (ev_var rfl) (ev_var rfl) (by rw [List.length_map]; omega) fun H7 e7 => ⟨vl ++ [v], _, _, _, _, rfl, Ex.mut (ex.trans (e26.trans e7)) hp, by rw [upd_same, List.map_append]; rfl, by rw [List.length_append, hvl]; rfl, snoc v hvok⟩
  · rintro σ' H2 ⟨vl, z3, z4, z5, z6, rfl, ex, gp, hvl, hok⟩
    rw [List.length_map] at hvl
    exact s_ret (v := .ref p) (ev_var rfl) fun H3 e3 => k p vl H3 hp (ex.trans e3) (e3 _ _ gp) hvl hok
def fldI (v : Int) (n : Nat) : List Int := (List.range n).map fun i => Builtin.bitAnd (v / 2 ^ (n - 1 - i)) 1
theorem fldI_len (v : Int) (n : Nat) : (fldI v n).length = n := by unfold fldI; rw [List.length_map, List.length_range]
def sp_flds : Sp := fun vs H Q _ => ∃ (v : Int) (n : Nat), vs = [.int v, .int (n : Int)] ∧ n ≤ 1000 ∧ RetL ((fldI v n).map V.int) H Q
theorem ok_law_fields (T : TX K mg) : FnOk P w K mg base CX0 1 T.a_law_fields T.d_law_fields ["value", "width"] sp_flds := by
  refine T.F_law_fields.ok sc_law_fields (fun vs H Q E h => by obtain ⟨v, n, rfl, _⟩ := h; rfl) (fun cdv A outer s0 H vs Q E hr h => ?_)
  obtain ⟨v, n, rfl, hn, k⟩ := h
  refine ⟨_, (pss_one (ps_ret (pe_lc (own := [("k", 2)]) (g := gName 2) (tt := tYes) rfl sc_law_fields.nd (pi_range1 (by rfl) T.m_range (pa_cons (pv 1) pa_nil)) (blkOk_by (N := ["value", "width", "k"]) (sc := defScope s_law_fields) (by decide +kernel)) (fun _ _ _ _ _ => pg_name (i := 2) sc_law_fields.nd rfl (Or.inl rfl)) (fun _ _ _ _ _ => pts_nil) (fun _ _ _ _ _ => (pe_op op_and (pe_op op_shr (pv 0) (pe_op op_sub (pe_op op_sub (pv 1) pe_int) (pv 2))) pe_int))))), ?_⟩
  refine s_retL (xs := (fldI v n).map V.int) (el_lcR (n := (n : Int)) _ (ea_cons (ev_var rfl) ea_nil) (by omega) (by rw [List.length_map, fldI_len]; omega) (by rw [List.length_map, fldI_len]; omega) (fun _ => rfl) fun i H1 e1 hi => ?_) k
  rw [List.length_map, fldI_len] at hi
  refine ⟨_, at_int (n := Builtin.bitAnd (v / 2 ^ (n - 1 - i)) 1) (by unfold fldI; rw [List.getElem?_map, List.getElem?_range hi]; rfl), Ev.is (ev_I0 (ev_I (j := ((n - 1 - i : Nat) : Int)) (ev_var rfl) (Ev.is (ev_I0 (ev_I0 (ev_var rfl) ev_c) (ev_var rfl)) (congrArg V.int (by omega))) (by show (0 : Int) ≤ _; omega)) ev_c) (congrArg V.int (by rw [Int.toNat_natCast]))⟩
theorem el_flds {σ : L2.St} {H : Hp} {t1 t2 : TE} {E : XK} {v : Int} {n : Nat} (h1 : Ev t1 σ H (.int v)) (h2 : Ev t2 σ H (.int (n : Int))) (hn : n ≤ 1000) : EvL (tCall sp_flds [] E (tCons t1 (tCons t2 tNil))) σ H ((fldI v n).map V.int) := el_call (ea_cons h1 (ea_cons h2 ea_nil)) fun H1 e Q q _ => ⟨v, n, rfl, hn, q⟩
def codeI (kk : Nat) (v : Int) : List Int := List.replicate ((foldI v).toNat / 2 ^ kk) 0 ++ [1] ++ fldI (Builtin.bitAnd (foldI v) (2 ^ kk - 1)) kk
theorem codeI_len (kk : Nat) (v : Int) : (codeI kk v).length = clenN kk v := by
  unfold codeI clenN
  rw [List.length_append, List.length_append, List.length_replicate, fldI_len]
  rfl
def sp_lcode : Sp := fun vs H Q _ => ∃ (kk : Nat) (v : Int), vs = [.int (kk : Int), .int v] ∧ kk ≤ 40 ∧ (foldI v).toNat / 2 ^ kk ≤ 1000 ∧ RetL ((codeI kk v).map V.int) H Q
theorem ok_law_code (T : TX K mg) : FnOk P w K mg base CX0 2 T.a_law_code T.d_law_code ["k", "value"] sp_lcode := by
  refine T.F_law_code.ok sc_law_code (fun vs H Q E h => by obtain ⟨kk, v, rfl, _⟩ := h; rfl) (fun cdv A outer s0 H vs Q E hr h => ?_)
  obtain ⟨kk, v, rfl, hkk, hu, k⟩ := h
  refine ⟨_, (pss_cons (ps_set (i := 2) sc_law_code.nd rfl (Or.inl rfl) (pe_op op_mul pe_int (pv 1)))
      (pss_cons (ps_if (pt_cmpR op_lt (pv 1) pe_int (nomark _)) (pss_one (ps_set (i := 2) sc_law_code.nd rfl (Or.inl rfl) (pe_op op_sub (pe_op op_mul (pe_un un_neg pe_int) (pv 1)) pe_int))) pss_nil)
      (pss_one (ps_ret (pe_op op_cat (pe_op op_cat (pe_op op_rep (pe_lst (pa_cons pe_int pa_nil)) (pe_op op_shr (pv 2) (pv 0))) (pe_lst (pa_cons pe_int pa_nil))) (pe_call (ok_law_fields T) (hr.mono (by decide)) (by rfl) T.g_law_fields T.F_law_fields.kp T.b_law_fields .nil pass0 (pa_cons (pe_op op_and (pv 2) (pe_op op_sub (pe_op op_shl pe_int (pv 0)) pe_int)) (pa_cons (pv 0) pa_nil)))))))), ?_⟩
  have hf0 := foldI_nn v
  refine q_asg (v := .int (2 * v)) (ev_I ev_c (ev_var rfl) (.inl (by decide))) fun H1 e1 => ?_
  refine q_ifAsg (b := decide (v < 0)) (v := .int (foldI v)) (et_test (ev_I0 (ev_var rfl) ev_c)) (fun hb => Ev.is (ev_I0 (ev_I (ev_negI ev_c) (ev_var rfl) (.inl (by decide))) ev_c) (congrArg V.int (by have hb := of_decide_eq_true hb; unfold foldI; rw [if_pos hb]))) (fun hb => by
    have hb := of_decide_eq_false hb
    have : foldI v = 2 * v := by unfold foldI; rw [if_neg hb]
    rw [this]
    rfl) fun H2 e2 => ?_
  have e12 := e1.trans e2
  have hlen := codeI_len kk v
  obtain ⟨z, hz⟩ : ∃ z, (foldI v).toNat / 2 ^ kk = z := ⟨_, rfl⟩
  rw [hz] at hu
  have hcx : codeI kk v = List.replicate z 0 ++ [1] ++ fldI (Builtin.bitAnd (foldI v) (2 ^ kk - 1)) kk := by unfold codeI; rw [hz]
  have hfz : foldI v / 2 ^ kk = (z : Int) := by rw [← hz, pow_cast, Int.natCast_ediv, Int.toNat_of_nonneg hf0]
  refine s_retL (xs := (codeI kk v).map V.int) (EvL.is (el_cat (xs := List.replicate z (V.int 0) ++ [V.int 1]) (ys := (fldI (Builtin.bitAnd (foldI v) (2 ^ kk - 1)) kk).map V.int) (EvL.r (el_cat (xs := List.replicate z (V.int 0)) (EvL.r (EvL.is (el_rep (xs := [V.int 0]) (k := (z : Int)) (EvL.r (el_lst (ea_cons ev_c ea_nil) (by decide))) (Ev.is (ev_I (ev_var rfl) (ev_var rfl) (by show (0 : Int) ≤ _; omega)) (congrArg V.int (by rw [Int.toNat_natCast]; exact hfz))) (by omega) (by rw [Int.toNat_natCast]; show 1 * _ ≤ _; omega)) (by rw [Int.toNat_natCast]; exact rep_one _))) (EvL.r (el_lst (ea_cons ev_c ea_nil) (by decide))) (by rw [List.length_replicate]; show _ + 1 ≤ _; omega))) (EvL.r (el_flds (ev_I0 (ev_var rfl) (Ev.is (ev_I0 (ev_I ev_c (ev_var rfl) (show CPow 1 (kk : Int) from ⟨by omega, by omega, by decide⟩)) ev_c) (congrArg V.int (show 1 * 2 ^ ((kk : Nat) : Int).toNat - 1 = 2 ^ kk - 1 by rw [Int.toNat_natCast, Int.one_mul])))) (ev_var rfl) (by omega))) (by rw [List.length_append, List.length_replicate, List.length_map, fldI_len]; show _ + 1 + _ ≤ _; omega)) (by rw [hcx, List.map_append, List.map_append, List.map_replicate]; rfl)) fun p H3 hp e3 g3 => k p H3 (fresh_back e12 hp) (e12.trans e3) g3
theorem partL_lt {rs vl : List Int} {o w kk i : Nat} (hw : o ≤ w) (hr : rs.length = startN o w kk) (hi : i < kk) : partL (rs ++ vl) o w i = partL rs o w i := by
  have h1 := start_next (i := i) hw
  have h2 : startN o w (i + 1) ≤ startN o w kk := by unfold startN; have : (i + 1) * w ≤ kk * w := Nat.mul_le_mul_right _ hi; omega
  unfold partL
  rw [List.drop_append_of_le_length (by omega), List.take_append_of_le_length (by rw [List.length_drop]; omega)]
theorem partL_eq {rs vl : List Int} {o w kk : Nat} (hr : rs.length = startN o w kk) (hv : vl.length = sizeN o w kk) : partL (rs ++ vl) o w kk = vl := by
  unfold partL
  rw [← hr, List.drop_left, ← hv, List.take_length]
def EvX (te : TE) (σ : L2.St) (H : Hp) (S : V → Hp → Prop) : Prop := ∀ H1, Ex H H1 → ∀ Q : VK, (∀ v H2, Ex H1 H2 → S v H2 → Q v H2) → te σ H1 Q
theorem s_extX {σ : L2.St} {H : Hp} {ta te : TE} {D : Ends} {l : Addr} {xs : List V} {S : V → Hp → Prop} (hl : H l = some (.lst xs)) (ha : Ev ta σ H (.ref l)) (he : EvX te σ H S) (k : ∀ v H1, Ex H H1 → S v H1 → ∃ b zs, v = .ref b ∧ H1 b = some (.lst zs) ∧ xs.length + zs.length ≤ 100000 ∧ D.nx σ (upd H1 l (.lst (xs ++ zs)))) : tDrop (tBM K "list" rExtend ta (tCons te tNil)) D σ H :=
  ha H (Ex.refl _) _ fun H1 e1 => ⟨.inl ⟨rfl, xs, sq_of (e1 _ _ hl)⟩, he H1 e1 _ fun v H2 e2 hv => by
    obtain ⟨b, zs, rfl, gb, hz, hk⟩ := k v H2 (e1.trans e2) hv
    exact ⟨l, b, xs, zs, rfl, rfl, (e1.trans e2) _ _ hl, gb, sz_of hz, hk⟩⟩
theorem ex_vals {t1 t2 t3 t4 : TE} {σ : L2.St} {H : Hp} {E E' : XK} {q : Addr} {c : Cd} {x b : Int} {n : Nat} (h1 : Ev t1 σ H (.ref q)) (hq : CdAt H q c) (h2 : Ev t2 σ H (.int x)) (h3 : Ev t3 σ H (.int (n : Int))) (h4 : Ev t4 σ H (.int b)) (hc : c.num ≤ 40) (hn : n ≤ 1000) (hb : 0 < b) (hb2 : b ≤ 2 ^ 40) : EvX (tCall sp_vals [] E (tCons t1 (tCons (tCall sp_row [] E' (tCons t2 (tCons t3 (tCons t4 tNil)))) tNil))) σ H (fun v G => ∃ (p : Addr) (vl : List Int), v = .ref p ∧ G p = some (.lst (vl.map V.int)) ∧ vl.length = n ∧ ∀ v ∈ vl, valOk c v) := fun H1 e Q q' => by
  refine h1 H1 e _ fun H2 e2 => ?_
  show (tCons t2 (tCons t3 (tCons t4 tNil))) σ H2 (fun vs G => sp_row (vs ++ []) G (fun y G2 => sp_vals ([V.ref q, y] ++ []) G2 Q E) E')
  exact (ea_cons h2 (ea_cons h3 (ea_cons h4 ea_nil))) H2 (e.trans e2) _ fun H3 e3 => ⟨x, n, b, rfl, hn, hb, hb2, fun p1 ns H4 hp1 e4 g4 hl hbs => ⟨q, p1, c, ns, rfl, (e.trans (e2.trans (e3.trans e4))) _ _ hq, g4, hc, by omega, fun x hx => (hbs x hx).1, fun p2 vl H5 hp2 e5 g5 hvl hvo => q' (.ref p2) H5 (e2.trans (e3.trans (e4.trans e5))) ⟨p2, vl, rfl, g5, by omega, hvo⟩⟩⟩
def cdOk (m : Nat) (c : Cd) : Prop := c.num ≤ 31 ∧ (c.raw = false → c.num < 15 + 16 * m)
def sp_built (K : PySem.W.Frag) : Sp := fun vs H Q _ => ∃ (a : Addr) (ns : List Int), vs = [.ref a] ∧ SqL K H a (ns.map V.int) ∧ ∀ (t tp tc r : Addr) (qs : List Addr) (cds : List Cd) (m n o wd : Nat) (rs : List Int) H', H r = none → Ex H H' → H' t = some (.tup [.ref tp, .ref r, .int (o : Int)]) → H' tp = some (.tup [.int (m : Int), .int (n : Int), .ref tc]) → H' tc = some (.tup (qs.map V.ref)) → CdsAt K H' tc qs cds → H' r = some (.lst (rs.map V.int)) → n ≤ 7 → m ≤ 1 → cds.length = 2 ^ n → rs.length + o = wd * 2 ^ n → o < wd → wd ≤ 40 → wd * 2 ^ n ≤ 400 → (∀ c ∈ cds, cdOk m c) → (∀ i, i < 2 ^ n → ∀ v ∈ partL rs o wd i, valOk (cds.getD i ⟨false, 0⟩) v) → Q (.ref t) H'
theorem ok_law_built (T : TX K mg) : FnOk P w K mg base CX0 2 T.a_law_built T.d_law_built ["script"] (sp_built K) := by
  refine T.F_law_built.ok sc_law_built (fun vs H Q E h => by obtain ⟨a, ns, rfl, _⟩ := h; rfl) (fun cdv A outer s0 H vs Q E hr h => ?_)
  obtain ⟨a, ns, rfl, hS, k⟩ := h
  refine ⟨_, (pss_cons (ps_set (i := 1) sc_law_built.nd rfl (Or.inl rfl) (pe_call (ok_law_cell T) (hr.mono (by decide)) (by rfl) T.g_law_cell T.F_law_cell.kp T.b_law_cell .nil pass0 (pa_cons (pv 0) (pa_cons pe_int pa_nil))))
      (pss_cons (ps_set (i := 2) sc_law_built.nd rfl (Or.inl rfl) (pe_op op_mod (pv 1) pe_int))
      (pss_cons (ps_set (i := 3) sc_law_built.nd rfl (Or.inl rfl) (pe_op op_mod (pe_op op_fdiv (pv 1) pe_int) pe_int))
      (pss_cons (ps_set (i := 4) sc_law_built.nd rfl (Or.inl rfl) (pe_op op_add (pe_op op_add (pv 3) pe_int) (pe_op op_mod (pe_op op_fdiv (pv 1) pe_int) pe_int)))
      (pss_cons (ps_set (i := 5) sc_law_built.nd rfl (Or.inl rfl) (pe_op op_mod (pe_op op_fdiv (pv 1) pe_int) pe_int))
      (pss_cut (ps_if (pt_cmpR op_eq (pe_op op_mod (pe_op op_fdiv (pv 1) pe_int) pe_int) pe_int (nomark _)) (pss_cons (ps_set (i := 3) sc_law_built.nd rfl (Or.inl rfl) (pe_op op_mod (pe_op op_fdiv (pv 1) pe_int) pe_int))
        (pss_one (ps_set (i := 4) sc_law_built.nd rfl (Or.inl rfl) (pe_op op_add (pv 3) pe_int)))) pss_nil)
      (pss_cut (ps_if (pt_cmpR op_eq (pe_op op_mod (pe_op op_fdiv (pv 1) pe_int) pe_int) pe_int (nomark _)) (pss_cons (ps_set (i := 2) sc_law_built.nd rfl (Or.inl rfl) (pe_op op_add pe_int (pv 2)))
        (pss_cons (ps_set (i := 3) sc_law_built.nd rfl (Or.inl rfl) (pe_op op_mod (pe_op op_fdiv (pv 1) pe_int) pe_int))
        (pss_one (ps_set (i := 4) sc_law_built.nd rfl (Or.inl rfl) (pe_op op_add (pv 3) pe_int))))) pss_nil)
      (pss_cons (ps_set (i := 6) sc_law_built.nd rfl (Or.inl rfl) (pe_lst pa_nil))
      (pss_cons (ps_set (i := 7) sc_law_built.nd rfl (Or.inl rfl) (pe_lst pa_nil))
      (pss_cons (ps_set (i := 8) sc_law_built.nd rfl (Or.inl rfl) (pe_call (ok_law_row T) (hr.mono (by decide)) (by rfl) T.g_law_row T.F_law_row.kp T.b_law_row .nil pass0 (pa_cons (pe_call (ok_law_cell T) (hr.mono (by decide)) (by rfl) T.g_law_cell T.F_law_cell.kp T.b_law_cell .nil pass0 (pa_cons (pv 0) (pa_cons pe_int pa_nil))) (pa_cons (pe_op op_shl pe_int (pv 2)) (pa_cons pe_int pa_nil)))))
      (pss_cons (ps_for PassesOwn.never rfl (pi_range1 (by rfl) T.m_range (pa_cons (pe_op op_shl pe_int (pv 2)) pa_nil)) (pg_name (i := 9) sc_law_built.nd rfl (Or.inl rfl)) (pss_cons (ps_set (i := 10) sc_law_built.nd rfl (Or.inl rfl) (pe_tup (pa_cons pe_str (pa_cons (pe_op op_mod (pe_op op_fdiv (pe_ix (r := rIxL K) ix_list (pv 8) (pv 9) (fun _ _ => rfl)) pe_int) (pe_op op_add pe_int (pe_op op_mul pe_int (pv 5)))) pa_nil))))
        (pss_cut (ps_if (pt_cmpR op_eq (pe_op op_mod (pe_ix (r := rIxL K) ix_list (pv 8) (pv 9) (fun _ _ => rfl)) pe_int) pe_int (nomark _)) (pss_one (ps_set (i := 10) sc_law_built.nd rfl (Or.inl rfl) (pe_tup (pa_cons pe_str (pa_cons (pe_op op_fdiv (pe_ix (r := rIxL K) ix_list (pv 8) (pv 9) (fun _ _ => rfl)) pe_int) pa_nil))))) pss_nil)
        (pss_cons (ps_expr (pe_bm PySem.F.plainAttrs_list PySem.F.slot_list_append PySem.F.type_list_append mt_append (pv 6) (pa_cons (pv 10) pa_nil)))
        (pss_cons (ps_set (i := 11) sc_law_built.nd rfl (Or.inl rfl) (pv 4))
        (pss_cons (ps_if (pt_cmpR op_eq (pv 9) pe_int (nomark _)) (pss_one (ps_set (i := 11) sc_law_built.nd rfl (Or.inl rfl) (pe_op op_sub (pv 4) (pv 3)))) pss_nil)
        (pss_one (ps_expr (pe_bm PySem.F.plainAttrs_list PySem.F.slot_list_extend PySem.F.type_list_extend mt_extend (pv 7) (pa_cons (pe_call (ok_law_values T) (hr.mono (by decide)) (by rfl) T.g_law_values T.F_law_values.kp T.b_law_values .nil pass0 (pa_cons (pv 10) (pa_cons (pe_call (ok_law_row T) (hr.mono (by decide)) (by rfl) T.g_law_row T.F_law_row.kp T.b_law_row .nil pass0 (pa_cons (pe_op op_add (pe_call (ok_law_cell T) (hr.mono (by decide)) (by rfl) T.g_law_cell T.F_law_cell.kp T.b_law_cell .nil pass0 (pa_cons (pv 0) (pa_cons (pe_op op_add pe_int (pe_op op_mod (pv 9) pe_int)) pa_nil))) (pe_op op_mul pe_int (pe_op op_fdiv (pv 9) pe_int))) (pa_cons (pv 11) (pa_cons (pe_op op_shl pe_int pe_int) pa_nil)))) pa_nil))) pa_nil))))))))))
      (pss_one (ps_ret (pe_tup (pa_cons (pe_tup (pa_cons (pv 5) (pa_cons (pv 2) (pa_cons (pe_callTy call_tuple_of (by rfl) T.m_tuple PyProof.Rows.boot_tuple (pa_cons (pv 6) pa_nil)) pa_nil)))) (pa_cons (pv 7) (pa_cons (pv 3) pa_nil))))))))))))))))), ?_⟩
  have cell : ∀ (H' : Hp) (σ : L2.St) (E : XK) {te : TE} {i : Int}, σ[0]? = some (some (.ref a)) → Ex H H' → Ev te σ H' (.int i) → 0 ≤ i → Ev (tCall (sp_cell K) [] E (tCons (tVar 0) (tCons te tNil))) σ H' (.int (cellI ns i)) := fun H' σ E {te i} hσ e ht hi => ev_cell (ev_var hσ) (ex_l e hS) ht hi
  refine q_asg (v := .int (cellI ns 0)) (cell H _ _ rfl (Ex.refl _) ev_c (by decide)) fun H1 e1 => ?_
  generalize cellI ns 0 = c0
  obtain ⟨n0, hn0⟩ : ∃ n : Nat, c0 % 4 = (n : Int) := ⟨(c0 % 4).toNat, by omega⟩
  obtain ⟨o0, ho0⟩ : ∃ o : Nat, c0 / 4 % 5 = (o : Int) := ⟨(c0 / 4 % 5).toNat, by omega⟩
  obtain ⟨w0, hw0⟩ : ∃ o : Nat, c0 / 20 % 6 = (o : Int) := ⟨(c0 / 20 % 6).toNat, by omega⟩
  obtain ⟨m, hm⟩ : ∃ o : Nat, c0 / 120 % 2 = (o : Int) := ⟨(c0 / 120 % 2).toNat, by omega⟩
  refine q_asg (v := .int (n0 : Int)) (Ev.is (ev_I (ev_var rfl) ev_c (by decide)) (congrArg V.int hn0)) fun H2 e2 => ?_
  refine q_asg (v := .int (o0 : Int)) (Ev.is (ev_I (ev_I (ev_var rfl) ev_c ⟨by decide, by decide⟩) ev_c (by decide)) (congrArg V.int ho0)) fun H3 e3 => ?_
  refine q_asg (v := .int ((o0 + 1 + w0 : Nat) : Int)) (Ev.is (ev_I0 (g := fun i j => .int (i + j)) (ev_I0 (g := fun i j => .int (i + j)) (ev_var rfl) ev_c) (ev_I (ev_I (ev_var rfl) ev_c ⟨by decide, by decide⟩) ev_c (by decide))) (congrArg V.int (by omega))) fun H4 e4 => ?_
  refine q_asg (v := .int (m : Int)) (Ev.is (ev_I (ev_I (ev_var rfl) ev_c ⟨by decide, by decide⟩) ev_c (by decide)) (congrArg V.int hm)) fun H5 e5 => ?_
  have e15 := e1.trans (e2.trans (e3.trans (e4.trans e5)))
  refine q_cut (M := fun σ' H' => ∃ o wd : Nat, σ' = [some (.ref a), some (.int c0), some (.int (n0 : Int)), some (.int (o : Int)), some (.int (wd : Int)), some (.int (m : Int)), none, none, none, none, none, none] ∧ Ex H H' ∧ o < wd ∧ wd ≤ 40) ?_ ?_
  · refine s_when (et_test (ev_eq (ev_I (ev_I (ev_var rfl) ev_c ⟨by decide, by decide⟩) ev_c (by decide)) ev_c rfl)) (fun _ H6 e6 => ?_) (fun _ H6 e6 => ⟨o0, _, rfl, e15.trans e6, by omega, by omega⟩)
    obtain ⟨o1, ho1⟩ : ∃ o : Nat, c0 / 2160 % 33 = (o : Int) := ⟨(c0 / 2160 % 33).toNat, by omega⟩
    refine q_asg (v := .int (o1 : Int)) (Ev.is (ev_I (ev_I (ev_var rfl) ev_c ⟨by decide, by decide⟩) ev_c (by decide)) (congrArg V.int ho1)) fun H7 e7 => ?_
    exact s_asg (v := .int ((o1 + 1 : Nat) : Int)) (Ev.is (ev_I0 (g := fun i j => .int (i + j)) (ev_var rfl) ev_c) (congrArg V.int (by omega))) fun H8 e8 => ⟨o1, _, rfl, e15.trans (e6.trans (e7.trans e8)), by omega, by omega⟩
  clear e15 e5 e4 e3 e2 e1 hw0
  rintro σ' H1 ⟨o1, w1, rfl, e1, ho1, hw1⟩
  refine q_cut (M := fun σ' H' => ∃ n o wd : Nat, σ' = [some (.ref a), some (.int c0), some (.int (n : Int)), some (.int (o : Int)), some (.int (wd : Int)), some (.int (m : Int)), none, none, none, none, none, none] ∧ Ex H H' ∧ o < wd ∧ wd ≤ 40 ∧ n ≤ 7 ∧ wd * 2 ^ n ≤ 400) ?_ ?_
  · refine s_when (et_test (ev_eq (ev_I (ev_I (ev_var rfl) ev_c ⟨by decide, by decide⟩) ev_c (by decide)) ev_c rfl)) (fun _ H6 e6 => ?_) (fun _ H6 e6 => ⟨n0, o1, w1, rfl, e1.trans e6, ho1, hw1, by omega, Nat.le_trans (Nat.mul_le_mul hw1 (Nat.pow_le_pow_right (n := 2) (j := 3) (by decide) (by omega))) (by decide)⟩)
    obtain ⟨o2, ho2⟩ : ∃ o : Nat, c0 / 2160 % 3 = (o : Int) := ⟨(c0 / 2160 % 3).toNat, by omega⟩
    refine q_asg (v := .int ((4 + n0 : Nat) : Int)) (Ev.is (ev_I0 (g := fun i j => .int (i + j)) ev_c (ev_var rfl)) (congrArg V.int (by omega))) fun H7 e7 => ?_
    refine q_asg (v := .int (o2 : Int)) (Ev.is (ev_I (ev_I (ev_var rfl) ev_c ⟨by decide, by decide⟩) ev_c (by decide)) (congrArg V.int ho2)) fun H8 e8 => ?_
    exact s_asg (v := .int ((o2 + 1 : Nat) : Int)) (Ev.is (ev_I0 (g := fun i j => .int (i + j)) (ev_var rfl) ev_c) (congrArg V.int (by omega))) fun H9 e9 => ⟨_, o2, _, rfl, e1.trans (e6.trans (e7.trans (e8.trans e9))), by omega, by omega, by omega, Nat.le_trans (Nat.mul_le_mul (show o2 + 1 ≤ 3 by omega) (Nat.pow_le_pow_right (n := 2) (j := 7) (by decide) (by omega))) (by decide)⟩
  clear e1 ho1 hw1 ho0 hn0
  rintro σ' H1 ⟨n, o, wd, rfl, e1, how, hwd, hn, hwn⟩
  have hm1 : m ≤ 1 := by omega
  have hp2 : 0 < 2 ^ n := Nat.two_pow_pos n
  have hp128 : 2 ^ n ≤ 128 := Nat.pow_le_pow_right (n := 2) (j := 7) (by decide) hn
  refine q_asgL (xs := []) (el_lst ea_nil (by decide)) fun pc H2 hpc e2 gc => ?_
  refine q_asgL (xs := []) (el_lst ea_nil (by decide)) fun pr H3 hpr e3 gr => ?_
  have shl : ∀ {σ : L2.St} {H' : Hp}, σ[2]? = some (some (.int (n : Int))) → Ev (tOp (rI CPow fun i j => .int (i * 2 ^ j.toNat)) (tC (.int 1)) (tVar 2)) σ H' (.int ((2 ^ n : Nat) : Int)) := fun h => Ev.is (ev_I ev_c (ev_var h) (show CPow 1 (n : Int) from ⟨by omega, by omega, by decide⟩)) (congrArg V.int (by rw [Int.toNat_natCast, Int.one_mul, pow_cast]))
  have e13 := e1.trans (e2.trans e3)
  refine q_asgC (vs := [.int (cellI ns 1), .int ((2 ^ n : Nat) : Int), .int 96]) (ea_cons (cell H3 _ _ rfl e13 ev_c (by decide)) (ea_cons (shl rfl) (ea_cons ev_c ea_nil))) fun H4 e4 => ⟨cellI ns 1, 2 ^ n, 96, rfl, by omega, by decide, by decide, fun pd ds H5 hpd e5 gd hdl hdb => ?_⟩
  have e15 := e13.trans (e4.trans e5)
  have hpcH : H pc = none := fresh_back e1 hpc
  have hprH : H pr = none := fresh_back (e1.trans e2) hpr
  have npcr : pc ≠ pr := ne_of_none gc hpr
  have npdc : pd ≠ pc := by rintro rfl; rw [(e3.trans e4) _ _ gc] at hpd; cases hpd
  have npdr : pd ≠ pr := by rintro rfl; rw [e4 _ _ gr] at hpd; cases hpd
  refine q_forR1 (n := ((2 ^ n : Nat) : Int)) (ea_cons (shl rfl) ea_nil) (by omega) (fun kk σ' H' => ∃ (qs : List Addr) (cds : List Cd) (rs : List Int) (z9 z10 z11 : Option V), σ' = [some (.ref a), some (.int c0), some (.int (n : Int)), some (.int (o : Int)), some (.int (wd : Int)), some (.int (m : Int)), some (.ref pc), some (.ref pr), some (.ref pd), z9, z10, z11] ∧ Ex H H' ∧ H' pd = some (.lst (ds.map V.int)) ∧ H' pc = some (.lst (qs.map V.ref)) ∧ H' pr = some (.lst (rs.map V.int)) ∧ qs.length = kk ∧ cds.length = kk ∧ (∀ (i : Nat) q c, qs[i]? = some q → cds[i]? = some c → CdAt H' q c) ∧ (∀ c ∈ cds, cdOk m c) ∧ rs.length = startN o wd kk ∧ ∀ i, i < kk → ∀ v ∈ partL rs o wd i, valOk (cds.getD i ⟨false, 0⟩) v) (fun H6 e6 => ⟨[], [], [], none, none, none, rfl, e15.trans e6, e6 _ _ gd, (e3.trans (e4.trans (e5.trans e6))) _ _ gc, (e4.trans (e5.trans e6)) _ _ gr, rfl, rfl, (fun i q c h => by simp at h), (fun c h => by cases h), (by unfold startN; rw [Nat.zero_mul, Nat.zero_sub]; rfl), fun i hi => absurd hi (by omega)⟩) ?_ ?_
  · rintro kk σ' H6 hkk ⟨qs, cds, rs, z9, z10, z11, rfl, ex, gd, gc, gr, hql, hcl, hcd, hnum, hrl, hval⟩
    have hkk : kk < 2 ^ n := by omega
    obtain ⟨d, hd⟩ : ∃ d, ds[kk]? = some d := ⟨_, List.getElem?_eq_getElem (by omega)⟩
    have hdb' := hdb d (List.mem_of_getElem? hd)
    obtain ⟨r1, hr1⟩ : ∃ r : Nat, d / 3 % (15 + 16 * (m : Int)) = (r : Int) := ⟨(d / 3 % (15 + 16 * (m : Int))).toNat, by have := Int.emod_nonneg (d / 3) (show (15 + 16 * (m : Int)) ≠ 0 by omega); omega⟩
    have hr1b : r1 ≤ 30 := by have := Int.emod_lt_of_pos (d / 3) (show (0 : Int) < 15 + 16 * (m : Int) by omega); omega
    have hr1c : r1 < 15 + 16 * m := by have := Int.emod_lt_of_pos (d / 3) (show (0 : Int) < 15 + 16 * (m : Int) by omega); omega
    obtain ⟨r2, hr2⟩ : ∃ r : Nat, d / 3 = (r : Int) := ⟨(d / 3).toNat, by omega⟩
    have dg : ∀ {σ : L2.St} {H' : Hp}, σ[8]? = some (some (.ref pd)) → σ[9]? = some (some (.int (kk : Int))) → Ex H6 H' → Ev (tOp (rIxL K) (tVar 8) (tVar 9)) σ H' (.int d) := fun h8 h9 e => ev_ixS (i := 0) (n := (kk : Int)) (Ev.s (ev_var h8) (sq_of (e _ _ gd))) (ev_var h9) (at_of (j := kk) rfl (at_int hd))
    refine q_asgU (xs := [.str "rice", .int (r1 : Int)]) (eu_tup (ea_cons ev_c (ea_cons (Ev.is (ev_I (ev_I (dg rfl rfl (Ex.refl _)) ev_c ⟨by decide, by decide⟩) (ev_I0 (g := fun i j => .int (i + j)) ev_c (ev_I ev_c (ev_var rfl) (.inl (by decide)))) (by show (0 : Int) < _; omega)) (congrArg V.int hr1)) ea_nil)) (Nat.le_of_ble_eq_true rfl)) fun q1 H7 hq1 e7 gq1 => ?_
    refine q_cut (M := fun σ' H' => ∃ (q : Addr) (c : Cd), σ' = [some (.ref a), some (.int c0), some (.int (n : Int)), some (.int (o : Int)), some (.int (wd : Int)), some (.int (m : Int)), some (.ref pc), some (.ref pr), some (.ref pd), some (.int (kk : Int)), some (.ref q), z11] ∧ Ex H6 H' ∧ CdAt H' q c ∧ cdOk m c) ?_ ?_
    · refine s_when (et_test (ev_eq (ev_I (dg rfl rfl e7) ev_c (by decide)) ev_c rfl)) (fun _ H8 e8 => ?_) (fun _ H8 e8 => ⟨q1, ⟨false, r1⟩, rfl, e7.trans e8, e8 _ _ gq1, by show r1 ≤ 31; omega, fun _ => hr1c⟩)
      refine s_asgU (xs := [.str "raw", .int (r2 : Int)]) (eu_tup (ea_cons ev_c (ea_cons (Ev.is (ev_I (dg rfl rfl (e7.trans e8)) ev_c ⟨by decide, by decide⟩) (congrArg V.int hr2)) ea_nil)) (Nat.le_of_ble_eq_true rfl)) fun q2 H9 hq2 e9 gq2 => ⟨q2, ⟨true, r2⟩, rfl, e7.trans (e8.trans e9), gq2, by show r2 ≤ 31; omega, fun z => by cases z⟩
    clear gq1 e7 hq1
    rintro σ' H7 ⟨q, c, rfl, e7, hq, hqk⟩
    have hqn := hqk.1
    have ntup : ∀ {G : Hp} {l : Addr} {ys : List V} {o' : HO} {t : Addr} {xs : List V}, G l = some (.lst ys) → G t = some (.tup xs) → (upd G l o') t = some (.tup xs) := fun hl ht => by rw [upd_ne (by rintro rfl; rw [hl] at ht; cases ht)]; exact ht
    refine q_app (v := .ref q) (e7 _ _ gc) (ev_var rfl) (ev_var rfl) (by rw [List.length_map]; omega) fun H8 e8 => ?_
    have e68 := e7.trans e8
    refine q_asg (v := .int (wd : Int)) (ev_var rfl) fun H9 e9 => ?_
    obtain ⟨sz, hsz⟩ : ∃ sz, sizeN o wd kk = sz := ⟨_, rfl⟩
    have hszb : sz ≤ wd := by rw [← hsz]; unfold sizeN; split <;> omega
    refine q_ifAsg (b := decide (V.int (kk : Int) = V.int 0)) (v := .int (sz : Int)) (et_test (ev_eq (ev_var rfl) ev_c rfl)) (fun hb => Ev.is (ev_I0 (g := fun i j => .int (i - j)) (ev_var rfl) (ev_var rfl)) (congrArg V.int (by have := V.int.inj (of_decide_eq_true hb); unfold sizeN at hsz; rw [if_pos (by omega)] at hsz; omega))) (fun hb => by
      have : ¬ kk = 0 := fun z => of_decide_eq_false hb (by rw [z]; rfl)
      unfold sizeN at hsz
      rw [if_neg this] at hsz
      rw [← hsz]
      rfl) fun H10 e10 => ?_
    have e810 := e9.trans e10
    have hq8 : CdAt (upd H8 pc (.lst (qs.map V.ref ++ [.ref q]))) q c := ntup (e68 _ _ gc) (e8 _ _ hq)
    have gr8 : (upd H8 pc (.lst (qs.map V.ref ++ [.ref q]))) pr = some (.lst (rs.map V.int)) := by rw [upd_ne (Ne.symm npcr)]; exact e68 _ _ gr
    have gd8 : (upd H8 pc (.lst (qs.map V.ref ++ [.ref q]))) pd = some (.lst (ds.map V.int)) := by rw [upd_ne npdc]; exact e68 _ _ gd
    have ex8 : Ex H (upd H8 pc (.lst (qs.map V.ref ++ [.ref q]))) := Ex.mut (ex.trans e68) hpcH
    have gc8 : (upd H8 pc (.lst (qs.map V.ref ++ [.ref q]))) pc = some (.lst (qs.map V.ref ++ [.ref q])) := upd_same
    have hcd8 : ∀ (i : Nat) q' c', qs[i]? = some q' → cds[i]? = some c' → CdAt (upd H8 pc (.lst (qs.map V.ref ++ [.ref q]))) q' c' := fun i q' c' h1 h2 => ntup (e68 _ _ gc) (e68 _ _ (hcd i q' c' h1 h2))
    generalize upd H8 pc (.lst (qs.map V.ref ++ [.ref q])) = G at *
    refine s_extX (xs := rs.map V.int) (e810 _ _ gr8) (ev_var rfl) (ex_vals (c := c) (n := sz) (x := cellI ns (2 + (kk : Int) % 8) + 977 * ((kk : Int) / 8)) (b := 137438953472) (ev_var rfl) (e810 _ _ hq8) (ev_I0 (g := fun i j => .int (i + j)) (cell H10 _ _ rfl (ex8.trans e810) (ev_I0 (g := fun i j => .int (i + j)) ev_c (ev_I (ev_var rfl) ev_c (by decide))) (by omega)) (ev_I ev_c (ev_I (ev_var rfl) ev_c ⟨by decide, by decide⟩) (.inl (by decide)))) (ev_var rfl) (Ev.is (ev_I ev_c ev_c (show CPow 1 37 from ⟨by decide, by decide, by decide⟩)) rfl) (by omega) (by omega) (by decide) (by decide)) fun v H11 e11 hv => ?_
    obtain ⟨pv, vl, rfl, gv, hvl, hvo⟩ := hv
    have e11' := e810.trans e11
    refine ⟨pv, vl.map V.int, rfl, gv, by rw [List.length_map, List.length_map, hrl, hvl]; unfold startN; have : kk * wd ≤ 128 * 40 := Nat.mul_le_mul (by omega) hwd; omega, ?_⟩
    refine ⟨qs ++ [q], cds ++ [c], rs ++ vl, _, _, _, rfl, Ex.mut (ex8.trans e11') hprH, ?_, ?_, ?_, by rw [List.length_append, hql]; rfl, by rw [List.length_append, hcl]; rfl, fun i q' c' h1 h2 => ?_, fun c' hc' => ?_, ?_, fun i hi v hv => ?_⟩
    · rw [upd_ne npdr]; exact e11' _ _ gd8
    · rw [upd_ne npcr, List.map_append]; exact e11' _ _ gc8
    · rw [upd_same, List.map_append]
    · refine ntup (e11' _ _ gr8) (e11' _ _ ?_)
      by_cases hi : i < kk
      · rw [List.getElem?_append_left (by omega)] at h1 h2
        exact hcd8 i q' c' h1 h2
      · have hlt := (List.getElem?_eq_some_iff.mp h1).1
        rw [List.length_append] at hlt
        have hlt : i < qs.length + 1 := hlt
        obtain rfl : i = kk := by omega
        rw [List.getElem?_append_right (by omega), hql, Nat.sub_self] at h1
        rw [List.getElem?_append_right (by omega), hcl, Nat.sub_self] at h2
        cases h1
        cases h2
        exact hq8
    · rcases List.mem_append.mp hc' with h | h
      · exact hnum _ h
      · rw [List.mem_singleton.mp h]
        exact hqk
    · rw [List.length_append, hrl, hvl, ← hsz, start_next (by omega)]
    · by_cases hi2 : i < kk
      · rw [partL_lt (by omega) hrl hi2] at hv
        have := hval i hi2 v hv
        rw [List.getD_eq_getElem?_getD] at this ⊢
        rw [List.getElem?_append_left (by omega)]
        exact this
      · obtain rfl : i = kk := by omega
        rw [partL_eq hrl (by rw [hvl, hsz])] at hv
        rw [List.getD_eq_getElem?_getD, List.getElem?_append_right (by omega), hcl, Nat.sub_self]
        exact hvo v hv
  · rintro σ' H6 ⟨qs, cds, rs, z9, z10, z11, rfl, ex, gd, gc, gr, hql, hcl, hcd, hnum, hrl, hval⟩
    rw [Int.toNat_natCast] at hql hcl hrl hval
    refine ⟨.int (m : Int), rfl, .int (n : Int), rfl, .ref pc, rfl, pc, qs.map V.ref, rfl, .inl ⟨sq_of gc, fun tc htc => ⟨sz_of (show 3 ≤ 100000 by decide), fun tp htp => ⟨.ref pr, rfl, .int (o : Int), rfl, sz_of (show 3 ≤ 100000 by decide), fun t ht => ?_⟩⟩⟩⟩
    have x1 := Ex.new (o := .tup (qs.map V.ref)) htc
    have x2 := Ex.new (o := .tup [.int (m : Int), .int (n : Int), .ref tc]) htp
    have x3 := Ex.new (o := .tup [.ref tp, .ref pr, .int (o : Int)]) ht
    have x13 := x1.trans (x2.trans x3)
    have gtc := (x2.trans x3) _ _ (upd_same (H := H6) (a := tc) (o := .tup (qs.map V.ref)))
    refine k t tp tc pr qs cds m n o wd rs _ hprH (ex.trans x13) upd_same (x3 _ _ upd_same) gtc ⟨st_of gtc, by omega, fun i q c h1 h2 => x13 _ _ (hcd i q c h1 h2)⟩ (x13 _ _ gr) hn hm1 hcl ?_ how hwd hwn hnum hval
    rw [hrl]
    unfold startN
    have : 1 * wd ≤ 2 ^ n * wd := Nat.mul_le_mul_right _ hp2
    rw [Nat.mul_comm wd]
    omega

def sp_lbits (K : PySem.W.Frag) : Sp := fun vs H Q _ => ∃ (t tc r : Addr) (qs : List Addr) (cds : List Cd) (m n o wd : Nat) (rs : List Int), vs = [.ref t, .ref r, .int (o : Int)] ∧ H t = some (.tup [.int (m : Int), .int (n : Int), .ref tc]) ∧ CdsAt K H tc qs cds ∧ H r = some (.lst (rs.map V.int)) ∧ n ≤ 7 ∧ m ≤ 1 ∧ cds.length = 2 ^ n ∧ rs.length + o = wd * 2 ^ n ∧ o < wd ∧ wd * 2 ^ n ≤ 400 ∧ (∀ c ∈ cds, c.num ≤ 31) ∧ (∀ i, i < 2 ^ n → ∀ v ∈ partL rs o wd i, valOk (cds.getD i ⟨false, 0⟩) v) ∧ ∀ p (bs : List Int) H', H p = none → Ex H H' → H' p = some (.lst (bs.map V.int)) → bs.length = rbits m cds rs o wd (2 ^ n) → bs.length ≤ 100000 → Q (.ref p) H'
theorem pbits_le {m : Nat} {c : Cd} {part : List Int} (hm : m ≤ 1) (hn : c.num ≤ 31) (h : ∀ v ∈ part, valOk c v) : pbits m c part ≤ 10 + 73 * part.length := by
  unfold pbits
  split
  · have : c.num * part.length ≤ 31 * part.length := Nat.mul_le_mul_right _ hn
    omega
  · rename_i hr
    have : ∀ l : List Int, (∀ v ∈ l, valOk c v) → (l.map (clenN c.num)).sum ≤ 73 * l.length := fun l => by
      induction l with
      | nil => intro _; exact Nat.le_refl _
      | cons x l ih =>
        intro hl
        have h1 := ih fun v hv => hl v (List.mem_cons_of_mem _ hv)
        have h2 := hl x (List.mem_cons_self ..)
        unfold valOk at h2
        rw [if_neg hr] at h2
        rw [List.map_cons, List.sum_cons, List.length_cons]
        unfold clenN at *
        omega
    have := this part h
    omega
theorem rbits_le {m : Nat} {cds : List Cd} {rs : List Int} {o w n : Nat} (hm : m ≤ 1) (hw : o ≤ w) (hl : rs.length + o = w * 2 ^ n) (hc : ∀ c ∈ cds, c.num ≤ 31) (hcl : cds.length = 2 ^ n) (h : ∀ i, i < 2 ^ n → ∀ v ∈ partL rs o w i, valOk (cds.getD i ⟨false, 0⟩) v) : ∀ k, k ≤ 2 ^ n → rbits m cds rs o w k ≤ 6 + 10 * k + 73 * startN o w k
  | 0, _ => by unfold rbits; omega
  | k + 1, hk => by
    have ih := rbits_le hm hw hl hc hcl h k (by omega)
    have h1 := part_len hl hw (show k < 2 ^ n by omega)
    have hg : (cds.getD k ⟨false, 0⟩).num ≤ 31 := by
      rw [List.getD_eq_getElem?_getD, List.getElem?_eq_getElem (by omega)]
      exact hc _ (List.getElem_mem _)
    have h2 := pbits_le hm hg (h k (by omega))
    have h3 := start_next (i := k) hw
    unfold rbits
    omega
theorem pbits_snoc {m : Nat} {c : Cd} {part : List Int} {j : Nat} {v : Int} (h : part[j]? = some v) : pbits m c (part.take (j + 1)) = pbits m c (part.take j) + if c.raw then c.num else clenN c.num v := by
  have hj := (List.getElem?_eq_some_iff.mp h).1
  have e : part.take (j + 1) = part.take j ++ [v] := by rw [List.take_add_one, h]; rfl
  rw [e]
  unfold pbits
  cases c.raw with
  | true =>
    show 4 + m + (5 + c.num * (part.take j ++ [v]).length) = 4 + m + (5 + c.num * (part.take j).length) + c.num
    rw [List.length_append, Nat.mul_add]
    show 4 + m + (5 + (_ + c.num * 1)) = _
    omega
  | false =>
    show 4 + m + ((part.take j ++ [v]).map (clenN c.num)).sum = 4 + m + ((part.take j).map (clenN c.num)).sum + clenN c.num v
    rw [List.map_append, List.sum_append]
    show 4 + m + (_ + (clenN c.num v + 0)) = _
    omega
theorem ok_law_plan_bits (T : TX K mg) : FnOk P w K mg base CX0 3 T.a_law_plan_bits T.d_law_plan_bits ["plan", "residuals", "order"] (sp_lbits K) := by
  refine T.F_law_plan_bits.ok sc_law_plan_bits (fun vs H Q E h => by obtain ⟨t, tc, r, qs, cds, m, n, o, wd, rs, rfl, _⟩ := h; rfl) (fun cdv A outer s0 H vs Q E hr h => ?_)
  obtain ⟨t, tc, r, qs, cds, m, n, o, wd, rs, rfl, ht, hc, hr0, hn, hm, hcl, hl, how, hwn, hnum, hval, k⟩ := h
  refine ⟨_, (pss_cons (ps_asg (pv 0) (pg_tup rfl (pgs_cons (pg_name (i := 3) sc_law_plan_bits.nd rfl (Or.inl rfl)) (pgs_cons (pg_name (i := 4) sc_law_plan_bits.nd rfl (Or.inl rfl)) (pgs_cons (pg_name (i := 5) sc_law_plan_bits.nd rfl (Or.inl rfl)) pgs_nil)))))
      (pss_cons (ps_set (i := 6) sc_law_plan_bits.nd rfl (Or.inl rfl) (pe_op op_cat (pe_call (ok_law_fields T) (hr.mono (by decide)) (by rfl) T.g_law_fields T.F_law_fields.kp T.b_law_fields .nil pass0 (pa_cons (pv 3) (pa_cons pe_int pa_nil))) (pe_call (ok_law_fields T) (hr.mono (by decide)) (by rfl) T.g_law_fields T.F_law_fields.kp T.b_law_fields .nil pass0 (pa_cons (pv 4) (pa_cons pe_int pa_nil)))))
      (pss_cons (ps_set (i := 7) sc_law_plan_bits.nd rfl (Or.inl rfl) (pe_op op_shr (pe_op op_add (pe_callB (r := rLenS K) call_len_seq (by rfl) T.m_len PySem.boot_len (pa_cons (pv 1) pa_nil)) (pv 2)) (pv 4)))
      (pss_cons (ps_set (i := 8) sc_law_plan_bits.nd rfl (Or.inl rfl) pe_int)
      (pss_cons (ps_for PassesOwn.never rfl (pi_range1 (by rfl) T.m_range (pa_cons (pe_callB (r := rLenS K) call_len_seq (by rfl) T.m_len PySem.boot_len (pa_cons (pv 5) pa_nil)) pa_nil)) (pg_name (i := 9) sc_law_plan_bits.nd rfl (Or.inl rfl)) (pss_cons (ps_set (i := 10) sc_law_plan_bits.nd rfl (Or.inl rfl) (pv 7))
        (pss_cons (ps_if (pt_cmpR op_eq (pv 9) pe_int (nomark _)) (pss_one (ps_set (i := 10) sc_law_plan_bits.nd rfl (Or.inl rfl) (pe_op op_sub (pv 7) (pv 2)))) pss_nil)
        (pss_cons (ps_asg (pe_ix (r := rIxT K) ix_tup (pv 5) (pv 9) (fun _ _ => rfl)) (pg_tup rfl (pgs_cons (pg_name (i := 11) sc_law_plan_bits.nd rfl (Or.inl rfl)) (pgs_cons (pg_name (i := 12) sc_law_plan_bits.nd rfl (Or.inl rfl)) pgs_nil))))
        (pss_cut (ps_if (pt_cmpR op_eq (pv 11) pe_str (nomark _)) (pss_one (ps_expr (pe_bm PySem.F.plainAttrs_list PySem.F.slot_list_extend PySem.F.type_list_extend mt_extend (pv 6) (pa_cons (pe_op op_cat (pe_op op_rep (pe_lst (pa_cons pe_int pa_nil)) (pe_op op_add pe_int (pv 3))) (pe_call (ok_law_fields T) (hr.mono (by decide)) (by rfl) T.g_law_fields T.F_law_fields.kp T.b_law_fields .nil pass0 (pa_cons (pv 12) (pa_cons pe_int pa_nil)))) pa_nil)))) (pss_one (ps_expr (pe_bm PySem.F.plainAttrs_list PySem.F.slot_list_extend PySem.F.type_list_extend mt_extend (pv 6) (pa_cons (pe_call (ok_law_fields T) (hr.mono (by decide)) (by rfl) T.g_law_fields T.F_law_fields.kp T.b_law_fields .nil pass0 (pa_cons (pv 12) (pa_cons (pe_op op_add pe_int (pv 3)) pa_nil))) pa_nil)))))
        (pss_cons (ps_for PassesOwn.never rfl (pi_list (pe_slice (r := rSlL K) sl_list (pv 1) (po_some (pv 8)) (po_some (pe_op op_add (pv 8) (pv 10))))) (pg_name (i := 13) sc_law_plan_bits.nd rfl (Or.inl rfl)) (pss_one (ps_if (pt_cmpR op_eq (pv 11) pe_str (nomark _)) (pss_one (ps_expr (pe_bm PySem.F.plainAttrs_list PySem.F.slot_list_extend PySem.F.type_list_extend mt_extend (pv 6) (pa_cons (pe_call (ok_law_fields T) (hr.mono (by decide)) (by rfl) T.g_law_fields T.F_law_fields.kp T.b_law_fields .nil pass0 (pa_cons (pe_op op_and (pv 13) (pe_op op_sub (pe_op op_shl pe_int (pv 12)) pe_int)) (pa_cons (pv 12) pa_nil))) pa_nil)))) (pss_one (ps_expr (pe_bm PySem.F.plainAttrs_list PySem.F.slot_list_extend PySem.F.type_list_extend mt_extend (pv 6) (pa_cons (pe_call (ok_law_code T) (hr.mono (by decide)) (by rfl) T.g_law_code T.F_law_code.kp T.b_law_code .nil pass0 (pa_cons (pv 12) (pa_cons (pv 13) pa_nil))) pa_nil)))))))
        (pss_one (ps_set (i := 8) sc_law_plan_bits.nd rfl (Or.inl rfl) (pe_op op_add (pv 8) (pv 10))))))))))
      (pss_one (ps_ret (pv 6)))))))), ?_⟩
  refine q_asg3T (ev_var rfl) ht fun H1 e1 => ?_
  have hp2 := Nat.two_pow_pos n
  have hp128 : 2 ^ n ≤ 128 := Nat.pow_le_pow_right (n := 2) (j := 7) (by decide) hn
  refine q_asgL (xs := (fldI (m : Int) 2 ++ fldI (n : Int) 4).map V.int) (EvL.is (el_cat (EvL.r (el_flds (n := 2) (ev_var rfl) ev_c (by decide))) (EvL.r (el_flds (n := 4) (ev_var rfl) ev_c (by decide))) (by rw [List.length_map, List.length_map, fldI_len, fldI_len]; decide)) (by rw [List.map_append])) fun pb H2 hpb e2 gb => ?_
  have e12 := e1.trans e2
  refine q_asg (v := .int (wd : Int)) (Ev.is (ev_I (ev_I0 (g := fun i j => .int (i + j)) (ev_lenS (Ev.s (ev_var rfl) (sq_of (e12 _ _ hr0)))) (ev_var rfl)) (ev_var rfl) (show (0 : Int) ≤ (n : Int) by omega)) (congrArg V.int (by rw [Int.toNat_natCast, List.length_map, pow_cast, ← Int.natCast_add, hl, Int.natCast_mul, Int.mul_ediv_cancel _ (by omega)]))) fun H3 e3 => ?_
  refine q_asg (v := .int 0) ev_c fun H4 e4 => ?_
  have e14 := e12.trans (e3.trans e4)
  have hpbH : H pb = none := fresh_back e1 hpb
  have hcl2 := hc.2.1
  have hst : ∀ kk, kk ≤ 2 ^ n → startN o wd kk ≤ 400 := fun kk hk => by
    unfold startN
    have : kk * wd ≤ 2 ^ n * wd := Nat.mul_le_mul_right _ hk
    rw [Nat.mul_comm (2 ^ n)] at this
    omega
  refine q_forR1 (n := ((2 ^ n : Nat) : Int)) (ea_cons (Ev.is (ev_lenT (Ev.p (ev_var rfl) (ex_t e14 hc.1))) (congrArg V.int (by rw [List.length_map, hcl2, hcl]))) ea_nil) (by omega) (fun kk σ' H' => ∃ (bs : List Int) (z9 z10 z11 z12 z13 : Option V), σ' = [some (.ref t), some (.ref r), some (.int (o : Int)), some (.int (m : Int)), some (.int (n : Int)), some (.ref tc), some (.ref pb), some (.int (wd : Int)), some (.int ((startN o wd kk : Nat) : Int)), z9, z10, z11, z12, z13] ∧ Ex H H' ∧ H' pb = some (.lst (bs.map V.int)) ∧ bs.length = rbits m cds rs o wd kk) (fun H5 e5 => ⟨_, none, none, none, none, none, by unfold startN; rw [Nat.zero_mul, Nat.zero_sub]; rfl, e14.trans e5, (e3.trans (e4.trans e5)) _ _ gb, by rw [List.length_append, fldI_len, fldI_len]; rfl⟩) ?_ ?_
  · rintro kk σ' H5 hkk ⟨bs, z9, z10, z11, z12, z13, rfl, ex, gb, hbl⟩
    have hkk : kk < 2 ^ n := by omega
    obtain ⟨q, hq⟩ : ∃ q, qs[kk]? = some q := ⟨_, List.getElem?_eq_getElem (by omega)⟩
    obtain ⟨c, hcc⟩ : ∃ c, cds[kk]? = some c := ⟨_, List.getElem?_eq_getElem (by omega)⟩
    have hgd : cds.getD kk ⟨false, 0⟩ = c := by rw [List.getD_eq_getElem?_getD, hcc]; rfl
    have hcn : c.num ≤ 31 := hnum c (List.mem_of_getElem? hcc)
    have hvl := hval kk hkk
    rw [hgd] at hvl
    have hrb := rbits_le hm (by omega) hl hnum hcl hval kk (by omega)
    have hs0 := hst kk (by omega)
    obtain ⟨part, hpart⟩ : ∃ part, partL rs o wd kk = part := ⟨_, rfl⟩
    have hpl := part_len hl (show o ≤ wd by omega) hkk
    rw [hpart] at hvl hpl
    refine q_asg (v := .int (wd : Int)) (ev_var rfl) fun H6 e6 => ?_
    obtain ⟨sz, hsz⟩ : ∃ sz, sizeN o wd kk = sz := ⟨_, rfl⟩
    refine q_ifAsg (b := decide (V.int (kk : Int) = V.int 0)) (v := .int (sz : Int)) (et_test (ev_eq (ev_var rfl) ev_c rfl)) (fun hb => Ev.is (ev_I0 (g := fun i j => .int (i - j)) (ev_var rfl) (ev_var rfl)) (congrArg V.int (by have := V.int.inj (of_decide_eq_true hb); unfold sizeN at hsz; rw [if_pos (by omega)] at hsz; omega))) (fun hb => by
      have : ¬ kk = 0 := fun z => of_decide_eq_false hb (by rw [z]; rfl)
      unfold sizeN at hsz
      rw [if_neg this] at hsz
      rw [← hsz]
      rfl) fun H7 e7 => ?_
    have hnx := start_next (o := o) (w := wd) (i := kk) (by omega)
    have hs1 := hst (kk + 1) (by omega)
    rw [hsz] at hnx hpl
    have ex7 := ex.trans (e6.trans e7)
    refine q_asg2T (t := q) (x := .str (kstr c.raw)) (y := .int (c.num : Int)) (ev_atT (n := (kk : Int)) (ev_var rfl) (ex_t ex7 hc.1) (ev_var rfl) (at_of (j := kk) rfl (by rw [List.getElem?_map, hq]; rfl))) (ex7 _ _ (hc.2.2 kk q c hq hcc)) fun H8 e8 => ?_
    have ex8 := ex7.trans e8
    have gb8 := (e6.trans (e7.trans e8)) _ _ gb
    have hraw : decide (V.str (kstr c.raw) = V.str "raw") = c.raw := by cases c.raw <;> decide
    refine q_cut (M := fun σ' H' => ∃ bs : List Int, σ' = [some (.ref t), some (.ref r), some (.int (o : Int)), some (.int (m : Int)), some (.int (n : Int)), some (.ref tc), some (.ref pb), some (.int (wd : Int)), some (.int ((startN o wd kk : Nat) : Int)), some (.int (kk : Int)), some (.int (sz : Int)), some (.str (kstr c.raw)), some (.int (c.num : Int)), z13] ∧ Ex H H' ∧ H' pb = some (.lst (bs.map V.int)) ∧ bs.length = rbits m cds rs o wd kk + pbits m c (part.take 0)) ?_ ?_
    · refine s_if (b := c.raw) (ev_strq "raw" c.raw (ev_var rfl) hraw) (fun hb H9 e9 => ?_) (fun hb H9 e9 => ?_)
      · refine s_ext (xs := bs.map V.int) (zs := (List.replicate (4 + m) 1 ++ fldI (c.num : Int) 5).map V.int) (e9 _ _ gb8) (ev_var rfl) (EvR.is (EvL.r (el_cat (EvL.r (el_rep (xs := [V.int 1]) (k := ((4 + m : Nat) : Int)) (EvL.r (el_lst (ea_cons ev_c ea_nil) (by decide))) (Ev.is (ev_I0 (g := fun i j => .int (i + j)) ev_c (ev_var rfl)) (congrArg V.int (by omega))) (by omega) (by rw [Int.toNat_natCast]; show 1 * _ ≤ _; omega))) (EvL.r (el_flds (n := 5) (ev_var rfl) ev_c (by decide))) (by rw [Int.toNat_natCast, rep_one, List.length_replicate, List.length_map, fldI_len]; omega))) (by rw [Int.toNat_natCast, rep_one, List.map_append, List.map_replicate])) (by rw [List.length_map, List.length_map, List.length_append, List.length_replicate, fldI_len]; omega) fun H10 e10 => ⟨bs ++ (List.replicate (4 + m) 1 ++ fldI (c.num : Int) 5), rfl, Ex.mut (ex8.trans (e9.trans e10)) hpbH, by simp only [upd_same, List.map_append], ?_⟩
        rw [List.length_append, List.length_append, List.length_replicate, fldI_len, hbl]
        unfold pbits
        rw [if_pos hb, List.take_zero]
        show _ = _ + (4 + m + (5 + c.num * 0))
        omega
      · refine s_ext (xs := bs.map V.int) (zs := (fldI (c.num : Int) (4 + m)).map V.int) (e9 _ _ gb8) (ev_var rfl) (EvL.r (el_flds (n := 4 + m) (ev_var rfl) (Ev.is (ev_I0 (g := fun i j => .int (i + j)) ev_c (ev_var rfl)) (congrArg V.int (by omega))) (by omega))) (by rw [List.length_map, List.length_map, fldI_len]; omega) fun H10 e10 => ⟨bs ++ fldI (c.num : Int) (4 + m), rfl, Ex.mut (ex8.trans (e9.trans e10)) hpbH, by rw [upd_same, List.map_append], ?_⟩
        rw [List.length_append, fldI_len, hbl]
        unfold pbits
        rw [if_neg (by rw [hb]; decide), List.take_zero]
        rfl
    clear gb8 ex8 e8 ex7 e7 e6 ex gb hbl bs
    rintro σ' H9 ⟨bs, rfl, ex, gb, hbl⟩
    refine q_forL' (xs := part.map V.int) (EvL.is (el_mid (ns := rs) (i := startN o wd kk) (j := startN o wd kk + sz) (Ev.s (ev_var rfl) (sq_of (ex _ _ hr0))) (ev_var rfl) (Ev.is (ev_I0 (g := fun i j => .int (i + j)) (ev_var rfl) (ev_var rfl)) (congrArg V.int (by omega)))) (by rw [Nat.add_sub_cancel_left, ← hpart]; unfold partL; rw [hsz])) fun pp H10 hpp e10 gpp => ?_
    have npp : pp ≠ pb := by rintro rfl; rw [gb] at hpp; cases hpp
    refine q_forLn (K := K) (a := pp) ev_c (sq_of gpp) (fun j σ' H' => ∃ (bs : List Int) (z13 : Option V), σ' = [some (.ref t), some (.ref r), some (.int (o : Int)), some (.int (m : Int)), some (.int (n : Int)), some (.ref tc), some (.ref pb), some (.int (wd : Int)), some (.int ((startN o wd kk : Nat) : Int)), some (.int (kk : Int)), some (.int (sz : Int)), some (.str (kstr c.raw)), some (.int (c.num : Int)), z13] ∧ Ex H H' ∧ H' pp = some (.lst (part.map V.int)) ∧ H' pb = some (.lst (bs.map V.int)) ∧ bs.length = rbits m cds rs o wd kk + pbits m c (part.take j)) (fun H11 e11 => ⟨bs, z13, rfl, ex.trans (e10.trans e11), e11 _ _ gpp, (e10.trans e11) _ _ gb, hbl⟩) (fun j σ' H' _ h => by obtain ⟨_, _, _, _, g, _⟩ := h; exact sq_of g) ?_ ?_
    · clear hbl gb gpp hpp e10 ex bs z13
      rintro j x σ' H11 hx ⟨bs, z13, rfl, ex, gpp, gb, hbl⟩
      obtain ⟨v, hv, hj, rfl⟩ := int_at hx
      have hvo := hvl v (List.mem_of_getElem? hv)
      have hpb := pbits_le hm hcn (part := part.take j) fun v hv => hvl v (List.mem_of_mem_take hv)
      rw [List.length_take] at hpb
      have hps := pbits_snoc (m := m) (c := c) hv
      refine s_if (b := c.raw) (ev_strq "raw" c.raw (ev_var rfl) hraw) (fun hb H12 e12 => ?_) (fun hb H12 e12 => ?_)
      · refine s_ext (xs := bs.map V.int) (zs := (fldI (Builtin.bitAnd v (1 * 2 ^ ((c.num : Nat) : Int).toNat - 1)) c.num).map V.int) (e12 _ _ gb) (ev_var rfl) (EvL.r (el_flds (n := c.num) (ev_I0 (ev_var rfl) (ev_I0 (g := fun i j => .int (i - j)) (ev_I ev_c (ev_var rfl) (show CPow 1 (c.num : Int) from ⟨by omega, by omega, by decide⟩)) ev_c)) (ev_var rfl) (by omega))) (by rw [List.length_map, List.length_map, fldI_len]; omega) fun H13 e13 => ⟨_, some (.int v), rfl, Ex.mut (ex.trans (e12.trans e13)) hpbH, by rw [upd_ne npp]; exact (e12.trans e13) _ _ gpp, by rw [upd_same, List.map_append], ?_⟩
        rw [List.length_append, fldI_len, hbl, hps, if_pos hb]
        omega
      · have hvo' := hvo
        unfold valOk at hvo'
        rw [if_neg (by rw [hb]; decide)] at hvo'
        refine s_ext (xs := bs.map V.int) (zs := (codeI c.num v).map V.int) (e12 _ _ gb) (ev_var rfl) (EvL.r (el_call (ea_cons (ev_var rfl) (ea_cons (ev_var rfl) ea_nil)) fun H1 e Q q' _ => ⟨c.num, v, rfl, by omega, by omega, q'⟩)) (by rw [List.length_map, List.length_map, codeI_len]; unfold clenN; omega) fun H13 e13 => ⟨_, some (.int v), rfl, Ex.mut (ex.trans (e12.trans e13)) hpbH, by rw [upd_ne npp]; exact (e12.trans e13) _ _ gpp, by rw [upd_same, List.map_append], ?_⟩
        rw [List.length_append, codeI_len, hbl, hps, if_neg (by rw [hb]; decide)]
        omega
    · rintro σ' H11 ⟨bs, z13, rfl, ex, gpp, gb, hbl⟩
      rw [List.length_map, List.take_length] at hbl
      refine s_asg (v := .int ((startN o wd (kk + 1) : Nat) : Int)) (Ev.is (ev_I0 (g := fun i j => .int (i + j)) (ev_var rfl) (ev_var rfl)) (congrArg V.int (by omega))) fun H12 e12 => ⟨bs, _, _, _, _, _, rfl, ex.trans e12, e12 _ _ gb, ?_⟩
      rw [hbl]
      show _ = rbits m cds rs o wd kk + pbits m (cds.getD kk ⟨false, 0⟩) (partL rs o wd kk)
      rw [hgd, hpart]
  · rintro σ' H5 ⟨bs, z9, z10, z11, z12, z13, rfl, ex, gb, hbl⟩
    rw [Int.toNat_natCast] at hbl
    have hrb := rbits_le hm (by omega) hl hnum hcl hval (2 ^ n) (Nat.le_refl _)
    have hs0 := hst (2 ^ n) (Nat.le_refl _)
    exact s_ret (v := .ref pb) (ev_var rfl) fun H6 e6 => k pb bs H6 hpbH (ex.trans e6) (e6 _ _ gb) hbl (by omega)
def sp_lbey (K : PySem.W.Frag) : Sp := fun vs H Q _ => ∃ (t tc r : Addr) (qs : List Addr) (cds : List Cd) (m n o wd kk : Nat) (rs : List Int) (c : Cd), vs = [.ref t, .ref r, .int (o : Int), .int (kk : Int)] ∧ H t = some (.tup [.int (m : Int), .int (n : Int), .ref tc]) ∧ CdsAt K H tc qs cds ∧ H r = some (.lst (rs.map V.int)) ∧ n ≤ 7 ∧ cds.length = 2 ^ n ∧ kk < 2 ^ n ∧ rs.length + o = wd * 2 ^ n ∧ o < wd ∧ cds[kk]? = some c ∧ c.num ≤ 31 ∧ rs.length ≤ 10000 ∧ (c.raw = false → RetV .non H Q) ∧ (c.raw = true → ∀ p b H', H p = none → Ex H H' → H' p = some (.lst ((rs.set (startN o wd kk) b).map V.int)) → fitR c.num b = false → Q (.ref p) H')
theorem ok_law_beyond (T : TX K mg) : FnOk P w K mg base CX0 1 T.a_law_beyond T.d_law_beyond ["plan", "residuals", "order", "k"] (sp_lbey K) := by
  refine T.F_law_beyond.ok sc_law_beyond (fun vs H Q E h => by obtain ⟨t, tc, r, qs, cds, m, n, o, wd, kk, rs, c, rfl, _⟩ := h; rfl) (fun cdv A outer s0 H vs Q E hr h => ?_)
  obtain ⟨t, tc, r, qs, cds, m, n, o, wd, kk, rs, c, rfl, ht, hc, hr0, hn, hcl, hkk, hl, how, hcc, hcn, hrl, k1, k2⟩ := h
  refine ⟨_, (pss_cons (ps_set (i := 4) sc_law_beyond.nd rfl (Or.inl rfl) (pe_op op_shr (pe_op op_add (pe_callB (r := rLenS K) call_len_seq (by rfl) T.m_len PySem.boot_len (pa_cons (pv 1) pa_nil)) (pv 2)) (pe_ix (r := rIxT K) ix_tup (pv 0) pe_int (fun _ _ => rfl))))
      (pss_cons (ps_asg (pe_ix (r := rIxT K) ix_tup (pe_ix (r := rIxT K) ix_tup (pv 0) pe_int (fun _ _ => rfl)) (pv 3) (fun _ _ => rfl)) (pg_tup rfl (pgs_cons (pg_name (i := 5) sc_law_beyond.nd rfl (Or.inl rfl)) (pgs_cons (pg_name (i := 6) sc_law_beyond.nd rfl (Or.inl rfl)) pgs_nil))))
      (pss_cons (ps_set (i := 7) sc_law_beyond.nd rfl (Or.inl rfl) (pe_callB (call_max2 rfl) (by rfl) T.m_max PyProof.Rows.boot_max (pa_cons pe_int (pa_cons (pe_op op_sub (pe_op op_mul (pv 3) (pv 4)) (pv 2)) pa_nil))))
      (pss_cons (ps_if (pt_cmpR op_ne (pv 5) pe_str (nomark _)) (pss_one (ps_ret pe_non)) pss_nil)
      (pss_cons (ps_set (i := 8) sc_law_beyond.nd rfl (Or.inl rfl) (pe_callTy (r := rListS K) call_list_of (by rfl) T.m_list PyProof.Rows.boot_list (pa_cons (pv 1) pa_nil)))
      (pss_cons (ps_asg pe_int (pg_sub (pv 8) (pv 7) set_list))
      (pss_cons (ps_if (pt_cmpR op_gt (pv 6) pe_int (nomark _)) (pss_one (ps_asg (pe_op op_shl pe_int (pe_op op_sub (pv 6) pe_int)) (pg_sub (pv 8) (pv 7) set_list))) pss_nil)
      (pss_cons (ps_if (PW.pt (pw_and (pt_cmpR op_gt (pv 6) pe_int (nomark _)) (pw_and1 (pt_cmpR op_eq (pe_op op_mod (pv 7) pe_int) pe_int (nomark _))))) (pss_one (ps_asg (pe_op op_sub (pe_un un_neg (pe_op op_shl pe_int (pe_op op_sub (pv 6) pe_int))) pe_int) (pg_sub (pv 8) (pv 7) set_list))) pss_nil)
      (pss_one (ps_ret (pv 8))))))))))), ?_⟩
  have hp2 := Nat.two_pow_pos n
  have hp128 : 2 ^ n ≤ 128 := Nat.pow_le_pow_right (n := 2) (j := 7) (by decide) hn
  have hcl2 := hc.2.1
  refine q_asg (v := .int (wd : Int)) (Ev.is (ev_I (ev_I0 (g := fun i j => .int (i + j)) (ev_lenS (Ev.s (ev_var rfl) (sq_of hr0))) (ev_var rfl)) (ev_atT (n := 1) (ev_var rfl) (st_of ht) ev_c (at_of (j := 1) rfl rfl)) (show (0 : Int) ≤ (n : Int) by omega)) (congrArg V.int (by rw [Int.toNat_natCast, List.length_map, pow_cast, ← Int.natCast_add, hl, Int.natCast_mul, Int.mul_ediv_cancel _ (by omega)]))) fun H1 e1 => ?_
  obtain ⟨q, hq⟩ : ∃ q, qs[kk]? = some q := ⟨_, List.getElem?_eq_getElem (by omega)⟩
  have hc1 := hc.ex e1
  refine q_asg2T (t := q) (x := .str (kstr c.raw)) (y := .int (c.num : Int)) (ev_atT (n := (kk : Int)) (ev_atT (n := 2) (ev_var rfl) (st_of (e1 _ _ ht)) ev_c (at_of (j := 2) rfl rfl)) hc1.1 (ev_var rfl) (at_of (j := kk) rfl (by rw [List.getElem?_map, hq]; rfl))) (hc1.2.2 kk q c hq hcc) fun H2 e2 => ?_
  refine q_asg (v := .int ((startN o wd kk : Nat) : Int)) (Ev.is (ev_max2 ev_c (ev_I0 (g := fun i j => .int (i - j)) (ev_I (ev_var rfl) (ev_var rfl) (.inl (by omega))) (ev_var rfl))) (congrArg V.int (by unfold startN; rw [← Int.natCast_mul]; generalize kk * wd = y; split <;> omega))) fun H3 e3 => ?_
  have hnx := start_next (o := o) (w := wd) (i := kk) (by omega)
  have hs : startN o wd kk < rs.length := by
    have h1 : 0 < sizeN o wd kk := by unfold sizeN; split <;> omega
    have h2 : startN o wd (kk + 1) ≤ rs.length := by unfold startN; have : (kk + 1) * wd ≤ 2 ^ n * wd := Nat.mul_le_mul_right _ hkk; rw [Nat.mul_comm (2 ^ n)] at this; omega
    omega
  generalize startN o wd kk = at_ at *
  have e13 := e1.trans (e2.trans e3)
  refine q_when (b := !c.raw) (et_test (Ev.is (ev_ne (ev_var rfl) ev_c rfl) (congrArg V.bl (congrArg not (show decide (V.str (kstr c.raw) = V.str "raw") = c.raw by cases c.raw <;> decide))))) (fun hb H4 e4 => s_ret (v := .non) ev_c fun H5 e5 => k1 ((Bool.not_eq_true' _).mp hb) H5 (e13.trans (e4.trans e5))) fun hb H4 e4 => ?_
  have k2 := k2 (by cases h : c.raw with | true => rfl | false => rw [h] at hb; cases hb)
  refine q_asgL (xs := rs.map V.int) (el_of (Ev.s (ev_var rfl) (sq_of ((e13.trans e4) _ _ hr0)))) fun p H5 hp e5 gp => ?_
  have e15 := e13.trans (e4.trans e5)
  have hpH : H p = none := fresh_back (e13.trans e4) hp
  refine q_setL (j := at_) (v := .int 1) gp ev_c (ev_var rfl) (ev_var rfl) (by rw [List.length_map]; exact hs) fun H6 e6 => ?_
  have ex6 := Ex.mut (o := .lst ((rs.map V.int).set at_ (.int 1))) (e15.trans e6) hpH
  have gp6 : (upd H6 p (.lst ((rs.map V.int).set at_ (.int 1)))) p = some (.lst ((rs.set at_ 1).map V.int)) := by rw [upd_same, List.map_set]
  generalize upd H6 p (.lst ((rs.map V.int).set at_ (.int 1))) = G at *
  have hpw : CPow 1 ((c.num - 1 : Nat) : Int) := ⟨by omega, by omega, by decide⟩
  by_cases h0 : c.num = 0
  · refine q_when (b := false) (et_is (et_test (ev_I0 (ev_var rfl) ev_c)) (decide_eq_false (by omega))) (fun hb => by cases hb) fun _ H7 e7 => ?_
    refine q_when (b := false) (et_is (et_and (a := false) (b := false) (et_is (et_test (ev_I0 (ev_var rfl) ev_c)) (decide_eq_false (by omega))) fun h => by cases h) rfl) (fun hb => by cases hb) fun _ H8 e8 => ?_
    exact s_ret (v := .ref p) (ev_var rfl) fun H9 e9 => k2 p 1 H9 hpH (ex6.trans (e7.trans (e8.trans e9))) ((e7.trans (e8.trans e9)) _ _ gp6) (by unfold fitR; rw [if_pos h0]; rfl)
  have pw : ∀ {σ : L2.St} {H' : Hp}, σ[6]? = some (some (.int (c.num : Int))) → Ev (tOp (rI CPow fun i j => .int (i * 2 ^ j.toNat)) (tC (.int 1)) (tOp (rI0 fun i j => .int (i - j)) (tVar 6) (tC (.int 1)))) σ H' (.int ((2 ^ (c.num - 1) : Nat) : Int)) := fun h => Ev.is (ev_I (j := ((c.num - 1 : Nat) : Int)) ev_c (Ev.is (ev_I0 (ev_var h) ev_c) (congrArg V.int (by omega))) hpw) (congrArg V.int (by rw [Int.toNat_natCast, Int.one_mul, pow_cast]))
  refine q_if (b := true) (et_is (et_test (ev_I0 (ev_var rfl) ev_c)) (decide_eq_true (by omega))) (fun _ H7 e7 => ?_) (fun hb => by cases hb)
  refine s_setL (j := at_) (v := .int ((2 ^ (c.num - 1) : Nat) : Int)) (e7 _ _ gp6) (pw rfl) (ev_var rfl) (ev_var rfl) (by rw [List.length_map, List.length_set]; exact hs) fun H8 e8 => ?_
  have gp8 : (upd H8 p (.lst (((rs.set at_ 1).map V.int).set at_ (.int ((2 ^ (c.num - 1) : Nat) : Int))))) p = some (.lst ((rs.set at_ ((2 ^ (c.num - 1) : Nat) : Int)).map V.int)) := by rw [upd_same, ← List.map_set, List.set_set]
  have ex8 := Ex.mut (o := .lst (((rs.set at_ 1).map V.int).set at_ (.int ((2 ^ (c.num - 1) : Nat) : Int)))) (ex6.trans (e7.trans e8)) hpH
  generalize upd H8 p (.lst (((rs.set at_ 1).map V.int).set at_ (.int ((2 ^ (c.num - 1) : Nat) : Int)))) = G2 at *
  dsimp only
  by_cases h1 : at_ % 2 = 1
  · refine q_if (b := true) ?_ (fun _ H9 e9 => ?_) (fun hb => by cases hb)
    · refine et_is (et_and (a := true) (b := true) (et_is (et_test (ev_I0 (ev_var rfl) ev_c)) (decide_eq_true (by omega))) fun _ => ?_) rfl
      refine et_is (et_test (ev_eq (ev_I (ev_var rfl) ev_c ?_) ev_c rfl)) ?_
      · decide
      · exact decide_eq_true (congrArg V.int (by omega))
    refine s_setL (j := at_) (v := .int (-((2 ^ (c.num - 1) : Nat) : Int) - 1)) (e9 _ _ gp8) (ev_I0 (ev_negI (pw rfl)) ev_c) (ev_var rfl) (ev_var rfl) (by rw [List.length_map, List.length_set]; exact hs) fun H10 e10 => ?_
    refine s_ret (v := .ref p) (ev_var rfl) fun H11 e11 => k2 p (-((2 ^ (c.num - 1) : Nat) : Int) - 1) H11 hpH ((Ex.mut (ex8.trans (e9.trans e10)) hpH).trans e11) (e11 _ _ (by rw [upd_same, ← List.map_set, List.set_set])) ?_
    unfold fitR
    rw [if_neg h0, decide_eq_false (by omega)]
    rfl
  · refine q_when (b := false) ?_ (fun hb => by cases hb) fun _ H9 e9 => ?_
    · refine et_is (et_and (a := true) (b := false) (et_is (et_test (ev_I0 (ev_var rfl) ev_c)) (decide_eq_true (by omega))) fun _ => ?_) rfl
      refine et_is (et_test (ev_eq (ev_I (ev_var rfl) ev_c ?_) ev_c rfl)) ?_
      · decide
      · exact decide_eq_false fun z => h1 (by have := V.int.inj z; omega)
    refine s_ret (v := .ref p) (ev_var rfl) fun H10 e10 => k2 p ((2 ^ (c.num - 1) : Nat) : Int) H10 hpH (ex8.trans (e9.trans e10)) ((e9.trans e10) _ _ gp8) ?_
    unfold fitR
    rw [if_neg h0, decide_eq_false (show ¬ (((2 ^ (c.num - 1) : Nat) : Int) < ((2 ^ (c.num - 1) : Nat) : Int)) by omega), Bool.and_false]

/-! ### values of which something is told, one of them a tuple -/
def Up (S : V → Hp → Prop) : Prop := ∀ v H H', Ex H H' → S v H → S v H'
theorem EvX.ev {te : TE} {σ : L2.St} {H : Hp} {v : V} {S : V → Hp → Prop} (h : Ev te σ H v) (hS : ∀ H1, Ex H H1 → S v H1) : EvX te σ H S := fun H1 e Q q => h H1 e _ fun H2 e2 => q v H2 e2 (hS H2 (e.trans e2))
theorem q_asgC3 {σ : L2.St} {H : Hp} {tA : TA} {vs dvs : List V} {sp : Sp} {E : XK} {g : TG} {D : Ends} {tz : TS} (h : EvA tA σ H vs) (k : ∀ H1, Ex H H1 → sp (vs ++ dvs) H1 (fun x H2 => tSeq (tAsg (tC x) g) tz D σ H2) E) : tSeq (tAsg (tCall sp dvs E tA) g) tz D σ H := h H (Ex.refl H) _ fun H1 e => k H1 e
theorem ev_nn {σ : L2.St} {H : Hp} {ta : TE} {x : V} (h : Ev ta σ H x) : Ev (tOp rNotN ta (tC .non)) σ H (.bl (!decide (x = .non))) := fun H1 e Q q => h H1 e _ fun H2 e2 => ⟨rfl, q H2 e2⟩
theorem ex_callA {σ : L2.St} {H : Hp} {t : TA} {vs dvs : List V} {sp : Sp} {E : XK} {S : V → Hp → Prop} (h : EvA t σ H vs) (k : ∀ H1 (Q : VK) (E : XK), Ex H H1 → (∀ v' H2, Ex H1 H2 → S v' H2 → Q v' H2) → sp (vs ++ dvs) H1 Q E) : EvX (tCall sp dvs E t) σ H S := fun H1 e Q q =>
  h H1 e _ fun H2 e2 => k H2 _ _ (e.trans e2) fun v' H3 e3 hS' => q v' H3 (e2.trans e3) hS'
theorem ev_lenX {σ : L2.St} {H : Hp} {te : TE} {S : V → Hp → Prop} {n : Nat} (h : EvX te σ H S) (k : ∀ v G, S v G → ∃ p xs, v = .ref p ∧ G p = some (.lst xs) ∧ xs.length = n) : Ev (tCB (rLenS K) (tCons te tNil)) σ H (.int (n : Int)) := fun H1 e Q q =>
  h H1 e _ fun v H2 e2 hv => by
    obtain ⟨p, xs, rfl, g, rfl⟩ := k v H2 hv
    exact ⟨p, xs, rfl, .inl (sq_of g), q H2 e2⟩

theorem fits_len {n o : Nat} {cds : List Cd} {rs : List Int} (h : cds.length ≠ 2 ^ n) : fits n cds rs o = false := by
  unfold fits
  rw [decide_eq_false h, Bool.false_and, Bool.and_false, Bool.and_false]
theorem fits_leg {n o : Nat} {cds : List Cd} {rs : List Int} (h : (decide ((rs.length + o) % 2 ^ n = 0) && decide (o < (rs.length + o) / 2 ^ n)) = false) : fits n cds rs o = false := by
  unfold fits
  rw [← Bool.and_assoc, h, Bool.false_and]
theorem fits_true {n o wd : Nat} {cds : List Cd} {rs : List Int} (hl : rs.length + o = wd * 2 ^ n) (how : o < wd) (hc : cds.length = 2 ^ n) (h : ∀ i, i < 2 ^ n → ∀ v ∈ partL rs o wd i, valOk (cds.getD i ⟨false, 0⟩) v) : fits n cds rs o = true := by
  have hp := Nat.two_pow_pos n
  unfold fits
  rw [hl, Nat.mul_mod_left, Nat.mul_div_cancel _ hp, decide_eq_true rfl, decide_eq_true how, decide_eq_true hc, Bool.true_and, Bool.true_and, Bool.true_and]
  exact List.all_eq_true.mpr fun i hi => fitC_of (h i (by rw [List.mem_range, hc] at hi; exact hi))
theorem fits_at {n o wd kk : Nat} {cds : List Cd} {rs : List Int} {c : Cd} {b : Int} (hl : rs.length + o = wd * 2 ^ n) (how : o < wd) (hc : cds.length = 2 ^ n) (hk : kk < 2 ^ n) (hcc : cds[kk]? = some c) (hr : c.raw = true) (hb : fitR c.num b = false) : fits n cds (rs.set (startN o wd kk) b) o = false := by
  have hp := Nat.two_pow_pos n
  have hnx := start_next (o := o) (w := wd) (i := kk) (by omega)
  have hz : 0 < sizeN o wd kk := by unfold sizeN; split <;> omega
  have hs : startN o wd kk < rs.length := by
    have h2 : startN o wd (kk + 1) ≤ rs.length := by unfold startN; have : (kk + 1) * wd ≤ 2 ^ n * wd := Nat.mul_le_mul_right _ hk; rw [Nat.mul_comm (2 ^ n)] at this; omega
    omega
  have hm : b ∈ partL (rs.set (startN o wd kk) b) o wd kk := by
    refine List.mem_of_getElem? (i := 0) ?_
    unfold partL
    rw [List.getElem?_take_of_lt hz, List.getElem?_drop, Nat.add_zero, List.getElem?_set_self hs]
  have hf : fitC (cds.getD kk ⟨false, 0⟩) (partL (rs.set (startN o wd kk) b) o wd kk) = false := by
    rw [List.getD_eq_getElem?_getD, hcc]
    show fitC c _ = false
    unfold fitC
    rw [if_pos hr]
    cases h : (partL (rs.set (startN o wd kk) b) o wd kk).all (fitR c.num) with
    | false => rfl
    | true => rw [List.all_eq_true.mp h b hm] at hb; cases hb
  have hP : fitP cds (rs.set (startN o wd kk) b) o wd = false := by
    unfold fitP
    cases h : (List.range cds.length).all fun i => fitC (cds.getD i ⟨false, 0⟩) (partL (rs.set (startN o wd kk) b) o wd i) with
    | false => rfl
    | true => rw [List.all_eq_true.mp h kk (List.mem_range.mpr (by omega))] at hf; cases hf
  unfold fits
  rw [List.length_set, hl, Nat.mul_div_cancel _ hp, hP, Bool.and_false, Bool.and_false, Bool.and_false]
def PlS (K : PySem.W.Frag) (m n : Nat) (cds : List Cd) : V → Hp → Prop := fun v G => ∃ t tc qs, v = .ref t ∧ G t = some (.tup [.int (m : Int), .int (n : Int), .ref tc]) ∧ CdsAt K G tc qs cds
def CsS (K : PySem.W.Frag) (cds : List Cd) : V → Hp → Prop := fun v G => ∃ tc qs, v = .ref tc ∧ CdsAt K G tc qs cds
theorem ex_plan {σ : L2.St} {H : Hp} {t1 t2 t3 : TE} {m n : Nat} {cds : List Cd} (h1 : Ev t1 σ H (.int (m : Int))) (h2 : Ev t2 σ H (.int (n : Int))) (h3 : EvX t3 σ H (CsS K cds)) : EvX (tTup (tCons t1 (tCons t2 (tCons t3 tNil)))) σ H (PlS K m n cds) := fun H1 e Q q =>
  h1 H1 e _ fun H2 e2 => h2 H2 (e.trans e2) _ fun H3 e3 => h3 H3 (e.trans (e2.trans e3)) _ fun v H4 e4 hv => by
    obtain ⟨tc, qs, rfl, hc⟩ := hv
    exact ⟨sz_of (show 3 ≤ 100000 by decide), fun p hp => q (.ref p) _ ((e2.trans (e3.trans e4)).trans (Ex.new hp)) ⟨p, tc, qs, rfl, upd_same, hc.ex (Ex.new hp)⟩⟩
theorem ev_fitsX {σ : L2.St} {H : Hp} {t1 t2 t3 : TE} {E : XK} {m n o : Nat} {cds : List Cd} {rs : List Int} {b : Bool} (h1 : EvX t1 σ H (PlS K m n cds)) (h2 : EvR t2 σ H (rs.map V.int)) (h3 : Ev t3 σ H (.int (o : Int))) (hn : n ≤ 16) (hr : rs.length ≤ 40000) (hc : ∀ c ∈ cds, c.num ≤ 1000) (hl : cds.length ≤ 40000) (hb : fits n cds rs o = b) : Ev (tCall (sp_fits K) [] E (tCons t1 (tCons t2 (tCons t3 tNil)))) σ H (.bl b) := fun H1 e Q q => by
  refine h1 H1 e _ fun v H2 e2 hv => ?_
  obtain ⟨t, tc, qs, rfl, ht, hq⟩ := hv
  show (tCons t2 (tCons t3 tNil)) σ H2 (fun vs G => sp_fits K ([V.ref t] ++ vs ++ []) G Q E)
  exact h2 H2 (e.trans e2) _ fun p H3 e3 hp => h3 H3 (e.trans (e2.trans e3)) _ fun H4 e4 => ⟨t, tc, p, qs, cds, m, n, o, rs, rfl, (e3.trans e4) _ _ ht, hq.ex (e3.trans e4), e4 _ _ hp, hn, hr, hc, hl, fun H5 e5 => hb ▸ q H5 (e2.trans (e3.trans (e4.trans e5)))⟩
def rice0 : Cd := ⟨false, 0⟩
def sp_lref (K : PySem.W.Frag) : Sp := fun vs H Q _ => ∃ (t tc r : Addr) (qs : List Addr) (cds : List Cd) (m n o wd : Nat) (rs : List Int), vs = [.ref t, .ref r, .int (o : Int)] ∧ H t = some (.tup [.int (m : Int), .int (n : Int), .ref tc]) ∧ CdsAt K H tc qs cds ∧ H r = some (.lst (rs.map V.int)) ∧ n ≤ 7 ∧ cds.length = 2 ^ n ∧ rs.length + o = wd * 2 ^ n ∧ o < wd ∧ wd * 2 ^ n ≤ 400 ∧ (∀ c ∈ cds, c.num ≤ 31) ∧ RetV (.bl true) H Q
theorem ok_law_refuses (T : TX K mg) : FnOk P w K mg base CX0 4 T.a_law_refuses T.d_law_refuses ["plan", "residuals", "order"] (sp_lref K) := by
  refine T.F_law_refuses.ok sc_law_refuses (fun vs H Q E h => by obtain ⟨t, tc, r, qs, cds, m, n, o, wd, rs, rfl, _⟩ := h; rfl) (fun cdv A outer s0 H vs Q E hr h => ?_)
  obtain ⟨t, tc, r, qs, cds, m, n, o, wd, rs, rfl, ht, hc, hr0, hn, hcl, hl, how, hwn, hnum, k⟩ := h
  refine ⟨_, (pss_cons (ps_asg (pv 0) (pg_tup rfl (pgs_cons (pg_name (i := 3) sc_law_refuses.nd rfl (Or.inl rfl)) (pgs_cons (pg_name (i := 4) sc_law_refuses.nd rfl (Or.inl rfl)) (pgs_cons (pg_name (i := 5) sc_law_refuses.nd rfl (Or.inl rfl)) pgs_nil)))))
      (pss_cons (ps_set (i := 6) sc_law_refuses.nd rfl (Or.inl rfl) (pe_op op_add (pe_callB (r := rLenS K) call_len_seq (by rfl) T.m_len PySem.boot_len (pa_cons (pv 1) pa_nil)) (pv 2)))
      (pss_cons (ps_if (pt_cmpR op_isnotB (pe_call (ok_plan_fits T) (hr.mono (by decide)) (by rfl) T.g_plan_fits T.F_plan_fits.kp T.b_plan_fits .nil pass0 (pa_cons (pe_tup (pa_cons (pv 3) (pa_cons (pv 4) (pa_cons (pe_slice (r := rSlA K) sl_tupA (pv 5) (po_some pe_int) po_none) pa_nil)))) (pa_cons (pe_callTy (r := rListS K) call_list_of (by rfl) T.m_list PyProof.Rows.boot_list (pa_cons (pv 1) pa_nil)) (pa_cons (pv 2) pa_nil)))) pe_bl (nomark _)) (pss_one (ps_ret pe_bl)) pss_nil)
      (pss_cons (ps_if (pt_cmpR op_isnotB (pe_call (ok_plan_fits T) (hr.mono (by decide)) (by rfl) T.g_plan_fits T.F_plan_fits.kp T.b_plan_fits .nil pass0 (pa_cons (pe_tup (pa_cons (pv 3) (pa_cons (pv 4) (pa_cons (pe_op op_catA (pv 5) (pe_tup (pa_cons (pe_tup (pa_cons pe_str (pa_cons pe_int pa_nil))) pa_nil))) pa_nil)))) (pa_cons (pe_callTy (r := rListS K) call_list_of (by rfl) T.m_list PyProof.Rows.boot_list (pa_cons (pv 1) pa_nil)) (pa_cons (pv 2) pa_nil)))) pe_bl (nomark _)) (pss_one (ps_ret pe_bl)) pss_nil)
      (pss_cons (ps_for PassesOwn.never rfl (pi_range1 (by rfl) T.m_range (pa_cons pe_int pa_nil)) (pg_name (i := 7) sc_law_refuses.nd rfl (Or.inl rfl)) (pss_cons (ps_set (i := 8) sc_law_refuses.nd rfl (Or.inl rfl) (pe_and (pe_cmpR op_eq (pe_op op_mod (pv 6) (pe_op op_shl pe_int (pv 7))) pe_int (nomark _)) (pe_one (pe_cmpR op_gt (pe_op op_shr (pv 6) (pv 7)) (pv 2) (nomark _)))))
        (pss_one (ps_if (PW.pt (pw_and (pt_not (pt_val (pv 8))) (pw_and1 (pt_cmpR op_isnotB (pe_call (ok_plan_fits T) (hr.mono (by decide)) (by rfl) T.g_plan_fits T.F_plan_fits.kp T.b_plan_fits .nil pass0 (pa_cons (pe_tup (pa_cons (pv 3) (pa_cons (pv 7) (pa_cons (pe_op op_repU (pe_tup (pa_cons (pe_tup (pa_cons pe_str (pa_cons pe_int pa_nil))) pa_nil)) (pe_op op_shl pe_int (pv 7))) pa_nil)))) (pa_cons (pe_callTy (r := rListS K) call_list_of (by rfl) T.m_list PyProof.Rows.boot_list (pa_cons (pv 1) pa_nil)) (pa_cons (pv 2) pa_nil)))) pe_bl (nomark _))))) (pss_one (ps_ret pe_bl)) pss_nil))))
      (pss_cons (ps_for PassesOwn.never rfl (pi_range1 (by rfl) T.m_range (pa_cons (pe_callB (r := rLenS K) call_len_seq (by rfl) T.m_len PySem.boot_len (pa_cons (pv 5) pa_nil)) pa_nil)) (pg_name (i := 9) sc_law_refuses.nd rfl (Or.inl rfl)) (pss_cons (ps_set (i := 10) sc_law_refuses.nd rfl (Or.inl rfl) (pe_call (ok_law_beyond T) (hr.mono (by decide)) (by rfl) T.g_law_beyond T.F_law_beyond.kp T.b_law_beyond .nil pass0 (pa_cons (pv 0) (pa_cons (pv 1) (pa_cons (pv 2) (pa_cons (pv 9) pa_nil))))))
        (pss_one (ps_if (PW.pt (pw_and (pt_cmpR op_notN1 (pv 10) pe_non (nomark _)) (pw_and1 (pt_cmpR op_isnotB (pe_call (ok_plan_fits T) (hr.mono (by decide)) (by rfl) T.g_plan_fits T.F_plan_fits.kp T.b_plan_fits .nil pass0 (pa_cons (pv 0) (pa_cons (pv 10) (pa_cons (pv 2) pa_nil)))) pe_bl (nomark _))))) (pss_one (ps_ret pe_bl)) pss_nil))))
      (pss_one (ps_ret pe_bl)))))))), ?_⟩
  have hp2 := Nat.two_pow_pos n
  have hp128 : 2 ^ n ≤ 128 := Nat.pow_le_pow_right (n := 2) (j := 7) (by decide) hn
  have hcl2 := hc.2.1
  have hrl : rs.length ≤ 400 := by omega
  refine q_asg3T (ev_var rfl) ht fun H1 e1 => ?_
  obtain ⟨S, hS⟩ : ∃ S, rs.length + o = S := ⟨_, rfl⟩
  refine q_asg (v := .int (S : Int)) (Ev.is (ev_I0 (g := fun i j => .int (i + j)) (ev_lenS (Ev.s (ev_var rfl) (sq_of (e1 _ _ hr0)))) (ev_var rfl)) (congrArg V.int (by rw [List.length_map]; omega))) fun H2 e2 => ?_
  have e12 := e1.trans e2
  show tSeq _ _ _ [some (.ref t), some (.ref r), some (.int (o : Int)), some (.int (m : Int)), some (.int (n : Int)), some (.ref tc), some (.int (S : Int)), none, none, none, none] _
  have hnum' : ∀ c ∈ cds, c.num ≤ 1000 := fun c h => Nat.le_trans (hnum c h) (by decide)
  have lst : ∀ {σ : L2.St} {H' : Hp}, Ex H H' → σ[1]? = some (some (.ref r)) → EvR (tCB (rListS K) (tCons (tVar 1) tNil)) σ H' (rs.map V.int) := fun e h => EvL.r (el_of (Ev.s (ev_var h) (sq_of (e _ _ hr0))))
  refine q_when (b := false) (et_is (et_notB (b := false) (ev_fitsX (b := false) (m := m) (n := n) (cds := cds.drop 1) (ex_plan (ev_var rfl) (ev_var rfl) ?_) (lst e12 rfl) (ev_var rfl) (by omega) (by omega) (fun c h => hnum' c (List.mem_of_mem_drop h)) (by rw [List.length_drop]; omega) (fits_len (by rw [List.length_drop]; omega)))) rfl) (fun hb => by cases hb) fun _ H3 e3 => ?_
  · refine fun G e Q q => (ev_var (v := .ref tc) rfl) G e _ fun G2 e2' => (eo_some (i := 1) ev_c) G2 (e.trans e2') _ fun G3 e3' => ?_
    have hcG := hc.ex (e12.trans (e.trans (e2'.trans e3')))
    refine ⟨tc, qs.map V.ref, rfl, hcG.1, fun hw => ?_, fun _ p hp => q (.ref p) _ ((e2'.trans e3').trans (Ex.new hp)) ⟨p, qs.drop 1, rfl, ?_⟩⟩
    · have h1 := hw.1
      rw [show (some (1 : Int)) = some ((1 : Nat) : Int) from rfl, HT.sIx_nat, List.length_map] at h1
      omega
    · have h2 := hcG.ex (Ex.new (o := .tup ((qs.drop 1).map V.ref)) hp)
      have ecut : cutV (qs.map V.ref) (some 1) none = (qs.drop 1).map V.ref := by rw [List.map_drop]; exact cut_from _ 1
      rw [ecut]
      exact ⟨st_of upd_same, by rw [List.length_drop, List.length_drop, hcl2], fun i q c h3 h4 => h2.2.2 (1 + i) q c (by rw [List.getElem?_drop] at h3; exact h3) (by rw [List.getElem?_drop] at h4; exact h4)⟩
  have e13 := e12.trans e3
  refine q_when (b := false) (et_is (et_notB (b := false) (ev_fitsX (b := false) (m := m) (n := n) (cds := cds ++ [rice0]) (ex_plan (ev_var rfl) (ev_var rfl) ?_) (lst e13 rfl) (ev_var rfl) (by omega) (by omega) (fun c h => ?_) (by rw [List.length_append]; show _ + 1 ≤ _; omega) (fits_len (by rw [List.length_append]; show _ + 1 ≠ _; omega)))) rfl) (fun hb => by cases hb) fun _ H4 e4 => ?_
  · refine fun G e Q q => (ev_var (v := .ref tc) rfl) G e _ fun G2 e2' => ?_
    refine ⟨sz_of (show 2 ≤ 100000 by decide), fun p1 hp1 => ⟨sz_of (show 1 ≤ 100000 by decide), fun p2 hp2' => ?_⟩⟩
    have x1 := Ex.new (o := .tup [.str "rice", .int 0]) hp1
    have x2 := Ex.new (o := .tup [.ref p1]) hp2'
    have hcG := hc.ex (e13.trans (e.trans (e2'.trans (x1.trans x2))))
    have g1 := x2 _ _ (upd_same (H := G2) (a := p1) (o := .tup [.str "rice", .int 0]))
    have nq : qs.map V.ref ≠ [] := fun z => by have := congrArg List.length z; rw [List.length_map] at this; have z0 : ([] : List V).length = 0 := rfl; omega
    refine ⟨tc, p2, qs.map V.ref, [.ref p1], rfl, rfl, hcG.1, st_of upd_same, sz_of (by rw [List.length_map]; show _ + 1 ≤ _; omega), fun z => absurd z nq, fun _ z => (by cases z), fun _ _ p hp => q (.ref p) _ ((e2'.trans (x1.trans x2)).trans (Ex.new hp)) ⟨p, qs ++ [p1], rfl, ?_⟩⟩
    have x3 := Ex.new (o := .tup (qs.map V.ref ++ [.ref p1])) hp
    refine ⟨st_of (by rw [upd_same, List.map_append]; rfl), by rw [List.length_append, List.length_append, hcl2]; rfl, fun i q c h3 h4 => x3 _ _ ?_⟩
    by_cases hi : i < cds.length
    · rw [List.getElem?_append_left (by omega)] at h3 h4
      exact hcG.2.2 i q c h3 h4
    · have hlt := (List.getElem?_eq_some_iff.mp h3).1
      rw [List.length_append] at hlt
      have hlt : i < qs.length + 1 := hlt
      obtain rfl : i = cds.length := by omega
      rw [List.getElem?_append_right (by omega), hcl2, Nat.sub_self] at h3
      rw [List.getElem?_append_right (by omega), Nat.sub_self] at h4
      cases h3
      cases h4
      exact g1
  · rcases List.mem_append.mp h with h | h
    · exact hnum' c h
    · rw [List.mem_singleton.mp h]
      decide
  have e14 := e13.trans e4
  refine q_forR1 (n := 16) (ea_cons ev_c ea_nil) (by omega) (fun i σ' H' => ∃ z7 z8 : Option V, σ' = [some (.ref t), some (.ref r), some (.int (o : Int)), some (.int (m : Int)), some (.int (n : Int)), some (.ref tc), some (.int (S : Int)), z7, z8, none, none] ∧ Ex H H') (fun H5 e5 => ⟨none, none, rfl, e14.trans e5⟩) ?_ ?_
  · rintro qi σ' H5 hqi ⟨z7, z8, rfl, ex⟩
    have hqi : qi < 16 := by omega
    have hq2 := Nat.two_pow_pos qi
    have hq16 : 2 ^ qi ≤ 32768 := Nat.pow_le_pow_right (n := 2) (j := 15) (by decide) (by omega)
    have shl : ∀ {σ : L2.St} {H' : Hp}, σ[7]? = some (some (.int (qi : Int))) → Ev (tOp (rI CPow fun i j => .int (i * 2 ^ j.toNat)) (tC (.int 1)) (tVar 7)) σ H' (.int ((2 ^ qi : Nat) : Int)) := fun h => Ev.is (ev_I ev_c (ev_var h) (show CPow 1 (qi : Int) from ⟨by omega, by omega, by decide⟩)) (congrArg V.int (by rw [Int.toNat_natCast, Int.one_mul, pow_cast]))
    obtain ⟨lg, hlg⟩ : ∃ b, (decide (S % 2 ^ qi = 0) && decide (o < S / 2 ^ qi)) = b := ⟨_, rfl⟩
    refine q_asg (v := .bl lg) (Ev.is (ev_andV (a := decide (S % 2 ^ qi = 0)) (b := decide (o < S / 2 ^ qi)) (Ev.is (ev_eq (ev_I (j := ((2 ^ qi : Nat) : Int)) (ev_var rfl) (shl rfl) (by show (0 : Int) < _; omega)) ev_c rfl) (congrArg V.bl (decide_eq_decide.mpr ⟨fun h => by have := V.int.inj h; omega, fun h => congrArg V.int (by omega)⟩))) fun _ => Ev.is (ev_I0 (g := fun i j => .bl (decide (j < i))) (ev_I (ev_var rfl) (ev_var rfl) (show (0 : Int) ≤ (qi : Int) by omega)) (ev_var rfl)) (congrArg V.bl (decide_eq_decide.mpr (by show (o : Int) < (S : Int) / 2 ^ ((qi : Nat) : Int).toNat ↔ _; rw [Int.toNat_natCast, pow_cast]; omega)))) (congrArg V.bl hlg)) fun H6 e6 => ?_
    dsimp only
    cases lg with
    | true => exact s_when (b := false) (et_is (et_and (a := false) (b := false) (et_is (et_not (et_B (ev_var rfl))) rfl) fun h => by cases h) rfl) (fun hb => by cases hb) fun _ H7 e7 => ⟨_, _, rfl, ex.trans (e6.trans e7)⟩
    | false =>
      have hq1 : 2 ≤ 2 ^ qi := by
        cases qi with
        | zero =>
          rw [Nat.pow_zero, Nat.mod_one, Nat.div_one, decide_eq_true rfl, Bool.true_and] at hlg
          have h1 : S ≤ o := Nat.le_of_not_lt (of_decide_eq_false hlg)
          have h2 : wd ≤ wd * 2 ^ n := Nat.le_mul_of_pos_right _ hp2
          omega
        | succ j => have := Nat.two_pow_pos j; rw [Nat.pow_succ]; omega
      refine s_when (b := false) ?_ (fun hb => by cases hb) fun _ H7 e7 => ⟨_, _, rfl, ex.trans (e6.trans e7)⟩
      refine et_is (et_and (a := true) (b := false) (et_is (et_not (et_B (ev_var rfl))) rfl) fun _ => ?_) rfl
      refine et_is (et_notB (b := false) (ev_fitsX (b := false) (m := m) (n := qi) (cds := List.replicate (2 ^ qi) rice0) (ex_plan (ev_var rfl) (ev_var rfl) ?_) (lst (ex.trans e6) rfl) (ev_var rfl) (by omega) (by omega) (fun c h => ?_) (by rw [List.length_replicate]; omega) (fits_leg (by rw [hS]; exact hlg)))) rfl
      · refine fun G e Q q => ?_
        refine ⟨sz_of (show 2 ≤ 100000 by decide), fun p1 hp1 => ⟨sz_of (show 1 ≤ 100000 by decide), fun p2 hp2' => ?_⟩⟩
        have x1 := Ex.new (o := .tup [.str "rice", .int 0]) hp1
        have x2 := Ex.new (o := .tup [.ref p1]) hp2'
        have g1 := x2 _ _ (upd_same (H := G) (a := p1) (o := .tup [.str "rice", .int 0]))
        refine (shl rfl) _ (Ex.refl _) _ fun G3 e3' => ⟨p2, _, .ref p1, rfl, rfl, ex_t e3' (st_of upd_same), by omega, by omega, fun p hp => q (.ref p) _ ((x1.trans (x2.trans e3')).trans (Ex.new hp)) ⟨p, List.replicate (2 ^ qi) p1, rfl, ?_⟩⟩
        have x3 := Ex.new (o := .tup (List.replicate ((2 ^ qi : Nat) : Int).toNat (V.ref p1))) hp
        refine ⟨st_of (by rw [upd_same, List.map_replicate, Int.toNat_natCast]), by rw [List.length_replicate, List.length_replicate], fun i q c h3 h4 => x3 _ _ (e3' _ _ ?_)⟩
        rw [List.eq_of_mem_replicate (List.mem_of_getElem? h3), List.eq_of_mem_replicate (List.mem_of_getElem? h4)]
        exact g1
      · rw [List.eq_of_mem_replicate h]
        decide
  rintro σ' H5 ⟨z7, z8, rfl, ex5⟩
  refine q_forR1 (n := ((2 ^ n : Nat) : Int)) (ea_cons (Ev.is (ev_lenT (Ev.p (ev_var rfl) (ex_t ex5 hc.1))) (congrArg V.int (by rw [List.length_map, hcl2, hcl]))) ea_nil) (by omega) (fun i σ' H' => ∃ z9 z10 : Option V, σ' = [some (.ref t), some (.ref r), some (.int (o : Int)), some (.int (m : Int)), some (.int (n : Int)), some (.ref tc), some (.int (S : Int)), z7, z8, z9, z10] ∧ Ex H H') (fun H6 e6 => ⟨none, none, rfl, ex5.trans e6⟩) ?_ ?_
  · rintro kk σ' H6 hkk ⟨z9, z10, rfl, ex⟩
    have hkk : kk < 2 ^ n := by omega
    obtain ⟨c, hcc⟩ : ∃ c, cds[kk]? = some c := ⟨_, List.getElem?_eq_getElem (by omega)⟩
    refine q_asgC (vs := [.ref t, .ref r, .int (o : Int), .int (kk : Int)]) (ea_cons (ev_var rfl) (ea_cons (ev_var rfl) (ea_cons (ev_var rfl) (ea_cons (ev_var rfl) ea_nil)))) fun H7 e7 => ⟨t, tc, r, qs, cds, m, n, o, wd, kk, rs, c, rfl, (ex.trans e7) _ _ ht, hc.ex (ex.trans e7), (ex.trans e7) _ _ hr0, hn, hcl, hkk, hl, how, hcc, hnum c (List.mem_of_getElem? hcc), by omega, fun hraw H8 e8 => ?_, fun hraw p b H8 hp e8 g8 hfb => ?_⟩
    · exact s_when (b := false) (et_is (et_and (a := false) (b := false) (et_is (et_test (ev_nn (ev_var rfl))) rfl) fun h => by cases h) rfl) (fun hb => by cases hb) fun _ H9 e9 => ⟨_, _, rfl, ex.trans (e7.trans (e8.trans e9))⟩
    · have ex8 := ex.trans (e7.trans e8)
      refine s_when (b := false) ?_ (fun hb => by cases hb) fun _ H9 e9 => ⟨_, _, rfl, ex8.trans e9⟩
      refine et_is (et_and (a := true) (b := false) (et_is (et_test (ev_nn (ev_var rfl))) rfl) fun _ => ?_) rfl
      exact et_is (et_notB (b := false) (ev_fitsX (b := false) (m := m) (n := n) (cds := cds) (EvX.ev (ev_var rfl) fun G e => ⟨t, tc, qs, rfl, (ex8.trans e) _ _ ht, hc.ex (ex8.trans e)⟩) (Ev.r (ev_var rfl) g8) (ev_var rfl) (by omega) (by rw [List.length_set]; omega) hnum' (by omega) (fits_at hl how hcl hkk hcc hraw hfb))) rfl
  · rintro σ' H6 ⟨z9, z10, rfl, ex⟩
    exact s_ret (v := .bl true) ev_c fun H7 e7 => k H7 (ex.trans e7)
def sp_law (K : PySem.W.Frag) : Sp := fun vs H Q _ => ∃ (a : Addr) (ns : List Int), vs = [.ref a] ∧ SqL K H a (ns.map V.int) ∧ ns.length ≤ 63 ∧ ∀ H', Q (.bl true) H'
theorem ok_law (T : TX K mg) : FnOk P w K mg base CX0 5 T.a_law T.d_law ["script"] (sp_law K) := by
  refine T.F_law.ok sc_law (fun vs H Q E h => by obtain ⟨a, ns, rfl, _⟩ := h; rfl) (fun cdv A outer s H vs Q E hr h => ?_)
  obtain ⟨a, ns, rfl, hS, hlen, k⟩ := h
  refine ⟨_, (pss_cons (ps_asg (pe_call (ok_law_built T) (hr.mono (by decide)) (by rfl) T.g_law_built T.F_law_built.kp T.b_law_built .nil pass0 (pa_cons (pv 0) pa_nil)) (pg_tup rfl (pgs_cons (pg_name (i := 1) sc_law.nd rfl (Or.inl rfl)) (pgs_cons (pg_name (i := 2) sc_law.nd rfl (Or.inl rfl)) (pgs_cons (pg_name (i := 3) sc_law.nd rfl (Or.inl rfl)) pgs_nil)))))
      (pss_cons (ps_set (i := 4) sc_law.nd rfl (Or.inl rfl) (pe_callTy (r := rListS K) call_list_of (by rfl) T.m_list PyProof.Rows.boot_list (pa_cons (pv 2) pa_nil)))
      (pss_cons (ps_if (PW.pt (pw_or (pt_cmpR op_isnotB (pe_call (ok_plan_fits T) (hr.mono (by decide)) (by rfl) T.g_plan_fits T.F_plan_fits.kp T.b_plan_fits .nil pass0 (pa_cons (pv 1) (pa_cons (pv 4) (pa_cons (pv 3) pa_nil)))) pe_bl (nomark _)) (pw_or1 (pt_cmpR (op_neD (hu64 hr)) (pv 4) (pv 2) (nomark _))))) (pss_one (ps_ret pe_bl)) pss_nil)
      (pss_cons (ps_set (i := 5) sc_law.nd rfl (Or.inl rfl) (pe_call (ok_residual_bits T) (hr.mono (by decide)) (by rfl) T.g_residual_bits T.F_residual_bits.kp T.b_residual_bits .nil pass0 (pa_cons (pv 1) (pa_cons (pv 4) (pa_cons (pv 3) pa_nil)))))
      (pss_cons (ps_if (PW.pt (pw_or (pt_not (pt_val (pe_callB (r := rIsi K) call_isi (by rfl) T.m_isinstance PyProof.Rows.boot_isinstance (pa_cons (pv 5) (pa_cons (pe_bltn (v := V.ty "int") (by rfl) T.m_int PyProof.Rows.boot_int rfl) pa_nil))))) (pw_or (pt_val (pe_callB (r := rIsi K) call_isi (by rfl) T.m_isinstance PyProof.Rows.boot_isinstance (pa_cons (pv 5) (pa_cons (pe_bltn (v := V.ty "bool") (by rfl) T.m_bool PyProof.Rows.boot_bool rfl) pa_nil)))) (pw_or1 (pt_cmpR (op_neD (hu64 hr)) (pv 4) (pv 2) (nomark _)))))) (pss_one (ps_ret pe_bl)) pss_nil)
      (pss_cons (ps_if (pt_cmpR op_ne (pv 5) (pe_callB (r := rLenS K) call_len_seq (by rfl) T.m_len PySem.boot_len (pa_cons (pe_call (ok_law_plan_bits T) (hr.mono (by decide)) (by rfl) T.g_law_plan_bits T.F_law_plan_bits.kp T.b_law_plan_bits .nil pass0 (pa_cons (pv 1) (pa_cons (pv 2) (pa_cons (pv 3) pa_nil)))) pa_nil)) (nomark _)) (pss_one (ps_ret pe_bl)) pss_nil)
      (pss_one (ps_ret (pe_and (pe_call (ok_law_refuses T) (hr.mono (by decide)) (by rfl) T.g_law_refuses T.F_law_refuses.kp T.b_law_refuses .nil pass0 (pa_cons (pv 1) (pa_cons (pv 2) (pa_cons (pv 3) pa_nil)))) (pe_one (pe_cmpR op_is_bl (pe_call (ok_plan_fits T) (hr.mono (by decide)) (by rfl) T.g_plan_fits T.F_plan_fits.kp T.b_plan_fits .nil pass0 (pa_cons (pv 1) (pa_cons (pv 4) (pa_cons (pv 3) pa_nil)))) pe_bl (nomark _)))))))))))), ?_⟩
  refine q_asgC3 (vs := [.ref a]) (ea_cons (ev_var rfl) ea_nil) fun H1 e1 => ⟨a, ns, rfl, ex_l e1 hS, fun t tp tc r qs cds m n o wd rs H2 hrn e2 gt gtp gtc hcd gr hn hm hcl hl how hwd hwn hnum hval => q_asg3T ev_c gt fun H2' e2' => ?_⟩
  show tSeq _ _ _ [some (.ref a), some (.ref tp), some (.ref r), some (.int (o : Int)), none, none] _
  replace gtp := e2' _ _ gtp
  replace gr := e2' _ _ gr
  replace hcd := hcd.ex e2'
  have hrl : rs.length ≤ 400 := by omega
  have hp128 : 2 ^ n ≤ 128 := Nat.pow_le_pow_right (n := 2) (j := 7) (by decide) hn
  replace hnum := fun c h => (hnum c h).1
  have hnum' : ∀ c ∈ cds, c.num ≤ 1000 := fun c h => Nat.le_trans (hnum c h) (by decide)
  have hft := fits_true hl how hcl hval
  refine q_asgL (xs := rs.map V.int) (el_of (Ev.s (ev_var rfl) (sq_of gr))) fun ps H3 hps e3 g3 => ?_
  have fit : ∀ {σ : L2.St} {H' : Hp} {E' : XK}, Ex H3 H' → σ[1]? = some (some (.ref tp)) → σ[4]? = some (some (.ref ps)) → σ[3]? = some (some (.int (o : Int))) → Ev (tCall (sp_fits K) [] E' (tCons (tVar 1) (tCons (tVar 4) (tCons (tVar 3) tNil)))) σ H' (.bl true) := fun e h1 h4 h3 => ev_fitsX (m := m) (n := n) (cds := cds) (rs := rs) (EvX.ev (ev_var h1) fun G e' => ⟨tp, tc, qs, rfl, (e3.trans (e.trans e')) _ _ gtp, hcd.ex (e3.trans (e.trans e'))⟩) (Ev.r (ev_var h4) (e _ _ g3)) (ev_var h3) (by omega) (by omega) hnum' (by omega) hft
  have same : ∀ {σ : L2.St} {H' : Hp}, Ex H3 H' → σ[4]? = some (some (.ref ps)) → σ[2]? = some (some (.ref r)) → EvT (tTest (tOp (rNeD K) (tVar 4) (tVar 2))) σ H' false := fun e h4 h2 => et_is (et_test (ev_neI (ns := rs) (ms := rs) (Ev.s (ev_var h4) (sq_of (e _ _ g3))) (Ev.s (ev_var h2) (sq_of ((e3.trans e) _ _ gr))))) (by simp)
  refine q_when (b := false) (et_is (et_or (a := false) (b := false) (et_is (et_notB (b := true) (fit (Ex.refl _) rfl rfl rfl)) rfl) fun _ => same (Ex.refl _) rfl rfl) rfl) (fun hb => by cases hb) fun _ H4 e4 => ?_
  refine q_asg (v := .int ((rbits m cds rs o wd cds.length : Nat) : Int)) (ev_call (ea_cons (ev_var rfl) (ea_cons (ev_var rfl) (ea_cons (ev_var rfl) ea_nil))) fun G e Q q _ => ⟨tp, tc, ps, qs, cds, m, n, o, wd, rs, rfl, (e3.trans (e4.trans e)) _ _ gtp, hcd.ex (e3.trans (e4.trans e)), (e4.trans e) _ _ g3, by omega, by omega, hnum', hcl, hl, by omega, q⟩) fun H5 e5 => ?_
  have e45 := e4.trans e5
  refine q_when (b := false) (et_is (et_or (a := false) (b := false) (et_is (et_not (et_B (ev_isiI (ev_var rfl)))) rfl) fun _ => et_or (a := false) (b := false) (et_B (ev_isiB (ev_var rfl))) fun _ => same e45 rfl rfl) rfl) (fun hb => by cases hb) fun _ H6 e6 => ?_
  have e46 := e45.trans e6
  refine q_when (b := false) (et_is (et_test (ev_ne (y := .int ((rbits m cds rs o wd cds.length : Nat) : Int)) (ev_var rfl) (ev_lenX (S := fun v G => ∃ (p : Addr) (bs : List Int), v = .ref p ∧ G p = some (.lst (bs.map V.int)) ∧ bs.length = rbits m cds rs o wd (2 ^ n)) (ex_callA (ea_cons (ev_var rfl) (ea_cons (ev_var rfl) (ea_cons (ev_var rfl) ea_nil))) fun G Q E e q => ?_) fun v G hv => ?_) rfl)) ?_) (fun hb => by cases hb) fun _ H7 e7 => ?_
  · exact ⟨tp, tc, r, qs, cds, m, n, o, wd, rs, rfl, (e3.trans (e46.trans e)) _ _ gtp, hcd.ex (e3.trans (e46.trans e)), (e3.trans (e46.trans e)) _ _ gr, hn, hm, hcl, hl, how, hwn, hnum, hval, fun p bs G3 hp e3' gb hbl hb2 => q _ _ e3' ⟨p, bs, rfl, gb, hbl⟩⟩
  · obtain ⟨p, bs, rfl, gb, hbl⟩ := hv
    exact ⟨p, _, rfl, gb, by rw [List.length_map, hbl, hcl]⟩
  · rw [decide_eq_true rfl]
    rfl
  have e47 := e46.trans e7
  refine s_ret (v := .bl true) (Ev.is (ev_andV (a := true) (b := true) (ev_call (ea_cons (ev_var rfl) (ea_cons (ev_var rfl) (ea_cons (ev_var rfl) ea_nil))) fun G e Q q _ => ⟨tp, tc, r, qs, cds, m, n, o, wd, rs, rfl, (e3.trans (e47.trans e)) _ _ gtp, hcd.ex (e3.trans (e47.trans e)), (e3.trans (e47.trans e)) _ _ gr, hn, hcl, hl, how, hwn, hnum, q⟩) fun _ => ?_) rfl) fun H8 e8 => k _
  exact fun G e Q q => (fit (e47.trans e) rfl rfl rfl) G (Ex.refl _) _ fun G2 e2' => ⟨true, true, rfl, rfl, q _ e2'⟩

end
set_option maxHeartbeats 0 in
theorem all_mk {l : PySem.W.OpenLaw} {w : World} {K : PySem.W.Frag} {h : Heap} {mg : Str → Option Value} {fa : Addr} {f1 f2 f3 f4 f5 f6 f7 f8 f9 f10 f11 f12 f13 f14 f15 f16 f17 f18 f19 f20 f21 : Addr} (X : K.In h) (G : h.Ns mainGlobals mg) (hfa : mg "law" = some (.ref fa))
    {od1 an1 : Option Addr} {sl1 : Array (Option Value)} {oc1 dc1 pm1 cd1 ct1 : Value} {kV1 : Value} {od2 an2 : Option Addr} {sl2 : Array (Option Value)} {oc2 dc2 pm2 cd2 ct2 : Value} {kV2 : Value} {od3 an3 : Option Addr} {sl3 : Array (Option Value)} {oc3 dc3 pm3 cd3 ct3 : Value} {kV3 : Value} {od4 an4 : Option Addr} {sl4 : Array (Option Value)} {oc4 dc4 pm4 cd4 ct4 : Value} {kV4 : Value} {od5 an5 : Option Addr} {sl5 : Array (Option Value)} {oc5 dc5 pm5 cd5 ct5 : Value} {kV5 : Value} {od6 an6 : Option Addr} {sl6 : Array (Option Value)} {oc6 dc6 pm6 cd6 ct6 : Value} {kV6 : Value} {od7 an7 : Option Addr} {sl7 : Array (Option Value)} {oc7 dc7 pm7 cd7 ct7 : Value} {kV7 : Value} {od8 an8 : Option Addr} {sl8 : Array (Option Value)} {oc8 dc8 pm8 cd8 ct8 : Value} {kV8 : Value} {od9 an9 : Option Addr} {sl9 : Array (Option Value)} {oc9 dc9 pm9 cd9 ct9 : Value} {kV9 : Value} {od10 an10 : Option Addr} {sl10 : Array (Option Value)} {oc10 dc10 pm10 cd10 ct10 : Value} {kV10 : Value} {od11 an11 : Option Addr} {sl11 : Array (Option Value)} {oc11 dc11 pm11 cd11 ct11 : Value} {kV11 : Value} {od12 an12 : Option Addr} {sl12 : Array (Option Value)} {oc12 dc12 pm12 cd12 ct12 : Value} {kV12 : Value} {od13 an13 : Option Addr} {sl13 : Array (Option Value)} {oc13 dc13 pm13 cd13 ct13 : Value} {kV13 : Value} {od14 an14 : Option Addr} {sl14 : Array (Option Value)} {oc14 dc14 pm14 cd14 ct14 : Value} {kV14 : Value} {od15 an15 : Option Addr} {sl15 : Array (Option Value)} {oc15 dc15 pm15 cd15 ct15 : Value} {kV15 : Value} {od16 an16 : Option Addr} {sl16 : Array (Option Value)} {oc16 dc16 pm16 cd16 ct16 : Value} {kV16 : Value} {od17 an17 : Option Addr} {sl17 : Array (Option Value)} {oc17 dc17 pm17 cd17 ct17 : Value} {kV17 : Value} {od18 an18 : Option Addr} {sl18 : Array (Option Value)} {oc18 dc18 pm18 cd18 ct18 : Value} {kV18 : Value} {od19 an19 : Option Addr} {sl19 : Array (Option Value)} {oc19 dc19 pm19 cd19 ct19 : Value} {kV19 : Value} {od20 an20 : Option Addr} {sl20 : Array (Option Value)} {oc20 dc20 pm20 cd20 ct20 : Value} {kV20 : Value} {od21 an21 : Option Addr} {sl21 : Array (Option Value)} {oc21 dc21 pm21 cd21 ct21 : Value} {kV21 : Value}
    (a1 : PySem.W.nsIn K mainGlobals "fold" = some (some (.ref f1)))
    (l1 : K.lookup f1 = some ⟨oc1, od1, .func (PySem.W.fnOf "fold" "fold" (defArgs s_fold) (defBody s_fold) (defScope s_fold) .none kV1 dc1 pm1 an1 cd1 ct1), sl1⟩) (c1 : PySem.W.codeIn K cd1 "fold" = true) (k1 : PySem.W.keepIn K (.ref f1) = true)
    (a2 : PySem.W.nsIn K mainGlobals "code_length" = some (some (.ref f2)))
    (l2 : K.lookup f2 = some ⟨oc2, od2, .func (PySem.W.fnOf "code_length" "code_length" (defArgs s_code_length) (defBody s_code_length) (defScope s_code_length) .none kV2 dc2 pm2 an2 cd2 ct2), sl2⟩) (c2 : PySem.W.codeIn K cd2 "code_length" = true) (k2 : PySem.W.keepIn K (.ref f2) = true)
    (a3 : PySem.W.nsIn K mainGlobals "legal_partition_order" = some (some (.ref f3)))
    (l3 : K.lookup f3 = some ⟨oc3, od3, .func (PySem.W.fnOf "legal_partition_order" "legal_partition_order" (defArgs s_legal_partition_order) (defBody s_legal_partition_order) (defScope s_legal_partition_order) .none kV3 dc3 pm3 an3 cd3 ct3), sl3⟩) (c3 : PySem.W.codeIn K cd3 "legal_partition_order" = true) (k3 : PySem.W.keepIn K (.ref f3) = true)
    (a4 : PySem.W.nsIn K mainGlobals "partition_sizes" = some (some (.ref f4)))
    (l4 : K.lookup f4 = some ⟨oc4, od4, .func (PySem.W.fnOf "partition_sizes" "partition_sizes" (defArgs s_partition_sizes) (defBody s_partition_sizes) (defScope s_partition_sizes) .none kV4 dc4 pm4 an4 cd4 ct4), sl4⟩) (c4 : PySem.W.codeIn K cd4 "partition_sizes" = true) (k4 : PySem.W.keepIn K (.ref f4) = true)
    (a5 : PySem.W.nsIn K mainGlobals "plan_fits" = some (some (.ref f5)))
    (l5 : K.lookup f5 = some ⟨oc5, od5, .func (PySem.W.fnOf "plan_fits" "plan_fits" (defArgs s_plan_fits) (defBody s_plan_fits) (defScope s_plan_fits) .none kV5 dc5 pm5 an5 cd5 ct5), sl5⟩) (c5 : PySem.W.codeIn K cd5 "plan_fits" = true) (k5 : PySem.W.keepIn K (.ref f5) = true)
    (a6 : PySem.W.nsIn K mainGlobals "residual_bits" = some (some (.ref f6)))
    (l6 : K.lookup f6 = some ⟨oc6, od6, .func (PySem.W.fnOf "residual_bits" "residual_bits" (defArgs s_residual_bits) (defBody s_residual_bits) (defScope s_residual_bits) .none kV6 dc6 pm6 an6 cd6 ct6), sl6⟩) (c6 : PySem.W.codeIn K cd6 "residual_bits" = true) (k6 : PySem.W.keepIn K (.ref f6) = true)
    (a7 : PySem.W.nsIn K mainGlobals "_parts" = some (some (.ref f7)))
    (l7 : K.lookup f7 = some ⟨oc7, od7, .func (PySem.W.fnOf "_parts" "_parts" (defArgs s_parts) (defBody s_parts) (defScope s_parts) .none kV7 dc7 pm7 an7 cd7 ct7), sl7⟩) (c7 : PySem.W.codeIn K cd7 "_parts" = true) (k7 : PySem.W.keepIn K (.ref f7) = true)
    (a8 : PySem.W.nsIn K mainGlobals "_coding_fits" = some (some (.ref f8)))
    (l8 : K.lookup f8 = some ⟨oc8, od8, .func (PySem.W.fnOf "_coding_fits" "_coding_fits" (defArgs s_coding_fits) (defBody s_coding_fits) (defScope s_coding_fits) .none kV8 dc8 pm8 an8 cd8 ct8), sl8⟩) (c8 : PySem.W.codeIn K cd8 "_coding_fits" = true) (k8 : PySem.W.keepIn K (.ref f8) = true)
    (a9 : PySem.W.nsIn K mainGlobals "_fits_raw" = some (some (.ref f9)))
    (l9 : K.lookup f9 = some ⟨oc9, od9, .func (PySem.W.fnOf "_fits_raw" "_fits_raw" (defArgs s_fits_raw) (defBody s_fits_raw) (defScope s_fits_raw) .none kV9 dc9 pm9 an9 cd9 ct9), sl9⟩) (c9 : PySem.W.codeIn K cd9 "_fits_raw" = true) (k9 : PySem.W.keepIn K (.ref f9) = true)
    (a10 : PySem.W.nsIn K mainGlobals "_coding_width" = some (some (.ref f10)))
    (l10 : K.lookup f10 = some ⟨oc10, od10, .func (PySem.W.fnOf "_coding_width" "_coding_width" (defArgs s_coding_width) (defBody s_coding_width) (defScope s_coding_width) .none kV10 dc10 pm10 an10 cd10 ct10), sl10⟩) (c10 : PySem.W.codeIn K cd10 "_coding_width" = true) (k10 : PySem.W.keepIn K (.ref f10) = true)
    (a11 : PySem.W.nsIn K mainGlobals "_part_bits" = some (some (.ref f11)))
    (l11 : K.lookup f11 = some ⟨oc11, od11, .func (PySem.W.fnOf "_part_bits" "_part_bits" (defArgs s_part_bits) (defBody s_part_bits) (defScope s_part_bits) .none kV11 dc11 pm11 an11 cd11 ct11), sl11⟩) (c11 : PySem.W.codeIn K cd11 "_part_bits" = true) (k11 : PySem.W.keepIn K (.ref f11) = true)
    (a12 : PySem.W.nsIn K mainGlobals "_law_cell" = some (some (.ref f12)))
    (l12 : K.lookup f12 = some ⟨oc12, od12, .func (PySem.W.fnOf "_law_cell" "_law_cell" (defArgs s_law_cell) (defBody s_law_cell) (defScope s_law_cell) .none kV12 dc12 pm12 an12 cd12 ct12), sl12⟩) (c12 : PySem.W.codeIn K cd12 "_law_cell" = true) (k12 : PySem.W.keepIn K (.ref f12) = true)
    (a13 : PySem.W.nsIn K mainGlobals "_law_row" = some (some (.ref f13)))
    (l13 : K.lookup f13 = some ⟨oc13, od13, .func (PySem.W.fnOf "_law_row" "_law_row" (defArgs s_law_row) (defBody s_law_row) (defScope s_law_row) .none kV13 dc13 pm13 an13 cd13 ct13), sl13⟩) (c13 : PySem.W.codeIn K cd13 "_law_row" = true) (k13 : PySem.W.keepIn K (.ref f13) = true)
    (a14 : PySem.W.nsIn K mainGlobals "_law_values" = some (some (.ref f14)))
    (l14 : K.lookup f14 = some ⟨oc14, od14, .func (PySem.W.fnOf "_law_values" "_law_values" (defArgs s_law_values) (defBody s_law_values) (defScope s_law_values) .none kV14 dc14 pm14 an14 cd14 ct14), sl14⟩) (c14 : PySem.W.codeIn K cd14 "_law_values" = true) (k14 : PySem.W.keepIn K (.ref f14) = true)
    (a15 : PySem.W.nsIn K mainGlobals "_law_built" = some (some (.ref f15)))
    (l15 : K.lookup f15 = some ⟨oc15, od15, .func (PySem.W.fnOf "_law_built" "_law_built" (defArgs s_law_built) (defBody s_law_built) (defScope s_law_built) .none kV15 dc15 pm15 an15 cd15 ct15), sl15⟩) (c15 : PySem.W.codeIn K cd15 "_law_built" = true) (k15 : PySem.W.keepIn K (.ref f15) = true)
    (a16 : PySem.W.nsIn K mainGlobals "_law_fields" = some (some (.ref f16)))
    (l16 : K.lookup f16 = some ⟨oc16, od16, .func (PySem.W.fnOf "_law_fields" "_law_fields" (defArgs s_law_fields) (defBody s_law_fields) (defScope s_law_fields) .none kV16 dc16 pm16 an16 cd16 ct16), sl16⟩) (c16 : PySem.W.codeIn K cd16 "_law_fields" = true) (k16 : PySem.W.keepIn K (.ref f16) = true)
    (a17 : PySem.W.nsIn K mainGlobals "_law_code" = some (some (.ref f17)))
    (l17 : K.lookup f17 = some ⟨oc17, od17, .func (PySem.W.fnOf "_law_code" "_law_code" (defArgs s_law_code) (defBody s_law_code) (defScope s_law_code) .none kV17 dc17 pm17 an17 cd17 ct17), sl17⟩) (c17 : PySem.W.codeIn K cd17 "_law_code" = true) (k17 : PySem.W.keepIn K (.ref f17) = true)
    (a18 : PySem.W.nsIn K mainGlobals "_law_plan_bits" = some (some (.ref f18)))
    (l18 : K.lookup f18 = some ⟨oc18, od18, .func (PySem.W.fnOf "_law_plan_bits" "_law_plan_bits" (defArgs s_law_plan_bits) (defBody s_law_plan_bits) (defScope s_law_plan_bits) .none kV18 dc18 pm18 an18 cd18 ct18), sl18⟩) (c18 : PySem.W.codeIn K cd18 "_law_plan_bits" = true) (k18 : PySem.W.keepIn K (.ref f18) = true)
    (a19 : PySem.W.nsIn K mainGlobals "_law_beyond" = some (some (.ref f19)))
    (l19 : K.lookup f19 = some ⟨oc19, od19, .func (PySem.W.fnOf "_law_beyond" "_law_beyond" (defArgs s_law_beyond) (defBody s_law_beyond) (defScope s_law_beyond) .none kV19 dc19 pm19 an19 cd19 ct19), sl19⟩) (c19 : PySem.W.codeIn K cd19 "_law_beyond" = true) (k19 : PySem.W.keepIn K (.ref f19) = true)
    (a20 : PySem.W.nsIn K mainGlobals "_law_refuses" = some (some (.ref f20)))
    (l20 : K.lookup f20 = some ⟨oc20, od20, .func (PySem.W.fnOf "_law_refuses" "_law_refuses" (defArgs s_law_refuses) (defBody s_law_refuses) (defScope s_law_refuses) .none kV20 dc20 pm20 an20 cd20 ct20), sl20⟩) (c20 : PySem.W.codeIn K cd20 "_law_refuses" = true) (k20 : PySem.W.keepIn K (.ref f20) = true)
    (a21 : PySem.W.nsIn K mainGlobals "law" = some (some (.ref f21)))
    (l21 : K.lookup f21 = some ⟨oc21, od21, .func (PySem.W.fnOf "law" "law" (defArgs s_law) (defBody s_law) (defScope s_law) .none kV21 dc21 pm21 an21 cd21 ct21), sl21⟩) (c21 : PySem.W.codeIn K cd21 "law" = true) (k21 : PySem.W.keepIn K (.ref f21) = true)
    (z_len : PySem.W.nsIn K mainGlobals "len" = some none)
    (z_all : PySem.W.nsIn K mainGlobals "all" = some none)
    (z_zip : PySem.W.nsIn K mainGlobals "zip" = some none)
    (z_sum : PySem.W.nsIn K mainGlobals "sum" = some none)
    (z_range : PySem.W.nsIn K mainGlobals "range" = some none)
    (z_min : PySem.W.nsIn K mainGlobals "min" = some none)
    (z_tuple : PySem.W.nsIn K mainGlobals "tuple" = some none)
    (z_max : PySem.W.nsIn K mainGlobals "max" = some none)
    (z_list : PySem.W.nsIn K mainGlobals "list" = some none)
    (z_isinstance : PySem.W.nsIn K mainGlobals "isinstance" = some none)
    (z_int : PySem.W.nsIn K mainGlobals "int" = some none)
    (z_bool : PySem.W.nsIn K mainGlobals "bool" = some none)
    : ∃ fd : FuncData, (∀ (s : Shared) (v : Value), BindsTo s fd ⟨[v], []⟩ [("script", v)]) ∧ ∀ base : Heap, K.In base → base.Ns mainGlobals mg → FnOk l.prog w K mg base CX0 5 fa fd ["script"] (sp_law K) := by
  have e := hfa.symm.trans (PySem.W.mg_of X G a21)
  cases e
  have F1 := fun_mk (st := s_fold) l1 c1 k1
  have b1 := F1.binds (ps := ["n"]) fun _ _ _ _ _ _ us hl => match us, hl with | [_], _ => rfl
  have F2 := fun_mk (st := s_code_length) l2 c2 k2
  have b2 := F2.binds (ps := ["k", "n"]) fun _ _ _ _ _ _ us hl => match us, hl with | [_, _], _ => rfl
  have F3 := fun_mk (st := s_legal_partition_order) l3 c3 k3
  have b3 := F3.binds (ps := ["size", "order", "partition_order"]) fun _ _ _ _ _ _ us hl => match us, hl with | [_, _, _], _ => rfl
  have F4 := fun_mk (st := s_partition_sizes) l4 c4 k4
  have b4 := F4.binds (ps := ["size", "order", "partition_order"]) fun _ _ _ _ _ _ us hl => match us, hl with | [_, _, _], _ => rfl
  have F5 := fun_mk (st := s_plan_fits) l5 c5 k5
  have b5 := F5.binds (ps := ["plan", "residuals", "order"]) fun _ _ _ _ _ _ us hl => match us, hl with | [_, _, _], _ => rfl
  have F6 := fun_mk (st := s_residual_bits) l6 c6 k6
  have b6 := F6.binds (ps := ["plan", "residuals", "order"]) fun _ _ _ _ _ _ us hl => match us, hl with | [_, _, _], _ => rfl
  have F7 := fun_mk (st := s_parts) l7 c7 k7
  have b7 := F7.binds (ps := ["residuals", "order", "partition_order"]) fun _ _ _ _ _ _ us hl => match us, hl with | [_, _, _], _ => rfl
  have F8 := fun_mk (st := s_coding_fits) l8 c8 k8
  have b8 := F8.binds (ps := ["coding", "part"]) fun _ _ _ _ _ _ us hl => match us, hl with | [_, _], _ => rfl
  have F9 := fun_mk (st := s_fits_raw) l9 c9 k9
  have b9 := F9.binds (ps := ["width", "residual"]) fun _ _ _ _ _ _ us hl => match us, hl with | [_, _], _ => rfl
  have F10 := fun_mk (st := s_coding_width) l10 c10 k10
  have b10 := F10.binds (ps := ["method"]) fun _ _ _ _ _ _ us hl => match us, hl with | [_], _ => rfl
  have F11 := fun_mk (st := s_part_bits) l11 c11 k11
  have b11 := F11.binds (ps := ["method", "coding", "part"]) fun _ _ _ _ _ _ us hl => match us, hl with | [_, _, _], _ => rfl
  have F12 := fun_mk (st := s_law_cell) l12 c12 k12
  have b12 := F12.binds (ps := ["script", "k"]) fun _ _ _ _ _ _ us hl => match us, hl with | [_, _], _ => rfl
  have F13 := fun_mk (st := s_law_row) l13 c13 k13
  have b13 := F13.binds (ps := ["cell", "count", "base"]) fun _ _ _ _ _ _ us hl => match us, hl with | [_, _, _], _ => rfl
  have F14 := fun_mk (st := s_law_values) l14 c14 k14
  have b14 := F14.binds (ps := ["coding", "cells"]) fun _ _ _ _ _ _ us hl => match us, hl with | [_, _], _ => rfl
  have F15 := fun_mk (st := s_law_built) l15 c15 k15
  have b15 := F15.binds (ps := ["script"]) fun _ _ _ _ _ _ us hl => match us, hl with | [_], _ => rfl
  have F16 := fun_mk (st := s_law_fields) l16 c16 k16
  have b16 := F16.binds (ps := ["value", "width"]) fun _ _ _ _ _ _ us hl => match us, hl with | [_, _], _ => rfl
  have F17 := fun_mk (st := s_law_code) l17 c17 k17
  have b17 := F17.binds (ps := ["k", "value"]) fun _ _ _ _ _ _ us hl => match us, hl with | [_, _], _ => rfl
  have F18 := fun_mk (st := s_law_plan_bits) l18 c18 k18
  have b18 := F18.binds (ps := ["plan", "residuals", "order"]) fun _ _ _ _ _ _ us hl => match us, hl with | [_, _, _], _ => rfl
  have F19 := fun_mk (st := s_law_beyond) l19 c19 k19
  have b19 := F19.binds (ps := ["plan", "residuals", "order", "k"]) fun _ _ _ _ _ _ us hl => match us, hl with | [_, _, _, _], _ => rfl
  have F20 := fun_mk (st := s_law_refuses) l20 c20 k20
  have b20 := F20.binds (ps := ["plan", "residuals", "order"]) fun _ _ _ _ _ _ us hl => match us, hl with | [_, _, _], _ => rfl
  have F21 := fun_mk (st := s_law) l21 c21 k21
  have b21 := F21.binds (ps := ["script"]) fun _ _ _ _ _ _ us hl => match us, hl with | [_], _ => rfl
  let T : TX K mg := ⟨f1, _, F1, b1, (PySem.W.mg_of X G a1), f2, _, F2, b2, (PySem.W.mg_of X G a2), f3, _, F3, b3, (PySem.W.mg_of X G a3), f4, _, F4, b4, (PySem.W.mg_of X G a4), f5, _, F5, b5, (PySem.W.mg_of X G a5), f6, _, F6, b6, (PySem.W.mg_of X G a6), f7, _, F7, b7, (PySem.W.mg_of X G a7), f8, _, F8, b8, (PySem.W.mg_of X G a8), f9, _, F9, b9, (PySem.W.mg_of X G a9), f10, _, F10, b10, (PySem.W.mg_of X G a10), f11, _, F11, b11, (PySem.W.mg_of X G a11), f12, _, F12, b12, (PySem.W.mg_of X G a12), f13, _, F13, b13, (PySem.W.mg_of X G a13), f14, _, F14, b14, (PySem.W.mg_of X G a14), f15, _, F15, b15, (PySem.W.mg_of X G a15), f16, _, F16, b16, (PySem.W.mg_of X G a16), f17, _, F17, b17, (PySem.W.mg_of X G a17), f18, _, F18, b18, (PySem.W.mg_of X G a18), f19, _, F19, b19, (PySem.W.mg_of X G a19), f20, _, F20, b20, (PySem.W.mg_of X G a20), fa, _, F21, b21, (PySem.W.mg_of X G a21), (PySem.W.mg_none_of X G z_len), (PySem.W.mg_none_of X G z_all), (PySem.W.mg_none_of X G z_zip), (PySem.W.mg_none_of X G z_sum), (PySem.W.mg_none_of X G z_range), (PySem.W.mg_none_of X G z_min), (PySem.W.mg_none_of X G z_tuple), (PySem.W.mg_none_of X G z_max), (PySem.W.mg_none_of X G z_list), (PySem.W.mg_none_of X G z_isinstance), (PySem.W.mg_none_of X G z_int), (PySem.W.mg_none_of X G z_bool)⟩
  exact ⟨_, fun s v => .of_eq rfl, fun base _ _ => ok_law T⟩
end K18
open PySem PySem.W PyProof.Rows
set_option maxRecDepth 100000 in
set_option maxHeartbeats 0 in
theorem PySem.Challenge.cw_monochord_k18_plans_that_fit_holds : PySem.Challenge.rw_monochord_k18_plans_that_fit.Holds := by
  w_on; o_law; k_head; (case hw => w_witness2)
  k_fill
  refine L2.walk_of (l := PySem.Challenge.rw_monochord_k18_plans_that_fit) (n := 63) (k := 5) (x := "script") (CX := fun _ => L2.CX0) (sp := fun w => K18.sp_law _) rfl (by decide) rfl ⟨rfl, by decide, by decide⟩ (fun w h Y => PySem.W.kIn_of Y) ?F (fun _ _ a ns hl _ hS => ⟨a, ns, rfl, hS, hl, fun _ => rfl⟩) (fun _ _ _ _ _ h => h)
  case F =>
    intro w mg fa h KX G hmg
    refine' K18.all_mk KX G hmg ?a1 ?l1 ?c1 ?k1 ?a2 ?l2 ?c2 ?k2 ?a3 ?l3 ?c3 ?k3 ?a4 ?l4 ?c4 ?k4 ?a5 ?l5 ?c5 ?k5 ?a6 ?l6 ?c6 ?k6 ?a7 ?l7 ?c7 ?k7 ?a8 ?l8 ?c8 ?k8 ?a9 ?l9 ?c9 ?k9 ?a10 ?l10 ?c10 ?k10 ?a11 ?l11 ?c11 ?k11 ?a12 ?l12 ?c12 ?k12 ?a13 ?l13 ?c13 ?k13 ?a14 ?l14 ?c14 ?k14 ?a15 ?l15 ?c15 ?k15 ?a16 ?l16 ?c16 ?k16 ?a17 ?l17 ?c17 ?k17 ?a18 ?l18 ?c18 ?k18 ?a19 ?l19 ?c19 ?k19 ?a20 ?l20 ?c20 ?k20 ?a21 ?l21 ?c21 ?k21 ?z_len ?z_all ?z_zip ?z_sum ?z_range ?z_min ?z_tuple ?z_max ?z_list ?z_isinstance ?z_int ?z_bool
    (case a1 => k_is)
    (case l1 => k_is)
    (case c1 => k_is)
    (case k1 => k_is)
    (case a2 => k_is)
    (case l2 => k_is)
    (case c2 => k_is)
    (case k2 => k_is)
    (case a3 => k_is)
    (case l3 => k_is)
    (case c3 => k_is)
    (case k3 => k_is)
    (case a4 => k_is)
    (case l4 => k_is)
    (case c4 => k_is)
    (case k4 => k_is)
    (case a5 => k_is)
    (case l5 => k_is)
    (case c5 => k_is)
    (case k5 => k_is)
    (case a6 => k_is)
    (case l6 => k_is)
    (case c6 => k_is)
    (case k6 => k_is)
    (case a7 => k_is)
    (case l7 => k_is)
    (case c7 => k_is)
    (case k7 => k_is)
    (case a8 => k_is)
    (case l8 => k_is)
    (case c8 => k_is)
    (case k8 => k_is)
    (case a9 => k_is)
    (case l9 => k_is)
    (case c9 => k_is)
    (case k9 => k_is)
    (case a10 => k_is)
    (case l10 => k_is)
    (case c10 => k_is)
    (case k10 => k_is)
    (case a11 => k_is)
    (case l11 => k_is)
    (case c11 => k_is)
    (case k11 => k_is)
    (case a12 => k_is)
    (case l12 => k_is)
    (case c12 => k_is)
    (case k12 => k_is)
    (case a13 => k_is)
    (case l13 => k_is)
    (case c13 => k_is)
    (case k13 => k_is)
    (case a14 => k_is)
    (case l14 => k_is)
    (case c14 => k_is)
    (case k14 => k_is)
    (case a15 => k_is)
    (case l15 => k_is)
    (case c15 => k_is)
    (case k15 => k_is)
    (case a16 => k_is)
    (case l16 => k_is)
    (case c16 => k_is)
    (case k16 => k_is)
    (case a17 => k_is)
    (case l17 => k_is)
    (case c17 => k_is)
    (case k17 => k_is)
    (case a18 => k_is)
    (case l18 => k_is)
    (case c18 => k_is)
    (case k18 => k_is)
    (case a19 => k_is)
    (case l19 => k_is)
    (case c19 => k_is)
    (case k19 => k_is)
    (case a20 => k_is)
    (case l20 => k_is)
    (case c20 => k_is)
    (case k20 => k_is)
    (case a21 => k_is)
    (case l21 => k_is)
    (case c21 => k_is)
    (case k21 => k_is)
    (case z_len => k_is)
    (case z_all => k_is)
    (case z_zip => k_is)
    (case z_sum => k_is)
    (case z_range => k_is)
    (case z_min => k_is)
    (case z_tuple => k_is)
    (case z_max => k_is)
    (case z_list => k_is)
    (case z_isinstance => k_is)
    (case z_int => k_is)
    (case z_bool => k_is)
