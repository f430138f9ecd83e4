import PyProof.Rows.All
import Wide.All
import OpenK.AllK
import Wide.FinOn
import HandS.ForMost
import HandS.Steps
import HandS.Evl
import HandS.IsInst
import HandS.Wide
import HandS.WideBits
import HandS.Defaults
import HandS.Style
import HandS.SortKw
import HandS.Zip
import HandS.Walk
import KE.DataMinMax
import KE.DatumOrd
import PyProof.P3Eq
import PySem.Challenge.RW_monochord_k65_best_coding_of_residuals
set_option Elab.async false
set_option linter.all false
set_option maxRecDepth 100000
set_option maxHeartbeats 4000000
namespace K65
open PySem PySem.Spec PyProof.Rows L2 Evl
def topS (i : Nat) : Stmt := PySem.Challenge.pw_monochord_k65_best_coding_of_residuals.main.body.getD i (.Pass ⟨0, 0, 0, 0⟩)
abbrev s_fold : Stmt := topS 1
theorem sc_fold : FnScope ["n"] ["n"] (defScope s_fold) := ⟨rfl, rfl, rfl, by decide +kernel, rfl, by decide +kernel, by decide +kernel⟩
abbrev s_legal_partition_order : Stmt := topS 3
theorem sc_legal_partition_order : FnScope ["size", "order", "partition_order", "count"] ["size", "order", "partition_order"] (defScope s_legal_partition_order) := ⟨rfl, rfl, rfl, by decide +kernel, rfl, by decide +kernel, by decide +kernel⟩
abbrev s_partition_sizes : Stmt := topS 4
theorem sc_partition_sizes : FnScope ["size", "order", "partition_order", "whole"] ["size", "order", "partition_order"] (defScope s_partition_sizes) := ⟨rfl, rfl, rfl, by decide +kernel, rfl, by decide +kernel, by decide +kernel⟩
abbrev s_best_coding : Stmt := topS 9
theorem sc_best_coding : FnScope ["residuals", "order", "highest", "wide", "size", "top", "methods", "candidates", "parts", "partition_order", "method", "codings", "bits", "p"] ["residuals", "order", "highest", "wide"] (defScope s_best_coding) := ⟨rfl, rfl, rfl, by decide +kernel, rfl, by decide +kernel, by decide +kernel⟩
abbrev s_width : Stmt := topS 10
theorem sc_width : FnScope ["folded"] ["folded"] (defScope s_width) := ⟨rfl, rfl, rfl, by decide +kernel, rfl, by decide +kernel, by decide +kernel⟩
abbrev s_measured : Stmt := topS 11
theorem sc_measured : FnScope ["residuals", "folded", "width", "sums", "k", "residual", "value"] ["residuals"] (defScope s_measured) := ⟨rfl, rfl, rfl, by decide +kernel, rfl, by decide +kernel, by decide +kernel⟩
abbrev s_measured_parts : Stmt := topS 12
theorem sc_measured_parts : FnScope ["residuals", "sizes", "parts", "start", "size"] ["residuals", "sizes"] (defScope s_measured_parts) := ⟨rfl, rfl, rfl, by decide +kernel, rfl, by decide +kernel, by decide +kernel⟩
abbrev s_joined_in_pairs : Stmt := topS 13
theorem sc_joined_in_pairs : FnScope ["parts", "at"] ["parts"] (defScope s_joined_in_pairs) := ⟨rfl, rfl, rfl, by decide +kernel, rfl, by decide +kernel, by decide +kernel⟩
abbrev s_joined : Stmt := topS 14
theorem sc_joined : FnScope ["part", "other", "a", "b"] ["part", "other"] (defScope s_joined) := ⟨rfl, rfl, rfl, by decide +kernel, rfl, by decide +kernel, by decide +kernel⟩
abbrev s_entry : Stmt := topS 15
theorem sc_entry : FnScope ["part", "method", "count", "sums", "width", "field", "k", "bits", "raw_bits"] ["part", "method"] (defScope s_entry) := ⟨rfl, rfl, rfl, by decide +kernel, rfl, by decide +kernel, by decide +kernel⟩
abbrev s_entries : Stmt := topS 16
theorem sc_entries : FnScope ["parts", "method", "entries", "codings", "part", "coding", "_", "bits"] ["parts", "method"] (defScope s_entries) := ⟨rfl, rfl, rfl, by decide +kernel, rfl, by decide +kernel, by decide +kernel⟩
abbrev s_law_cell : Stmt := topS 18
theorem sc_law_cell : FnScope ["script", "k"] ["script", "k"] (defScope s_law_cell) := ⟨rfl, rfl, rfl, by decide +kernel, rfl, by decide +kernel, by decide +kernel⟩
abbrev s_law_integer : Stmt := topS 19
theorem sc_law_integer : FnScope ["value"] ["value"] (defScope s_law_integer) := ⟨rfl, rfl, rfl, by decide +kernel, rfl, by decide +kernel, by decide +kernel⟩
abbrev s_law_row : Stmt := topS 21
theorem sc_law_row : FnScope ["cell", "count", "bound", "rest", "mixed", "row", "k"] ["cell", "count", "bound"] (defScope s_law_row) := ⟨rfl, rfl, rfl, by decide +kernel, rfl, by decide +kernel, by decide +kernel⟩
abbrev s_law_fold : Stmt := topS 22
theorem sc_law_fold : FnScope ["value"] ["value"] (defScope s_law_fold) := ⟨rfl, rfl, rfl, by decide +kernel, rfl, by decide +kernel, by decide +kernel⟩
abbrev s_law_rice : Stmt := topS 23
theorem sc_law_rice : FnScope ["values", "k", "total", "value"] ["values", "k"] (defScope s_law_rice) := ⟨rfl, rfl, rfl, by decide +kernel, rfl, by decide +kernel, by decide +kernel⟩
abbrev s_law_width : Stmt := topS 24
theorem sc_law_width : FnScope ["values", "width", "half", "value"] ["values"] (defScope s_law_width) := ⟨rfl, rfl, rfl, by decide +kernel, rfl, by decide +kernel, by decide +kernel⟩
abbrev s_law_entry : Stmt := topS 25
theorem sc_law_entry : FnScope ["values", "method", "field", "best", "least", "k", "bits", "width"] ["values", "method"] (defScope s_law_entry) := ⟨rfl, rfl, rfl, by decide +kernel, rfl, by decide +kernel, by decide +kernel⟩
abbrev s_law_coding : Stmt := topS 26
theorem sc_law_coding : FnScope ["values", "degree", "most_parts", "both_methods", "size", "best", "least", "method", "p", "count", "total", "entries", "at", "k", "length", "entry", "bits"] ["values", "degree", "most_parts", "both_methods"] (defScope s_law_coding) := ⟨rfl, rfl, rfl, by decide +kernel, rfl, by decide +kernel, by decide +kernel⟩
abbrev s_law_residuals : Stmt := topS 27
theorem sc_law_residuals : FnScope ["cell", "count", "shape", "bound", "row", "k", "x"] ["cell", "count", "shape"] (defScope s_law_residuals) := ⟨rfl, rfl, rfl, by decide +kernel, rfl, by decide +kernel, by decide +kernel⟩
abbrev s_law_entries : Stmt := topS 28
theorem sc_law_entries : FnScope ["entries", "entry"] ["entries"] (defScope s_law_entries) := ⟨rfl, rfl, rfl, by decide +kernel, rfl, by decide +kernel, by decide +kernel⟩
abbrev s_law : Stmt := topS 29
theorem sc_law : FnScope ["script", "first", "size", "degree", "values", "most_parts", "both_methods", "given", "actual", "coding"] ["script"] (defScope s_law) := ⟨rfl, rfl, rfl, by decide +kernel, rfl, by decide +kernel, by decide +kernel⟩
theorem hu64 {A : Around} {k : Nat} (hr : Room k A) : A.units + 64 < cLine := hr.units
/-! ### short words for readings -/
theorem ret_eq {v w : V} {H H' : Hp} {Q : VK} (k : RetV v H Q) (ex : Ex H H') (e : w = v) : Q w H' := e ▸ k H' ex
/-- isinstance(x, T), T a built-in class -/
theorem ev_isi {K : PySem.W.Frag} {σ : L2.St} {H : Hp} {ta : TE} {x : V} {t : String} {T : String} {b : Bool} (ha : Ev ta σ H x) (ht : ∀ H1, Ex H H1 → TyX K H1 x (.type t)) (hk : kitB t T = some b) :
    Ev (tCB (rIsi K) (tCons ta (tCons (tC (.ty T)) tNil))) σ H (.bl b) :=
  ev_cb (ea_cons ha (ea_cons ev_c ea_nil)) fun H1 e Q q => ⟨x, .ty T, _, _, b, rfl, .ty T, ht H1 e, kit_ty hk, q H1 (Ex.refl H1)⟩
theorem isi_int {K : PySem.W.Frag} {H : Hp} {i : Int} : ∀ H1, Ex H H1 → TyX K H1 (V.int i) (.type "int") := fun _ _ => .base (.int _)
theorem isi_bl {K : PySem.W.Frag} {H : Hp} {b : Bool} : ∀ H1, Ex H H1 → TyX K H1 (V.bl b) (.type "bool") := fun _ _ => .base (.bl _)
theorem isi_non {K : PySem.W.Frag} {H : Hp} : ∀ H1, Ex H H1 → TyX K H1 V.non (.type "NoneType") := fun _ _ => .base .non
theorem isi_lst {K : PySem.W.Frag} {H : Hp} {a : Addr} {xs : List V} (h : H a = some (.lst xs)) : ∀ H1, Ex H H1 → TyX K H1 (V.ref a) (.type "list") := fun _ e => .base (.lst (e _ _ h))
theorem isi_tup {K : PySem.W.Frag} {H : Hp} {a : Addr} {xs : List V} (h : H a = some (.tup xs)) : ∀ H1, Ex H H1 → TyX K H1 (V.ref a) (.type "tuple") := fun _ e => .base (.tup (e _ _ h))
theorem kit_ii : kitB "int" "int" = some true := by decide +kernel
theorem kit_ib : kitB "int" "bool" = some false := by decide +kernel
theorem kit_bb : kitB "bool" "bool" = some true := by decide +kernel
theorem kit_bi : kitB "bool" "int" = some true := by decide +kernel
theorem kit_ll : kitB "list" "list" = some true := by decide +kernel
theorem kit_tt : kitB "tuple" "tuple" = some true := by decide +kernel
theorem ev_isiI {K : PySem.W.Frag} {σ : L2.St} {H : Hp} {ta : TE} {i : Int} (ha : Ev ta σ H (.int i)) : Ev (tCB (rIsi K) (tCons ta (tCons (tC (.ty "int")) tNil))) σ H (.bl true) := ev_isi ha isi_int kit_ii
theorem ev_isiB {K : PySem.W.Frag} {σ : L2.St} {H : Hp} {ta : TE} {i : Int} (ha : Ev ta σ H (.int i)) : Ev (tCB (rIsi K) (tCons ta (tCons (tC (.ty "bool")) tNil))) σ H (.bl false) := ev_isi ha isi_int kit_ib
theorem ev_isiL {K : PySem.W.Frag} {σ : L2.St} {H : Hp} {ta : TE} {a : Addr} {xs : List V} (ha : Ev ta σ H (.ref a)) (h : H a = some (.lst xs)) : Ev (tCB (rIsi K) (tCons ta (tCons (tC (.ty "list")) tNil))) σ H (.bl true) := ev_isi ha (isi_lst h) kit_ll
theorem ev_isiBB {K : PySem.W.Frag} {σ : L2.St} {H : Hp} {ta : TE} {b : Bool} (ha : Ev ta σ H (.bl b)) : Ev (tCB (rIsi K) (tCons ta (tCons (tC (.ty "bool")) tNil))) σ H (.bl true) := ev_isi ha isi_bl kit_bb
theorem ev_chain {σ : L2.St} {H : Hp} {ta tb tc : TE} {g g' : Int → Int → Bool} {a b c : Int} (ha : Ev ta σ H (.int a)) (hb : Ev tb σ H (.int b)) (hc : Ev tc σ H (.int c)) :
    Ev (tChain (rI0 fun i j => .bl (g i j)) (rI0 fun i j => .bl (g' i j)) ta tb tc) σ H (.bl (g a b && g' b c)) := fun H1 e Q q =>
  ha H1 e _ fun H2 e2 => hb H2 (e.trans e2) _ fun H3 e3 => ⟨a, b, rfl, rfl, g a b, rfl, by
    cases hg : g a b with
    | true =>
      rw [if_pos rfl]
      rw [hg, Bool.true_and] at q
      exact hc H3 ((e.trans e2).trans e3) _ fun H4 e4 => ⟨b, c, rfl, rfl, q H4 ((e2.trans e3).trans e4)⟩
    | false =>
      rw [if_neg (by decide)]
      rw [hg, Bool.false_and] at q
      exact q H3 (e2.trans e3)⟩
theorem ev_isN {σ : L2.St} {H : Hp} {ta : TE} {x : V} (ha : Ev ta σ H x) : Ev (tOp rIsN ta (tC .non)) σ H (.bl (decide (x = .non))) := fun H1 e Q q => ha H1 e _ fun H2 e2 => ⟨rfl, q H2 e2⟩
theorem ev_notN {σ : L2.St} {H : Hp} {ta : TE} {x : V} (ha : Ev ta σ H x) : Ev (tOp rNotN ta (tC .non)) σ H (.bl (!decide (x = .non))) := fun H1 e Q q => ha H1 e _ fun H2 e2 => ⟨rfl, q H2 e2⟩
theorem ev_min2 {σ : L2.St} {H : Hp} {ta tb : TE} {i j : Int} (ha : Ev ta σ H (.int i)) (hb : Ev tb σ H (.int j)) :
    Ev (tCB (fun xs H Q => ∃ i j, xs = [.int i, .int j] ∧ Q (.int (if j < i then j else i)) H) (tCons ta (tCons tb tNil))) σ H (.int (if j < i then j else i)) :=
  ev_cb (ea_cons ha (ea_cons hb ea_nil)) fun H1 _ _ q => ⟨i, j, rfl, q H1 (Ex.refl H1)⟩
theorem ev_negI {σ : L2.St} {H : Hp} {ta : TE} {i : Int} (ha : Ev ta σ H (.int i)) : Ev (tUn (rU fun i => .int (-i)) ta) σ H (.int (-i)) := ev_un ha ru_neg
theorem ev_I0 {σ : L2.St} {H : Hp} {ta tb : TE} {g : Int → Int → V} {i j : Int} (ha : Ev ta σ H (.int i)) (hb : Ev tb σ H (.int j)) : Ev (tOp (rI0 g) ta tb) σ H (g i j) := ev_op ha hb rv_I0
theorem ev_I {σ : L2.St} {H : Hp} {ta tb : TE} {C : Int → Int → Prop} {g : Int → Int → V} {i j : Int} (ha : Ev ta σ H (.int i)) (hb : Ev tb σ H (.int j)) (hc : C i j) : Ev (tOp (rI C g) ta tb) σ H (g i j) := ev_op ha hb (rv_I hc)
theorem ev_eq {σ : L2.St} {H : Hp} {ta tb : TE} {x y : V} (ha : Ev ta σ H x) (hb : Ev tb σ H y) (hs : scal x y = true) : Ev (tOp rEq ta tb) σ H (.bl (decide (x = y))) := ev_op ha hb (rv_eq hs)
theorem ev_ne {σ : L2.St} {H : Hp} {ta tb : TE} {x y : V} (ha : Ev ta σ H x) (hb : Ev tb σ H y) (hs : scal x y = true) : Ev (tOp rNe ta tb) σ H (.bl (!decide (x = y))) := ev_op ha hb (rv_ne hs)
theorem et_B' {σ : L2.St} {H : Hp} {te : TE} {x : V} {b : Bool} (h : Ev te σ H x) (e : x = .bl b) : EvT (tB te) σ H b := et_B (e ▸ h)
theorem dec_lt {a b : Nat} : decide ((a : Int) < (b : Int)) = decide (a < b) := by
  by_cases h : a < b
  · rw [decide_eq_true h, decide_eq_true (by omega)]
  · rw [decide_eq_false h, decide_eq_false (by omega)]
theorem int_at {ns : List Int} {i : Nat} {x : V} (hx : (ns.map V.int)[i]? = some x) : ∃ n, ns[i]? = some n ∧ i < ns.length ∧ x = V.int n := by
  rw [List.getElem?_map] at hx
  cases en : ns[i]? with
  | none => rw [en] at hx; cases hx
  | some n => rw [en] at hx; exact ⟨n, rfl, (List.getElem?_eq_some_iff.mp en).1, (Option.some.inj hx).symm⟩
theorem at_int {ns : List Int} {i : Nat} {n : Int} (h : ns[i]? = some n) : (ns.map V.int)[i]? = some (V.int n) := by rw [List.getElem?_map, h]; rfl
local macro_rules | `(tactic| walk_at "side") => `(tactic| first
  | omega | (show CMul _ _; unfold CMul; omega) | (show CDiv _ _; unfold CDiv; omega) | (show CPow _ _; unfold CPow; omega) | (show (_ : Int) < _; omega) | (show (_ : Int) ≤ _; omega) | decide)
local macro_rules | `(tactic| walk_at "ev") => `(tactic| first
  | exact ev_var rfl
  | exact ev_c
  | (refine' ev_I0 ?h1 ?h2; (case h1 => walk_at "ev"); (case h2 => walk_at "ev"))
  | (refine' ev_negI ?h1; (case h1 => walk_at "ev"))
  | (refine' ev_I ?h1 ?h2 ?hc; (case h1 => walk_at "ev"); (case h2 => walk_at "ev"); (case hc => walk_at "side"))
  | (refine' ev_eq ?h1 ?h2 ?hc; (case h1 => walk_at "ev"); (case h2 => walk_at "ev"); (case hc => rfl))
  | (refine' ev_ne ?h1 ?h2 ?hc; (case h1 => walk_at "ev"); (case h2 => walk_at "ev"); (case hc => rfl))
  | (refine' ev_max2 ?h1 ?h2; (case h1 => walk_at "ev"); (case h2 => walk_at "ev"))
  | (refine' ev_min2 ?h1 ?h2; (case h1 => walk_at "ev"); (case h2 => walk_at "ev"))
  | (refine' ev_chain ?h1 ?h2 ?h3; (case h1 => walk_at "ev"); (case h2 => walk_at "ev"); (case h3 => walk_at "ev"))
  | (refine' ev_isN ?h1; (case h1 => walk_at "ev"))
  | (refine' ev_notN ?h1; (case h1 => walk_at "ev"))
  | (refine' ev_isiI ?h1; (case h1 => walk_at "ev"))
  | (refine' ev_isiB ?h1; (case h1 => walk_at "ev"))
  | (refine' ev_isiBB ?h1; (case h1 => walk_at "ev"))
  | (refine' ev_andV ?h1 (fun _ => ?h2); (case h1 => walk_at "ev"); (case h2 => walk_at "ev"))
  | (refine' ev_orV ?h1 (fun _ => ?h2); (case h1 => walk_at "ev"); (case h2 => walk_at "ev"))
  | (refine' ev_notV ?h1; (case h1 => walk_at "ev"))
  | walk_at "evmore")
local macro_rules | `(tactic| walk_at "et") => `(tactic| first
  | (refine' et_test ?h1; (case h1 => walk_at "ev"))
  | (refine' et_B ?h1; (case h1 => walk_at "ev"))
  | (refine' et_not ?h1; (case h1 => walk_at "et"))
  | (refine' et_and ?h1 (fun _ => ?h2); (case h1 => walk_at "et"); (case h2 => walk_at "et"))
  | (refine' et_or ?h1 (fun _ => ?h2); (case h1 => walk_at "et"); (case h2 => walk_at "et")))
local macro_rules | `(tactic| walk_at "ea") => `(tactic| first
  | exact ea_nil
  | (refine' ea_cons ?h1 ?h2; (case h1 => walk_at "ev"); (case h2 => walk_at "ea")))
local macro_rules | `(tactic| walk_at "when") => `(tactic| (refine' q_when ?h ?h1 ?h2; (case h => walk_at "et")))
local macro_rules | `(tactic| walk_at "whenS") => `(tactic| (refine' s_when ?h ?h1 ?h2; (case h => walk_at "et")))
local macro_rules | `(tactic| walk_at "if") => `(tactic| (refine' q_if ?h ?h1 ?h2; (case h => walk_at "et")))
local macro_rules | `(tactic| walk_at "ifS") => `(tactic| (refine' s_if ?h ?h1 ?h2; (case h => walk_at "et")))
local macro_rules | `(tactic| walk_at "ret") => `(tactic| (refine' s_ret ?h ?h1; (case h => walk_at "ev")))
local macro_rules | `(tactic| walk_at "asg") => `(tactic| (refine' q_asg ?h ?h1; (case h => walk_at "ev")))
local macro_rules | `(tactic| walk_at "asgS") => `(tactic| (refine' s_asg ?h ?h1; (case h => walk_at "ev")))

/-! ### lists, existing or new -/
def EvR (te : TE) (σ : L2.St) (H : Hp) (xs : List V) : Prop := ∀ H1, Ex H H1 → ∀ Q : VK, (∀ p H2, Ex H1 H2 → H2 p = some (.lst xs) → Q (.ref p) H2) → te σ H1 Q
def EvS (K : PySem.W.Frag) (te : TE) (σ : L2.St) (H : Hp) (xs : List V) : Prop := ∀ H1, Ex H H1 → ∀ Q : VK, (∀ p H2, Ex H1 H2 → SqL K H2 p xs → Q (.ref p) H2) → te σ H1 Q
section
variable {K : PySem.W.Frag} {σ : L2.St} {H H' : Hp} {ta tb te : TE} {xs ys : List V} {a : Addr}
theorem EvL.r (h : EvL te σ H xs) : EvR te σ H xs := fun H1 e Q q => h H1 e Q fun p H2 _ e2 h2 => q p H2 e2 h2
theorem Ev.r (h : Ev te σ H (.ref a)) (hx : H a = some (.lst xs)) : EvR te σ H xs := fun H1 e Q q => h H1 e Q fun H2 e2 => q a H2 e2 (e2 _ _ (e _ _ hx))
theorem EvR.s (h : EvR te σ H xs) : EvS K te σ H xs := fun H1 e Q q => h H1 e Q fun p H2 e2 h2 => q p H2 e2 (sq_of h2)
theorem Ev.s (h : Ev te σ H (.ref a)) (hx : SqL K H a xs) : EvS K te σ H xs := fun H1 e Q q => h H1 e Q fun H2 e2 => q a H2 e2 (ex_l e2 (ex_l e hx))
theorem EvR.mono (e : Ex H H') (h : EvR te σ H xs) : EvR te σ H' xs := fun H1 a Q q => h H1 (e.trans a) Q q
theorem EvS.mono (e : Ex H H') (h : EvS K te σ H xs) : EvS K te σ H' xs := fun H1 a Q q => h H1 (e.trans a) Q q
theorem EvL.is (h : EvL te σ H xs) (e : xs = ys) : EvL te σ H ys := e ▸ h
theorem EvR.is (h : EvR te σ H xs) (e : xs = ys) : EvR te σ H ys := e ▸ h
theorem el_cat (ha : EvR ta σ H xs) (hb : EvR tb σ H ys) (hl : xs.length + ys.length ≤ 100000) : EvL (tOp rCat ta tb) σ H (xs ++ ys) := fun H1 e Q q =>
  ha H1 e _ fun p H2 e2 h2 => hb H2 (e.trans e2) _ fun r H3 e3 h3 => ⟨p, r, xs, ys, rfl, rfl, e3 _ _ h2, h3, sz_of hl, fun l hl => q l _ (fresh_back (e2.trans e3) hl) ((e2.trans e3).trans (Ex.new hl)) upd_same⟩
theorem el_rep {k : Int} (ha : EvR ta σ H xs) (hb : Ev tb σ H (.int k)) (hk : -(2 ^ 63) ≤ k ∧ k < 2 ^ 63) (hl : xs.length * k.toNat ≤ 100000) : EvL (tOp rRep ta tb) σ H (List.replicate k.toNat xs).flatten := fun H1 e Q q =>
  ha H1 e _ fun p H2 e2 h2 => hb H2 (e.trans e2) _ fun H3 e3 => ⟨p, k, xs, rfl, rfl, e3 _ _ h2, hk.1, hk.2, sz_of hl, fun l hl => q l _ (fresh_back (e2.trans e3) hl) ((e2.trans e3).trans (Ex.new hl)) upd_same⟩
theorem rep_one {x : V} (n : Nat) : (List.replicate n [x]).flatten = List.replicate n x := by
  induction n with
  | zero => rfl
  | succ n ih => rw [List.replicate_succ, List.replicate_succ, List.flatten_cons, ih]; rfl
theorem el_of {te : TE} (h : EvS K te σ H xs) : EvL (tCB (rListS K) (tCons te tNil)) σ H xs := fun H1 e Q q =>
  h H1 e _ fun p H2 e2 h2 => ⟨p, xs, rfl, .inl h2, fun l hl => q l _ (fresh_back e2 hl) (e2.trans (Ex.new hl)) upd_same⟩
theorem ev_lenS (h : EvS K te σ H xs) : Ev (tCB (rLenS K) (tCons te tNil)) σ H (.int (xs.length : Int)) := fun H1 e Q q =>
  h H1 e _ fun p H2 e2 h2 => ⟨p, xs, rfl, .inl h2, q H2 e2⟩
theorem ev_sum {ns : List Int} (h : EvS K te σ H (ns.map V.int)) : Ev (tCB (rSum K) (tCons te tNil)) σ H (.int ns.sum) := fun H1 e Q q =>
  h H1 e _ fun p H2 e2 h2 => ⟨p, ns, rfl, h2, q H2 e2⟩
theorem dp_ints {K : PySem.W.Frag} {H : Hp} : ∀ ns : List Int, DpAll K H (ns.map V.int) (ns.map PyData.int)
  | [] => .nil
  | n :: r => .cons (.int n) (dp_ints r)
theorem eqv_ints : ∀ ns ms : List Int, PyData.eqvAll (ns.map PyData.int) (ms.map PyData.int) = decide (ns = ms)
  | [], [] => by simp [PyData.eqvAll]
  | [], _ :: _ => by simp [PyData.eqvAll]
  | _ :: _, [] => by simp [PyData.eqvAll]
  | n :: r, m :: t => by
    show (PyData.eqv (.int n) (.int m) && PyData.eqvAll (r.map PyData.int) (t.map PyData.int)) = _
    rw [eqv_ints r t]
    show ((n == m) && decide (r = t)) = _
    by_cases h1 : n = m <;> by_cases h2 : r = t <;> simp [h1, h2]
theorem canLay_ints : ∀ ns : List Int, PyData.canLayAll0 (ns.map PyData.int) = true
  | [] => by simp [PyData.canLayAll0]
  | n :: r => by
    show PyData.canLayAll0 (PyData.int n :: r.map PyData.int) = true
    rw [PyData.canLayAll0, canLay_ints r]
    simp [PyData.canLay0]
theorem depth_ints : ∀ ns : List Int, PyData.depthAll (ns.map PyData.int) ≤ 1
  | [] => by simp [PyData.depthAll]
  | n :: r => by
    show PyData.depthAll (PyData.int n :: r.map PyData.int) ≤ 1
    have := depth_ints r
    simp only [PyData.depthAll, PyData.depth]
    omega
theorem shaped_ints (ns : List Int) : SeqAt.shaped (.list (ns.map PyData.int)) = true := by
  unfold SeqAt.shaped
  have h1 := canLay_ints ns
  have h2 := depth_ints ns
  have h3 : PyData.depth (.list (ns.map PyData.int)) ≤ 64 := by
    rw [PyData.depth]
    omega
  rw [decide_eq_true h3, Bool.and_true]
  simpa only [PyData.canLay0] using h1
theorem ev_eqI {ns ms : List Int} (ha : EvS K ta σ H (ns.map V.int)) (hb : EvS K tb σ H (ms.map V.int)) : Ev (tOp (rEqD K) ta tb) σ H (.bl (decide (ns = ms))) := fun H1 e Q q =>
  ha H1 e _ fun p H2 e2 h2 => hb H2 (e.trans e2) _ fun r H3 e3 h3 => ⟨.list (ns.map PyData.int), .list (ms.map PyData.int), .lst (ex_l e3 h2) (dp_ints ns), .lst h3 (dp_ints ms), shaped_ints ns, shaped_ints ms, by
    show Q (.bl (PyData.eqvAll (ns.map PyData.int) (ms.map PyData.int))) H3
    rw [eqv_ints]
    exact q H3 (e2.trans e3)⟩
theorem ev_neI {ns ms : List Int} (ha : EvS K ta σ H (ns.map V.int)) (hb : EvS K tb σ H (ms.map V.int)) : Ev (tOp (rNeD K) ta tb) σ H (.bl (!decide (ns = ms))) := fun H1 e Q q =>
  ha H1 e _ fun p H2 e2 h2 => hb H2 (e.trans e2) _ fun r H3 e3 h3 => ⟨.list (ns.map PyData.int), .list (ms.map PyData.int), .lst (ex_l e3 h2) (dp_ints ns), .lst h3 (dp_ints ms), shaped_ints ns, shaped_ints ms, by
    show Q (.bl (!PyData.eqvAll (ns.map PyData.int) (ms.map PyData.int))) H3
    rw [eqv_ints]
    exact q H3 (e2.trans e3)⟩
theorem ev_ixS {i : Nat} {n : Int} {tl ti : TE} {v : V} (h : EvS K tl σ H xs) (hi : Ev ti σ H (.int n)) (ha : atI xs n = some v) : Ev (tOp (rIxL K) tl ti) σ H v := fun H1 e Q q =>
  h H1 e _ fun p H2 e2 h2 => hi H2 (e.trans e2) _ fun H3 e3 => ⟨p, xs, n, v, rfl, rfl, ex_l e3 h2, ha, q H3 (e2.trans e3)⟩
theorem el_slS {tl th : TO} {lo hi : Option Int} (h : EvS K te σ H xs) (h1 : EvO tl σ H lo) (h2 : EvO th σ H hi) : EvL (tSl (rSlL K) te tl th) σ H (cutV xs lo hi) := fun H1 e _ q =>
  h H1 e _ fun a H2 e2 hs => h1 H2 (e.trans e2) _ fun H3 e3 => h2 H3 ((e.trans e2).trans e3) _ fun H4 e4 =>
    ⟨a, xs, rfl, ex_l (e3.trans e4) hs, fun p hp => q p _ (fresh_back ((e2.trans e3).trans e4) hp) (((e2.trans e3).trans e4).trans (Ex.new hp)) upd_same⟩
theorem ev_at {n : Int} {tl ti : TE} {v : V} (h : EvS K tl σ H xs) (hi : Ev ti σ H (.int n)) (ha : atI xs n = some v) : Ev (tOp (rIxL K) tl ti) σ H v := ev_ixS (i := 0) h hi ha
theorem cut_to (xs : List V) (i : Nat) : cutV xs none (some (i : Int)) = xs.take i := by
  unfold cutV
  rw [HT.sIx_none, HT.sIx_nat, List.drop_zero, Nat.sub_zero]
  by_cases h : i ≤ xs.length
  · rw [Nat.min_eq_left h]
  · rw [Nat.min_eq_right (by omega), List.take_of_length_le (Nat.le_refl _), List.take_of_length_le (by omega)]
theorem cut_from (xs : List V) (i : Nat) : cutV xs (some (i : Int)) none = xs.drop i := by
  unfold cutV
  rw [HT.sIx_none, HT.sIx_nat]
  by_cases h : i ≤ xs.length
  · rw [Nat.min_eq_left h, List.take_of_length_le (by rw [List.length_drop]; omega)]
  · rw [Nat.min_eq_right (by omega), List.drop_of_length_le (Nat.le_refl _), List.drop_of_length_le (show xs.length ≤ i by omega), List.take_nil]
theorem cut_mid (xs : List V) (i j : Nat) : cutV xs (some (i : Int)) (some (j : Int)) = (xs.drop i).take (j - i) := by
  unfold cutV
  rw [HT.sIx_nat, HT.sIx_nat]
  by_cases h : i ≤ xs.length
  · rw [Nat.min_eq_left h]
    by_cases h2 : j ≤ xs.length
    · rw [Nat.min_eq_left h2]
    · rw [Nat.min_eq_right (by omega), List.take_of_length_le (by rw [List.length_drop]; omega), List.take_of_length_le (by rw [List.length_drop]; omega)]
  · rw [Nat.min_eq_right (by omega : xs.length ≤ i), List.drop_of_length_le (Nat.le_refl _), List.drop_of_length_le (show xs.length ≤ i by omega)]
    simp
theorem el_to {th : TE} {ns : List Int} {i : Nat} (h : EvS K te σ H (ns.map V.int)) (h2 : Ev th σ H (.int i)) : EvL (tSl (rSlL K) te tNoPart (tPart th)) σ H ((ns.take i).map V.int) :=
  EvL.is (el_slS h eo_none (eo_some h2)) (by rw [List.map_take]; exact cut_to _ i)
theorem el_from {th : TE} {ns : List Int} {i : Nat} (h : EvS K te σ H (ns.map V.int)) (h2 : Ev th σ H (.int i)) : EvL (tSl (rSlL K) te (tPart th) tNoPart) σ H ((ns.drop i).map V.int) :=
  EvL.is (el_slS h (eo_some h2) eo_none) (by rw [List.map_drop]; exact cut_from _ i)
theorem el_mid {t1 t2 : TE} {ns : List Int} {i j : Nat} (h : EvS K te σ H (ns.map V.int)) (h1 : Ev t1 σ H (.int i)) (h2 : Ev t2 σ H (.int j)) : EvL (tSl (rSlL K) te (tPart t1) (tPart t2)) σ H (((ns.drop i).take (j - i)).map V.int) :=
  EvL.is (el_slS h (eo_some h1) (eo_some h2)) (by rw [List.map_take, List.map_drop]; exact cut_mid _ i j)
section
variable {D : Ends} {tz : TS} {sp : Sp} {dvs vs : List V} {E : XK} {tA : TA}
/-- x = f(..), whatever f promises -/
theorem q_asgC {i : Nat} (h : EvA tA σ H vs) (k : ∀ H1, Ex H H1 → sp (vs ++ dvs) H1 (fun x H2 => tz D (σ.set i (some x)) H2) E) : tSeq (tAsg (tCall sp dvs E tA) (gName i)) tz D σ H := h H (Ex.refl H) _ fun H1 e => k H1 e
theorem s_asgC {i : Nat} (h : EvA tA σ H vs) (k : ∀ H1, Ex H H1 → sp (vs ++ dvs) H1 (fun x H2 => D.nx (σ.set i (some x)) H2) E) : tAsg (tCall sp dvs E tA) (gName i) D σ H := h H (Ex.refl H) _ fun H1 e => k H1 e
theorem q_dropC (h : EvA tA σ H vs) (k : ∀ H1, Ex H H1 → sp (vs ++ dvs) H1 (fun _ H2 => tz D σ H2) E) : tSeq (tDrop (tCall sp dvs E tA)) tz D σ H := h H (Ex.refl H) _ fun H1 e => k H1 e
theorem s_retC (h : EvA tA σ H vs) (k : ∀ H1, Ex H H1 → sp (vs ++ dvs) H1 D.rt E) : tRet (tCall sp dvs E tA) D σ H := h H (Ex.refl H) _ fun H1 e => k H1 e
end
theorem gl_get {ns : List Int} {i : Nat} (h : i < ns.length) : ns[i]? = some (ns.getD i 0) := by
  rw [List.getD_eq_getElem?_getD, List.getElem?_eq_getElem h]
  rfl
theorem q_asgRaw {te : TE} {i : Nat} {D : Ends} {tz : TS} (P : V → Hp → Prop) (h : ∀ Q : VK, (∀ x H2, P x H2 → Q x H2) → te σ H Q) (k : ∀ x H2, P x H2 → tz D (σ.set i (some x)) H2) : tSeq (tAsg te (gName i)) tz D σ H := h _ k
/-- a, b = a pair -/
theorem q_asgT {te : TE} {i j : Nat} {D : Ends} {tz : TS} (P : V → V → Hp → Prop) (h : ∀ Q : VK, (∀ t x y H2, P x y H2 → SqT K H2 t [x, y] → Q (.ref t) H2) → te σ H Q) (k : ∀ x y H2, P x y H2 → tz D ((σ.set i (some x)).set j (some y)) H2) :
    tSeq (tAsg te (gTup K 2 (gCons (gName i) (gCons (gName j) gNil)))) tz D σ H := h _ fun t x y H2 hP hT => ⟨t, [x, y], rfl, hT, rfl, x, [y], rfl, y, [], rfl, rfl, k x y H2 hP⟩
/-- the law's cell -/
def cellI (ns : List Int) (k : Int) : Int := ns.getD k.toNat 0
theorem cellI_in {ns : List Int} {k : Int} (h0 : 0 ≤ k) (h : k < ns.length) : ns[k.toNat]? = some (cellI ns k) := by
  unfold cellI
  rw [List.getD_eq_getElem?_getD, List.getElem?_eq_getElem (by omega)]
  rfl
theorem cellI_out {ns : List Int} {k : Int} (h : ¬ k < ns.length) : cellI ns k = 0 := by
  unfold cellI
  rw [List.getD_eq_getElem?_getD, List.getElem?_eq_none (by omega)]
  rfl
end
theorem Ex.get {H H' : Hp} {a : Addr} {o : HO} (e : Ex H H') (h : H a = some o) : H' a = some o := e a o h
local macro_rules | `(tactic| walk_at "hp") => `(tactic| first
  | assumption
  | exact upd_same
  | (refine' Ex.get (by assumption) ?h1; (case h1 => walk_at "hp")))
local macro_rules | `(tactic| walk_at "ex") => `(tactic| first
  | assumption
  | exact Ex.refl _
  | (refine' Ex.trans ?h1 (by assumption); (case h1 => walk_at "ex")))
local macro_rules | `(tactic| walk_at "sq") => `(tactic| first
  | assumption
  | (refine' sq_of ?h1; (case h1 => walk_at "hp"))
  | (refine' ex_l (by assumption) ?h1; (case h1 => walk_at "sq")))
local macro_rules | `(tactic| walk_at "evs") => `(tactic| first
  | (refine' Ev.s ?h1 ?h2; (case h1 => exact ev_var rfl); (case h2 => walk_at "sq"))
  | (refine' EvR.s ?h1; (case h1 => walk_at "evr")))
local macro_rules | `(tactic| walk_at "evr") => `(tactic| first
  | (refine' Ev.r ?h1 ?h2; (case h1 => exact ev_var rfl); (case h2 => walk_at "hp"))
  | (refine' EvL.r ?h1; (case h1 => walk_at "el")))
local macro_rules | `(tactic| walk_at "eo") => `(tactic| first
  | exact eo_none
  | (refine' eo_some ?h1; (case h1 => walk_at "ev")))
local macro_rules | `(tactic| walk_at "el") => `(tactic| first
  | (refine' el_lst ?h1 ?h2; (case h1 => walk_at "ea"); (case h2 => exact Nat.le_of_ble_eq_true rfl))
  | (refine' el_cat ?h1 ?h2 ?h3; (case h1 => walk_at "evr"); (case h2 => walk_at "evr"); (case h3 => walk_at "len"))
  | (refine' el_rep ?h1 ?h2 ?h3 ?h4; (case h1 => walk_at "evr"); (case h2 => walk_at "ev"); (case h3 => walk_at "side2"); (case h4 => walk_at "len"))
  | (refine' el_of ?h1; (case h1 => walk_at "evs"))
  | (refine' el_to ?h1 ?h2; (case h1 => walk_at "evs"); (case h2 => walk_at "ev"))
  | (refine' el_from ?h1 ?h2; (case h1 => walk_at "evs"); (case h2 => walk_at "ev"))
  | (refine' el_mid ?h1 ?h2 ?h3; (case h1 => walk_at "evs"); (case h2 => walk_at "ev"); (case h3 => walk_at "ev"))
  | (refine' el_slS ?h1 ?h2 ?h3; (case h1 => walk_at "evs"); (case h2 => walk_at "eo"); (case h3 => walk_at "eo"))
  | walk_at "elmore")
local macro_rules | `(tactic| walk_at "evmore") => `(tactic| first
  | (refine' ev_lenS ?h1; (case h1 => walk_at "evs"))
  | (refine' ev_sum ?h1; (case h1 => walk_at "evs"))
  | (refine' ev_eqI ?h1 ?h2; (case h1 => walk_at "evs"); (case h2 => walk_at "evs"))
  | (refine' ev_neI ?h1 ?h2; (case h1 => walk_at "evs"); (case h2 => walk_at "evs"))
  | (refine' ev_at ?h1 ?h2 ?h3; (case h1 => walk_at "evs"); (case h2 => walk_at "ev"); (case h3 => walk_at "at"))
  | (refine' ev_isiL ?h1 ?h2; (case h1 => walk_at "ev"); (case h2 => walk_at "hp"))
  | walk_at "evown")
local macro_rules | `(tactic| walk_at "at") => `(tactic| first
  | exact at_of rfl (at_int (by assumption))
  | exact at_of rfl (by assumption))
local macro_rules | `(tactic| walk_at "asgL") => `(tactic| (refine' q_asgL ?h ?h1; (case h => walk_at "el")))
local macro_rules | `(tactic| walk_at "retL") => `(tactic| (refine' s_retL ?h ?h1; (case h => walk_at "el")))

/-- a walk's reading said in other words -/
theorem PI.k {X : Cx} {tg e : Expr} {wi wi' : TI} (h : PI X tg e wi) (q : wi = wi') : PI X tg e wi' := q ▸ h
/-! ### comprehensions whose items are said in a list -/
theorem et_yes {σ : L2.St} {H : Hp} : EvT tYes σ H true := fun H1 _ _ q => q H1 (Ex.refl H1)
section
variable {K : PySem.W.Frag} {σ : L2.St} {H : Hp} {t1 t2 te : TE} {xs ys zs : List V} {vs : List Nat}
theorem take_snoc {zs : List V} {i : Nat} {z : V} (h : zs[i]? = some z) : zs.take (i + 1) = zs.take i ++ [z] := by
  rw [List.take_add_one, h]
  rfl
theorem el_lcZ {j1 j2 : Nat} (zs : List V) (h1 : EvS K t1 σ H xs) (h2 : EvS K t2 σ H ys) (hz : zs.length = min xs.length ys.length) (hb : zs.length ≤ 50000)
    (hw : ∀ x y, wipe (((wipe σ vs).set j1 (some x)).set j2 (some y)) vs = wipe σ vs)
    (he : ∀ (i : Nat) (x y : V) H1, Ex H H1 → xs[i]? = some x → ys[i]? = some y → ∃ z, zs[i]? = some z ∧ Ev te (((wipe σ vs).set j1 (some x)).set j2 (some y)) H1 z) :
    EvL (tLc (iZip K (tCons t1 (tCons t2 tNil))) (gTup K 2 (gCons (gName j1) (gCons (gName j2) gNil))) tYes te vs) σ H zs := fun H0 e Q q =>
  h1 H0 e _ fun p H1 e1 hp => h2 H1 (e.trans e1) _ fun r H2 e2 hr => ⟨p, r, xs, ys, rfl, ex_l e2 hp, hr, fun D hD =>
    ⟨fun i m H' => m = zs.length - i ∧ i ≤ zs.length ∧ Ex H2 H' ∧ H' D = some (.lst (zs.take i)), ⟨zs.length, rfl, Nat.zero_le _, Ex.new hD, upd_same⟩, by
      rintro i m H' ⟨rfl, hi, ex, hd⟩
      have qx : SqL K H' p xs := ex_l (e2.trans ex) hp
      have qy : SqL K H' r ys := ex_l ex hr
      by_cases hlt : i < zs.length
      · have hx : xs[i]? = some xs[i] := List.getElem?_eq_getElem (by omega)
        have hy : ys[i]? = some ys[i] := List.getElem?_eq_getElem (by omega)
        refine .inr ⟨⟨xs, ys, _, _, qx, qy, hx, hy⟩, fun H3 => i + 1 ≤ zs.length ∧ Ex H2 H3 ∧ H3 D = some (.lst (zs.take (i + 1))), fun H3 h3 => ⟨zs.length - (i + 1), by omega, rfl, h3⟩, fun v H3 hv => ?_⟩
        obtain ⟨T, x, y, rfl, hT, rfl, f1, f2⟩ := hv
        have ex3 : Ex H' (upd H' T (.tup [x, y])) := Ex.new hT
        obtain ⟨z, hz1, hz2⟩ := he i x y (upd H' T (.tup [x, y])) ((((e.trans e1).trans e2).trans ex).trans ex3) (f1 _ qx) (f2 _ qy)
        refine ⟨T, [x, y], rfl, st_of upd_same, rfl, x, [y], rfl, y, [], rfl, rfl, hw x y, ?_⟩
        refine hz2 _ (Ex.refl _) _ fun H4 e4 => ⟨zs.take i, e4 _ _ (ex3 _ _ hd), sz_lt (by rw [List.length_take]; omega), hlt, ?_, ?_⟩
        · exact Ex.mut ((ex.trans ex3).trans e4) hD
        · rw [upd_same, take_snoc hz1]
      · have ei : i = zs.length := by omega
        refine .inl ⟨⟨xs, ys, qx, qy, by omega⟩, ?_⟩
        rw [ei, List.take_length] at hd
        exact q D H' (fresh_back (e1.trans e2) hD) ((e1.trans e2).trans ex) hd⟩⟩
/-- over a list, each item kept -/
theorem el_lcS {j : Nat} (zs : List V) (h1 : EvS K t1 σ H xs) (hz : zs.length = xs.length) (hb : zs.length ≤ 50000) (hw : ∀ x, wipe ((wipe σ vs).set j (some x)) vs = wipe σ vs)
    (he : ∀ (i : Nat) (x : V) H1, Ex H H1 → xs[i]? = some x → ∃ z, zs[i]? = some z ∧ Ev te ((wipe σ vs).set j (some x)) H1 z) :
    EvL (tLc (iList K t1) (gName j) tYes te vs) σ H zs := fun H0 e Q q =>
  h1 H0 e _ fun p H1 e1 hp => ⟨p, rfl, ⟨xs, hp⟩, fun D hD => lc_list (xs := xs) (fun i H' => Ex H1 H' ∧ H' D = some (.lst (zs.take i))) ⟨Ex.new hD, upd_same⟩ (fun i H' _ h => ex_l h.1 hp)
    (fun i x H' hi h => ⟨hw x, by
      obtain ⟨z, hz1, hz2⟩ := he i x H' ((e.trans e1).trans h.1) hi
      have hl : i < xs.length := (List.getElem?_eq_some_iff.mp hi).1
      refine hz2 H' (Ex.refl _) _ fun H4 e4 => ⟨zs.take i, e4 _ _ h.2, sz_lt (by rw [List.length_take]; omega), Ex.mut (h.1.trans e4) hD, ?_⟩
      rw [upd_same, take_snoc hz1]⟩)
    (fun H' h => q D H' (fresh_back e1 hD) (e1.trans h.1) (by rw [h.2, ← hz, List.take_length]))⟩
/-- over range(n) -/
theorem el_lcR {ta : TA} {n : Int} {j : Nat} (zs : List V) (h1 : EvA ta σ H [.int n]) (hn : -100000 ≤ n) (hz : zs.length = n.toNat) (hb : zs.length ≤ 50000) (hw : ∀ x, wipe ((wipe σ vs).set j (some x)) vs = wipe σ vs)
    (he : ∀ (i : Nat) H1, Ex H H1 → i < zs.length → ∃ z, zs[i]? = some z ∧ Ev te ((wipe σ vs).set j (some (.int (i : Int)))) H1 z) :
    EvL (tLc (iRng1 ta) (gName j) tYes te vs) σ H zs := fun H0 e Q q =>
  h1 H0 e _ fun H1 e1 => ⟨n, rfl, by omega, by omega, fun D hD => lc_range (lo := 0) (n := n.toNat) (fun i H' => Ex H1 H' ∧ H' D = some (.lst (zs.take i))) ⟨Ex.new hD, upd_same⟩
    (fun i H' hi h => by
      have e0 : (0 : Int) + (i : Int) = (i : Int) := Int.zero_add _
      rw [e0]
      obtain ⟨z, hz1, hz2⟩ := he i H' ((e.trans e1).trans h.1) (by omega)
      refine ⟨hw _, hz2 H' (Ex.refl _) _ fun H4 e4 => ⟨zs.take i, e4 _ _ h.2, sz_lt (by rw [List.length_take]; omega), Ex.mut (h.1.trans e4) hD, ?_⟩⟩
      rw [upd_same, take_snoc hz1])
    (fun H' h => q D H' (fresh_back e1 hD) (e1.trans h.1) (by rw [h.2, show n.toNat = zs.length by omega, List.take_length]))⟩
/-- y = [.. for x in f(..)], whatever f promises -/
theorem s_asgLC {sp : Sp} {dvs args : List V} {E : XK} {ta : TA} {g : TG} {tt : TT} {D : Ends} {i : Nat} (h : EvA ta σ H args) (k : ∀ H1, Ex H H1 → sp (args ++ dvs) H1 (fun x H2 => tAsg (tLc (iList K (tC x)) g tt te vs) (gName i) D σ H2) E) :
    tAsg (tLc (iList K (tCall sp dvs E ta)) g tt te vs) (gName i) D σ H := h H (Ex.refl H) _ fun H1 e => k H1 e
theorem q_asgLC {sp : Sp} {dvs args : List V} {E : XK} {ta : TA} {g : TG} {tt : TT} {D : Ends} {i : Nat} {tz : TS} (h : EvA ta σ H args) (k : ∀ H1, Ex H H1 → sp (args ++ dvs) H1 (fun x H2 => tSeq (tAsg (tLc (iList K (tC x)) g tt te vs) (gName i)) tz D σ H2) E) :
    tSeq (tAsg (tLc (iList K (tCall sp dvs E ta)) g tt te vs) (gName i)) tz D σ H := h H (Ex.refl H) _ fun H1 e => k H1 e
theorem s_retLC {sp : Sp} {dvs args : List V} {E : XK} {ta : TA} {g : TG} {tt : TT} {D : Ends} (h : EvA ta σ H args) (k : ∀ H1, Ex H H1 → sp (args ++ dvs) H1 (fun x H2 => tRet (tLc (iList K (tC x)) g tt te vs) D σ H2) E) :
    tRet (tLc (iList K (tCall sp dvs E ta)) g tt te vs) D σ H := h H (Ex.refl H) _ fun H1 e => k H1 e
end

/-! ### calls with keywords, defaults -/
theorem kwAllN {K : PySem.W.Frag} {D : Addr} : ∀ p ∈ ([] : List (Str × V)), ∃ u, PySem.W.nsIn K D p.1 = some (some u) ∧ RelV p.2 u := fun p hp => by cases hp
theorem kwAllC {K : PySem.W.Frag} {D : Addr} {q : Str × V} {l : List (Str × V)} (h : ∃ u, PySem.W.nsIn K D q.1 = some (some u) ∧ RelV q.2 u) (hl : ∀ p ∈ l, ∃ u, PySem.W.nsIn K D p.1 = some (some u) ∧ RelV p.2 u) : ∀ p ∈ q :: l, ∃ u, PySem.W.nsIn K D p.1 = some (some u) ∧ RelV p.2 u := fun p hp => by
  rcases List.mem_cons.mp hp with rfl | hp
  · exact h
  · exact hl p hp
theorem kwAll1 {K : PySem.W.Frag} {D : Addr} {q : Str × V} (h : ∃ u, PySem.W.nsIn K D q.1 = some (some u) ∧ RelV q.2 u) : ∀ p ∈ [q], ∃ u, PySem.W.nsIn K D p.1 = some (some u) ∧ RelV p.2 u := fun p hp => by
  rcases List.mem_cons.mp hp with rfl | hp
  · exact h
  · cases hp
section
variable {K : PySem.W.Frag} {x qual : Str} {params : Arguments} {body : List Stmt} {scope : Scope} {dvs : List V} {kws : List (Str × V)} {f : Addr} {fd : FuncData} {ps : List Str}
/-- f(a, .., k = v, ..), nothing left to a default, no defaults of place -/
theorem fund_kb0 {g : List Value → List Value → List Value} {gV : List V → List V → List V} (F : FunD K x qual params body scope [] kws f fd) (n : Nat) (ks : List Str)
    (hrel : ∀ {vs : List V} {us : List Value} {zs : List V} {ws : List Value}, Vals vs us → Vals zs ws → Vals (gV vs zs) (g us ws))
    (h : ∀ (kV doc pm : Value) (an : Option Addr) (cdv ct : Value) (us ws : List Value), us.length = n → ws.length = ks.length → bindArgs (PySem.W.fnOf x qual params body scope .none kV doc pm an cdv ct) ⟨us, ks.zip ws⟩ = pure (ps.zip (g us ws))) :
    KBn K fd ps n ks g gV := by
  obtain ⟨oc, od, dV, kV, doc, pm, an, cdv, ct, osl, rfl, lk, hcd, hD, hK⟩ := F.ex
  rcases hD with ⟨_, rfl⟩ | ⟨e, _⟩
  · exact ⟨fun s us ws X l1 l2 => .of_eq (h kV doc pm an cdv ct us ws l1 l2), hrel⟩
  · exact absurd rfl e
/-- the same of a def with defaults of place -/
theorem fund_kb1 {g : List Value → List Value → List Value} {gV : List V → List V → List V} (F : FunD K x qual params body scope dvs kws f fd) (hd : dvs ≠ []) (n : Nat) (ks : List Str)
    (hrel : ∀ {vs : List V} {us : List Value} {zs : List V} {ws : List Value}, Vals vs us → Vals zs ws → Vals (gV vs zs) (g us ws))
    (h : ∀ (T : Addr) (kV doc pm : Value) (an : Option Addr) (cdv ct : Value) (us its ws : List Value), us.length = n → its.length = dvs.length → ws.length = ks.length →
      ∃ k, bindArgs (PySem.W.fnOf x qual params body scope (.ref T) kV doc pm an cdv ct) ⟨us, ks.zip ws⟩ = seqItems? (.ref T) >>= k ∧ k (some its.toArray) = pure (ps.zip (g us ws))) :
    KBn K fd ps n ks g gV := by
  obtain ⟨oc, od, dV, kV, doc, pm, an, cdv, ct, osl, rfl, lk, hcd, hD, hK⟩ := F.ex
  rcases hD with ⟨e, _⟩ | ⟨_, T, o, its, m, rfl, lT, oT, rT⟩
  · exact absurd e hd
  · refine ⟨fun s us ws X l1 l2 => ?_, hrel⟩
    obtain ⟨k, e1, e2⟩ := h T kV doc pm an cdv ct us its ws l1 rT.length.symm l2
    refine BindsTo.of_looks fun M => ?_
    rw [e1]
    exact looks_items X lT oT (.of_pure e2)
end

/-! ### data at any depth -/
mutual
theorem dp_ex {K : PySem.W.Frag} {H H' : Hp} (e : Ex H H') : ∀ (d : PyData) (v : V), Dp K H v d → Dp K H' v d
  | .none, _, h => by cases h; exact .non
  | .bool b, _, h => by cases h; exact .bl b
  | .int i, _, h => by cases h; exact .int i
  | .str x, _, h => by cases h; exact .str x
  | .list ds, _, h => by cases h with | lst hs ha => exact .lst (ex_l e hs) (dpa_ex e ds _ ha)
  | .tuple ds, _, h => by cases h with | tup hs ha => exact .tup (ex_t e hs) (dpa_ex e ds _ ha)
  | .dict _, _, h => by cases h
theorem dpa_ex {K : PySem.W.Frag} {H H' : Hp} (e : Ex H H') : ∀ (ds : List PyData) (vs : List V), DpAll K H vs ds → DpAll K H' vs ds
  | [], _, h => by cases h; exact .nil
  | d :: ds, _, h => by cases h with | cons h1 h2 => exact .cons (dp_ex e d _ h1) (dpa_ex e ds _ h2)
end
def EvD (K : PySem.W.Frag) (te : TE) (σ : L2.St) (H : Hp) (d : PyData) : Prop := ∀ H1, Ex H H1 → ∀ Q : VK, (∀ v H2, Ex H1 H2 → Dp K H2 v d → Q v H2) → te σ H1 Q
section
variable {K : PySem.W.Frag} {σ : L2.St} {H : Hp} {te ta tb t1 t2 t3 : TE} {d d1 d2 d3 : PyData} {v : V}
theorem EvD.of (h : Ev te σ H v) (hd : Dp K H v d) : EvD K te σ H d := fun H1 e Q q => h H1 e _ fun H2 e2 => q v H2 e2 (dp_ex (e.trans e2) d v hd)
theorem EvS.toD {ns : List Int} (h : EvS K te σ H (ns.map V.int)) : EvD K te σ H (.list (ns.map .int)) := fun H1 e Q q => h H1 e _ fun p H2 e2 hp => q (.ref p) H2 e2 (.lst hp (dp_ints ns))
theorem ed_tup2 (h1 : EvD K t1 σ H d1) (h2 : EvD K t2 σ H d2) : EvD K (tTup (tCons t1 (tCons t2 tNil))) σ H (.tuple [d1, d2]) := fun H1 e Q q => h1 H1 e _ fun v H2 e2 hv => h2 H2 (e.trans e2) _ fun u H3 e3 hu =>
  ⟨sz_of (show 2 ≤ 100000 by decide), fun p hp => q (.ref p) _ ((e2.trans e3).trans (Ex.new hp)) (.tup (st_of upd_same) (.cons (dp_ex (e3.trans (Ex.new hp)) _ _ hv) (.cons (dp_ex (Ex.new hp) _ _ hu) .nil)))⟩
theorem ev_eqDD (h1 : EvD K ta σ H d) (h2 : EvD K tb σ H d) (hs : SeqAt.shaped d = true) : Ev (tOp (rEqD K) ta tb) σ H (.bl true) := fun H1 e Q q => h1 H1 e _ fun v H2 e2 hv => h2 H2 (e.trans e2) _ fun u H3 e3 hu =>
  ⟨d, d, dp_ex e3 d v hv, hu, hs, hs, by rw [SeqAt.eqv_refl d (SeqAt.canLay_of_shaped hs)]; exact q H3 (e2.trans e3)⟩
theorem ev_neDD (h1 : EvD K ta σ H d) (h2 : EvD K tb σ H d) (hs : SeqAt.shaped d = true) : Ev (tOp (rNeD K) ta tb) σ H (.bl false) := fun H1 e Q q => h1 H1 e _ fun v H2 e2 hv => h2 H2 (e.trans e2) _ fun u H3 e3 hu =>
  ⟨d, d, dp_ex e3 d v hv, hu, hs, hs, by rw [SeqAt.eqv_refl d (SeqAt.canLay_of_shaped hs)]; exact q H3 (e2.trans e3)⟩
end
theorem shaped_pair (ns ms : List Int) : SeqAt.shaped (.tuple [.list (ns.map .int), .list (ms.map .int)]) = true := by
  unfold SeqAt.shaped
  have h1 := canLay_ints ns
  have h2 := depth_ints ns
  have h3 := canLay_ints ms
  have h4 := depth_ints ms
  rw [Bool.and_eq_true, decide_eq_true_iff]
  refine ⟨by simp only [PyData.canLay0, PyData.canLayAll0, h1, h3, Bool.and_self], ?_⟩
  simp only [PyData.depth, PyData.depthAll]
  omega

/-! ### max(xs, default=d), bit_length -/
def maxI (d : Int) : List Int → Int
  | [] => d
  | n :: r => r.foldl max n
def rMaxDef (K : PySem.W.Frag) : List V → List V → Hp → VK → Prop := fun vs zs H Q => ∃ (a : Addr) (ns : List Int) (d : Int), vs = [.ref a] ∧ zs = [.int d] ∧ SqL K H a (ns.map V.int) ∧ Q (.int (maxI d ns)) H
theorem alike_ints (ns : List Int) : PySem.W.AlikeAll (ns.map PyData.int) := by
  refine ⟨fun x hx y hy => ?_, fun x hx => ?_⟩
  · obtain ⟨n, _, rfl⟩ := List.mem_map.mp hx
    obtain ⟨m, _, rfl⟩ := List.mem_map.mp hy
    rfl
  · obtain ⟨n, _, rfl⟩ := List.mem_map.mp hx
    intro h
    cases h
theorem cr_maxDef {X : Cx} (hu : X.A.units + 64 < cLine) (hc : X.calm = true := by rfl) : CallRK X (.builtin "max") [Str.ofString "default"] (rMaxDef X.K) := by
  intro pins s σ H vs zs us ws Q I r rz h
  obtain ⟨a, ns, d, rfl, rfl, hs, q⟩ := h
  obtain rfl := Vals.ref1 r
  obtain ⟨w1, rfl, e1⟩ := vals1 rz
  obtain ⟨its, rv, hl, _⟩ := I.list hs
  obtain ⟨as, hr⟩ := Dp.readsAll I (ns.map PyData.int) _ its (dp_ints ns) rv
  have hd := depth_ints ns
  refine PySem.W.max_list_default (xs := ns.map PyData.int) (I.ok.hd hc) hl.isList (by simpa using hr) (alike_ints ns) (by omega) (fun h0 h' tk hk => ?_) fun y ys i v h' tk bs he hv hrd hk => ?_
  · cases ns with
    | nil => exact ⟨.int d, H, I.kept hk, e1, q⟩
    | cons x r => cases h0
  · cases ns with
    | nil => cases he
    | cons x r =>
      injection he with h1 h2
      subst h1 h2
      rw [PySem.W.maxD_ints] at hrd
      cases hrd
      exact ⟨.int _, H, I.kept hk, ⟨_, rfl⟩, q⟩
theorem ev_maxD {K : PySem.W.Frag} {σ : L2.St} {H : Hp} {t td : TE} {ns : List Int} {d : Int} (h : EvS K t σ H (ns.map V.int)) (hd : Ev td σ H (.int d)) : Ev (tCKw (rMaxDef K) (tCons t tNil) (tCons td tNil)) σ H (.int (maxI d ns)) := fun H1 e Q q =>
  h H1 e _ fun p H2 e2 hp => hd H2 (e.trans e2) _ fun H3 e3 => ⟨p, ns, d, rfl, rfl, ex_l e3 hp, q H3 (e2.trans e3)⟩
theorem ev_bits {σ : L2.St} {H : Hp} {to : TE} {i : Int} (h : Ev to σ H (.int i)) : Ev (tBits to) σ H (.int ((Builtin.Int.intBits i : Nat) : Int)) := fun H1 e Q q => h H1 e _ fun H2 e2 => ⟨i, rfl, q H2 e2⟩

theorem foldl_max : ∀ (ns : List Int) (d : Int), (ns.foldl max d = d ∨ ns.foldl max d ∈ ns) ∧ d ≤ ns.foldl max d ∧ ∀ n ∈ ns, n ≤ ns.foldl max d
  | [], d => ⟨.inl rfl, Int.le_refl _, fun n hn => by cases hn⟩
  | x :: r, d => by
    obtain ⟨h1, h2, h3⟩ := foldl_max r (max d x)
    show (r.foldl max (max d x) = d ∨ r.foldl max (max d x) ∈ x :: r) ∧ d ≤ r.foldl max (max d x) ∧ ∀ n ∈ x :: r, n ≤ r.foldl max (max d x)
    refine ⟨?_, by omega, fun n hn => ?_⟩
    · rcases h1 with h | h
      · rw [h]
        by_cases hd : d ≤ x
        · exact .inr (by rw [Int.max_eq_right hd]; exact List.mem_cons_self ..)
        · exact .inl (by omega)
      · exact .inr (List.mem_cons_of_mem _ h)
    · rcases List.mem_cons.mp hn with rfl | hn
      · omega
      · exact h3 n hn

/-! ### min of a list of pairs of numbers -/
def pairD (q : Int × Int) : PyData := .tuple [.int q.1, .int q.2]
def minP (p : Int × Int) (ps : List (Int × Int)) : Int × Int := ps.foldl (fun a y => if y.1 < a.1 ∨ (y.1 = a.1 ∧ y.2 < a.2) then y else a) p
theorem minD_pairs (p : Int × Int) (ps : List (Int × Int)) : PySem.W.minD (pairD p) (ps.map pairD) = pairD (minP p ps) := by
  have h := PySem.W.minD_map (α := Int × Int) p ps
  have e : PySem.W.minOf p ps = minP p ps := by
    unfold PySem.W.minOf minP
    congr 1
    funext a y
    show (if (if y.1 = a.1 then decide (y.2 < a.2) else decide (y.1 < a.1)) = true then y else a) = _
    by_cases h : y.1 = a.1
    · rw [if_pos h]
      by_cases h2 : y.2 < a.2
      · rw [if_pos (decide_eq_true h2), if_pos (.inr ⟨h, h2⟩)]
      · rw [if_neg (by rw [decide_eq_false h2]; decide), if_neg (fun z => z.elim (fun z => by omega) fun z => h2 z.2)]
    · rw [if_neg h]
      by_cases h2 : y.1 < a.1
      · rw [if_pos (decide_eq_true h2), if_pos (.inl h2)]
      · rw [if_neg (by rw [decide_eq_false h2]; decide), if_neg (fun z => z.elim h2 fun z => h z.1)]
  rw [e] at h
  exact h
def rMinP (K : PySem.W.Frag) : List V → Hp → VK → Prop := fun vs H Q => ∃ (a : Addr) (xs : List V) (p : Int × Int) (ps : List (Int × Int)), vs = [.ref a] ∧ SqL K H a xs ∧ DpAll K H xs ((p :: ps).map pairD) ∧ ∀ v, Dp K H v (pairD (minP p ps)) → Q v H
theorem depth_pairs : ∀ ps : List (Int × Int), PyData.depthAll (ps.map pairD) ≤ 3
  | [] => by simp [PyData.depthAll]
  | f :: r => by
    show PyData.depthAll (pairD f :: r.map pairD) ≤ 3
    have := depth_pairs r
    simp only [pairD, PyData.depthAll, PyData.depth] at *
    omega
theorem dpAll_at {K : PySem.W.Frag} {H : Hp} : ∀ {xs : List V} {ds : List PyData}, DpAll K H xs ds → ∀ (i : Nat) (x : V), xs[i]? = some x → ∃ d, ds[i]? = some d ∧ Dp K H x d
  | [], _, _, i, x, hx => by simp at hx
  | y :: xs, ds, h, i, x, hx => by
    cases h with
    | cons h1 h2 =>
      cases i with
      | zero => cases hx; exact ⟨_, rfl, h1⟩
      | succ i => exact dpAll_at h2 i x hx
theorem cr_minP {X : Cx} (hu : X.A.units + 64 < cLine) (hc : X.calm = true) : CallR X (.builtin "min") (rMinP X.K) := by
  intro pins s σ H vs us Q I r h
  obtain ⟨a, xs, p, ps, rfl, hs, hd, q⟩ := h
  obtain ⟨its, rv, hl, _⟩ := I.list hs
  rw [Vals.ref1 r]
  obtain ⟨as, hr⟩ := Dp.readsAll I _ _ its hd rv
  have hdep := depth_pairs (p :: ps)
  refine PySem.W.min_list_data (x := pairD p) (xs := ps.map pairD) (I.ok.hd hc) hl.isList (by simpa using hr) (PySem.W.alikeAll_datum (α := Int × Int) (p :: ps)) (by rw [List.map_cons] at hdep; omega) fun i v h' tk bs hv hrd hk => ?_
  have hv2 : its[i]? = some v := by simpa using hv
  have hlen := rv.length
  have hi := (List.getElem?_eq_some_iff.mp hv2).1
  have hx : xs[i]? = some xs[i] := List.getElem?_eq_getElem (by omega)
  obtain ⟨u, hu1, hu2⟩ := Vals.get rv hx
  rw [hv2] at hu1
  cases hu1
  obtain ⟨d, hd1, hd2⟩ := dpAll_at hd i _ hx
  have I2 : Inv X pins σ H { s with heap := h', toks := tk } := I.kept hk
  obtain ⟨bs2, hrd2⟩ := Dp.reads I2 d _ _ hd2 hu2
  have he := (Reads.unique hrd2 _ _ hrd).1
  rw [minD_pairs] at he
  rw [he] at hd2
  exact ⟨_, H, I2, hu2, q _ hd2⟩

/-! ### min of a list of quadruples (bits, method, order, codings) -/
structure Qd where
  b : Int
  m : Nat
  p : Nat
  cs : List (Str × Int)
def codD (c : Str × Int) : PyData := .tuple [.str c.1, .int c.2]
def quadD (x : Qd) : PyData := .tuple [.int x.b, .int (x.m : Int), .int (x.p : Int), .tuple (x.cs.map codD)]
def ltQ (x y : Qd) : Prop := x.b < y.b ∨ (x.b = y.b ∧ (x.m < y.m ∨ (x.m = y.m ∧ x.p < y.p)))
instance (x y : Qd) : Decidable (ltQ x y) := inferInstanceAs (Decidable (_ ∨ _))
def difQ (x y : Qd) : Prop := ¬ (x.m = y.m ∧ x.p = y.p)
theorem toks_q (x : Qd) : PySem.W.keyToks (quadD x) = .inl 1 :: .inl x.b :: .inl 1 :: .inl (x.m : Int) :: .inl 1 :: .inl (x.p : Int) :: .inl 1 :: (PySem.W.keyToks (.tuple (x.cs.map codD)) ++ [.inl 0]) := rfl
theorem lex_eq {a : Int} {r t : List (Int ⊕ List Nat)} : PyProof.Rows.lexLt PyProof.Rows.itemOrd (.inl a :: r) (.inl a :: t) = PyProof.Rows.lexLt PyProof.Rows.itemOrd r t := by
  show (decide (a < a) || !decide (a < a) && PyProof.Rows.lexLt PyProof.Rows.itemOrd r t) = _
  rw [decide_eq_false (by omega)]
  rfl
theorem lex_ne {a b : Int} {r t : List (Int ⊕ List Nat)} (h : a ≠ b) : PyProof.Rows.lexLt PyProof.Rows.itemOrd (.inl a :: r) (.inl b :: t) = decide (a < b) := by
  show (decide (a < b) || !decide (b < a) && PyProof.Rows.lexLt PyProof.Rows.itemOrd r t) = _
  by_cases h1 : a < b
  · rw [decide_eq_true h1]
    rfl
  · rw [decide_eq_false h1, decide_eq_true (show b < a by omega)]
    rfl
theorem lt_q {x y : Qd} (h : difQ x y) : PySem.W.dataLt (quadD x) (quadD y) = decide (ltQ x y) := by
  unfold difQ at h
  unfold PySem.W.dataLt
  rw [toks_q, toks_q, lex_eq]
  by_cases h1 : x.b = y.b
  · rw [h1, lex_eq, lex_eq]
    by_cases h2 : x.m = y.m
    · rw [h2, lex_eq, lex_eq, lex_ne (by omega)]
      unfold ltQ
      exact decide_eq_decide.mpr (by omega)
    · rw [lex_ne (by omega)]
      unfold ltQ
      exact decide_eq_decide.mpr (by omega)
  · rw [lex_ne h1]
    unfold ltQ
    exact decide_eq_decide.mpr (by omega)
theorem minD_q : ∀ (qs : List Qd) (q : Qd), (q :: qs).Pairwise difQ → ∃ z, z ∈ q :: qs ∧ (∀ y ∈ q :: qs, ¬ ltQ y z) ∧ PySem.W.minD (quadD q) (qs.map quadD) = quadD z
  | [], q, _ => ⟨q, List.mem_singleton.mpr rfl, fun y hy => by rw [List.mem_singleton.mp hy]; unfold ltQ; omega, rfl⟩
  | y :: r, q, h => by
    obtain ⟨h1, h2⟩ := List.pairwise_cons.mp h
    obtain ⟨h3, h4⟩ := List.pairwise_cons.mp h2
    have hd : difQ y q := fun z => h1 y (List.mem_cons_self ..) ⟨z.1.symm, z.2.symm⟩
    have hst : PySem.W.minD (quadD q) ((y :: r).map quadD) = PySem.W.minD (if PySem.W.dataLt (quadD y) (quadD q) = true then quadD y else quadD q) (r.map quadD) := rfl
    rw [hst, lt_q hd]
    by_cases hl : ltQ y q
    · rw [if_pos (decide_eq_true hl)]
      obtain ⟨z, hz, hm, he⟩ := minD_q r y h2
      refine ⟨z, List.mem_cons_of_mem _ hz, fun u hu => ?_, he⟩
      rcases List.mem_cons.mp hu with rfl | hu
      · have := hm y (List.mem_cons_self ..)
        unfold ltQ at *
        omega
      · exact hm u hu
    · rw [if_neg (by rw [decide_eq_false hl]; decide)]
      obtain ⟨z, hz, hm, he⟩ := minD_q r q (List.pairwise_cons.mpr ⟨fun u hu => h1 u (List.mem_cons_of_mem _ hu), h4⟩)
      refine ⟨z, ?_, fun u hu => ?_, he⟩
      · rcases List.mem_cons.mp hz with rfl | hz
        · exact List.mem_cons_self ..
        · exact List.mem_cons_of_mem _ (List.mem_cons_of_mem _ hz)
      · rcases List.mem_cons.mp hu with rfl | hu
        · exact hm _ (List.mem_cons_self ..)
        · rcases List.mem_cons.mp hu with rfl | hu
          · have := hm q (List.mem_cons_self ..)
            unfold ltQ at *
            omega
          · exact hm u (List.mem_cons_of_mem _ hu)
theorem alike_cods : ∀ xs ys : List (Str × Int), PySem.W.alikeAll (xs.map codD) (ys.map codD) = true
  | [], _ => rfl
  | _ :: _, [] => rfl
  | _ :: xs, _ :: ys => by
    show (true && PySem.W.alikeAll (xs.map codD) (ys.map codD)) = true
    rw [alike_cods xs ys]
    rfl
theorem alike_q (x y : Qd) : PySem.W.alike (quadD x) (quadD y) = true := by
  show (true && (true && (true && (PySem.W.alikeAll (x.cs.map codD) (y.cs.map codD) && true)))) = true
  rw [alike_cods]
  rfl
theorem depth_cods : ∀ cs : List (Str × Int), PyData.depthAll (cs.map codD) ≤ 2
  | [] => by simp [PyData.depthAll]
  | c :: r => by
    show PyData.depthAll (codD c :: r.map codD) ≤ 2
    have := depth_cods r
    simp only [codD, PyData.depthAll, PyData.depth] at *
    omega
theorem depth_qs : ∀ qs : List Qd, PyData.depthAll (qs.map quadD) ≤ 5
  | [] => by simp [PyData.depthAll]
  | c :: r => by
    show PyData.depthAll (quadD c :: r.map quadD) ≤ 5
    have := depth_qs r
    have := depth_cods c.cs
    simp only [quadD, PyData.depthAll, PyData.depth] at *
    omega
def rMinQ (K : PySem.W.Frag) : List V → Hp → VK → Prop := fun vs H Q => ∃ (a : Addr) (xs : List V) (q : Qd) (qs : List Qd), vs = [.ref a] ∧ SqL K H a xs ∧ DpAll K H xs ((q :: qs).map quadD) ∧ (q :: qs).Pairwise difQ ∧ ∀ (i : Nat) v y, xs[i]? = some v → (q :: qs)[i]? = some y → (∀ u ∈ q :: qs, ¬ ltQ u y) → Q v H
theorem cr_minQ {X : Cx} (hu : X.A.units + 64 < cLine) (hc : X.calm = true) : CallR X (.builtin "min") (rMinQ X.K) := by
  intro pins s σ H vs us Q I r h
  obtain ⟨a, xs, p, ps, rfl, hs, hd, hp, q⟩ := h
  obtain ⟨its, rv, hl, _⟩ := I.list hs
  rw [Vals.ref1 r]
  obtain ⟨as, hr⟩ := Dp.readsAll I _ _ its hd rv
  have hdep := depth_qs (p :: ps)
  refine PySem.W.min_list_data (x := quadD p) (xs := ps.map quadD) (I.ok.hd hc) hl.isList (by simpa using hr) ⟨fun x hx y hy => ?_, fun x hx => ?_⟩ (by rw [List.map_cons] at hdep; omega) fun i v h' tk bs hv hrd hk => ?_
  · rw [← List.map_cons] at hx hy
    obtain ⟨x', _, rfl⟩ := List.mem_map.mp hx
    obtain ⟨y', _, rfl⟩ := List.mem_map.mp hy
    exact alike_q x' y'
  · rw [← List.map_cons] at hx
    obtain ⟨x', _, rfl⟩ := List.mem_map.mp hx
    intro z
    cases z
  have hv2 : its[i]? = some v := by simpa using hv
  have hlen := rv.length
  have hi := (List.getElem?_eq_some_iff.mp hv2).1
  have hx : xs[i]? = some xs[i] := List.getElem?_eq_getElem (by omega)
  obtain ⟨u, hu1, hu2⟩ := Vals.get rv hx
  rw [hv2] at hu1
  cases hu1
  obtain ⟨d, hd1, hd2⟩ := dpAll_at hd i _ hx
  have I2 : Inv X pins σ H { s with heap := h', toks := tk } := I.kept hk
  obtain ⟨bs2, hrd2⟩ := Dp.reads I2 d _ _ hd2 hu2
  have he := (Reads.unique hrd2 _ _ hrd).1
  obtain ⟨z, hz, hm, hq⟩ := minD_q ps p hp
  rw [hq] at he
  rw [List.getElem?_map] at hd1
  obtain ⟨y, hy, rfl⟩ := Option.map_eq_some_iff.mp hd1
  refine ⟨_, H, I2, hu2, q i _ y hx hy fun u hu => ?_⟩
  have h1 := hm u hu
  unfold quadD at he
  injection he with he
  injection he with e1 he
  injection he with e2 he
  injection he with e3 he
  injection e1 with e1
  injection e2 with e2
  injection e3 with e3
  unfold ltQ at h1 ⊢
  omega

/-- what the top has left -/
structure TX (K : PySem.W.Frag) (mg : Str → Option Value) where
  a_fold : Addr
  d_fold : FuncData
  F_fold : Fun K "fold" "fold" s_fold a_fold d_fold
  b_fold : Binds K d_fold ["n"] []
  g_fold : mg "fold" = some (.ref a_fold)
  a_legal_partition_order : Addr
  d_legal_partition_order : FuncData
  F_legal_partition_order : Fun K "legal_partition_order" "legal_partition_order" s_legal_partition_order a_legal_partition_order d_legal_partition_order
  b_legal_partition_order : Binds K d_legal_partition_order ["size", "order", "partition_order"] []
  g_legal_partition_order : mg "legal_partition_order" = some (.ref a_legal_partition_order)
  a_partition_sizes : Addr
  d_partition_sizes : FuncData
  F_partition_sizes : Fun K "partition_sizes" "partition_sizes" s_partition_sizes a_partition_sizes d_partition_sizes
  b_partition_sizes : Binds K d_partition_sizes ["size", "order", "partition_order"] []
  g_partition_sizes : mg "partition_sizes" = some (.ref a_partition_sizes)
  a_best_coding : Addr
  d_best_coding : FuncData
  F_best_coding : FunD K "best_coding" "best_coding" (defArgs s_best_coding) (defBody s_best_coding) (defScope s_best_coding) [] [] a_best_coding d_best_coding
  k2_highest_wide_best_coding : KBn K d_best_coding ["residuals", "order", "highest", "wide"] 2 ["highest", "wide"] (fun us ws => us ++ ws) (fun us ws => us ++ ws)
  g_best_coding : mg "best_coding" = some (.ref a_best_coding)
  a_width : Addr
  d_width : FuncData
  F_width : Fun K "_width" "_width" s_width a_width d_width
  b_width : Binds K d_width ["folded"] []
  g_width : mg "_width" = some (.ref a_width)
  a_measured : Addr
  d_measured : FuncData
  F_measured : Fun K "_measured" "_measured" s_measured a_measured d_measured
  b_measured : Binds K d_measured ["residuals"] []
  g_measured : mg "_measured" = some (.ref a_measured)
  a_measured_parts : Addr
  d_measured_parts : FuncData
  F_measured_parts : Fun K "_measured_parts" "_measured_parts" s_measured_parts a_measured_parts d_measured_parts
  b_measured_parts : Binds K d_measured_parts ["residuals", "sizes"] []
  g_measured_parts : mg "_measured_parts" = some (.ref a_measured_parts)
  a_joined_in_pairs : Addr
  d_joined_in_pairs : FuncData
  F_joined_in_pairs : Fun K "_joined_in_pairs" "_joined_in_pairs" s_joined_in_pairs a_joined_in_pairs d_joined_in_pairs
  b_joined_in_pairs : Binds K d_joined_in_pairs ["parts"] []
  g_joined_in_pairs : mg "_joined_in_pairs" = some (.ref a_joined_in_pairs)
  a_joined : Addr
  d_joined : FuncData
  F_joined : Fun K "_joined" "_joined" s_joined a_joined d_joined
  b_joined : Binds K d_joined ["part", "other"] []
  g_joined : mg "_joined" = some (.ref a_joined)
  a_entry : Addr
  d_entry : FuncData
  F_entry : Fun K "_entry" "_entry" s_entry a_entry d_entry
  b_entry : Binds K d_entry ["part", "method"] []
  g_entry : mg "_entry" = some (.ref a_entry)
  a_entries : Addr
  d_entries : FuncData
  F_entries : Fun K "_entries" "_entries" s_entries a_entries d_entries
  b_entries : Binds K d_entries ["parts", "method"] []
  g_entries : mg "_entries" = some (.ref a_entries)
  a_law_cell : Addr
  d_law_cell : FuncData
  F_law_cell : Fun K "_law_cell" "_law_cell" s_law_cell a_law_cell d_law_cell
  b_law_cell : Binds K d_law_cell ["script", "k"] []
  g_law_cell : mg "_law_cell" = some (.ref a_law_cell)
  a_law_integer : Addr
  d_law_integer : FuncData
  F_law_integer : Fun K "_law_integer" "_law_integer" s_law_integer a_law_integer d_law_integer
  b_law_integer : Binds K d_law_integer ["value"] []
  g_law_integer : mg "_law_integer" = some (.ref a_law_integer)
  a_law_row : Addr
  d_law_row : FuncData
  F_law_row : Fun K "_law_row" "_law_row" s_law_row a_law_row d_law_row
  b_law_row : Binds K d_law_row ["cell", "count", "bound"] []
  g_law_row : mg "_law_row" = some (.ref a_law_row)
  a_law_fold : Addr
  d_law_fold : FuncData
  F_law_fold : Fun K "_law_fold" "_law_fold" s_law_fold a_law_fold d_law_fold
  b_law_fold : Binds K d_law_fold ["value"] []
  g_law_fold : mg "_law_fold" = some (.ref a_law_fold)
  a_law_rice : Addr
  d_law_rice : FuncData
  F_law_rice : Fun K "_law_rice" "_law_rice" s_law_rice a_law_rice d_law_rice
  b_law_rice : Binds K d_law_rice ["values", "k"] []
  g_law_rice : mg "_law_rice" = some (.ref a_law_rice)
  a_law_width : Addr
  d_law_width : FuncData
  F_law_width : Fun K "_law_width" "_law_width" s_law_width a_law_width d_law_width
  b_law_width : Binds K d_law_width ["values"] []
  g_law_width : mg "_law_width" = some (.ref a_law_width)
  a_law_entry : Addr
  d_law_entry : FuncData
  F_law_entry : Fun K "_law_entry" "_law_entry" s_law_entry a_law_entry d_law_entry
  b_law_entry : Binds K d_law_entry ["values", "method"] []
  g_law_entry : mg "_law_entry" = some (.ref a_law_entry)
  a_law_coding : Addr
  d_law_coding : FuncData
  F_law_coding : Fun K "_law_coding" "_law_coding" s_law_coding a_law_coding d_law_coding
  b_law_coding : Binds K d_law_coding ["values", "degree", "most_parts", "both_methods"] []
  g_law_coding : mg "_law_coding" = some (.ref a_law_coding)
  a_law_residuals : Addr
  d_law_residuals : FuncData
  F_law_residuals : Fun K "_law_residuals" "_law_residuals" s_law_residuals a_law_residuals d_law_residuals
  b_law_residuals : Binds K d_law_residuals ["cell", "count", "shape"] []
  g_law_residuals : mg "_law_residuals" = some (.ref a_law_residuals)
  a_law_entries : Addr
  d_law_entries : FuncData
  F_law_entries : Fun K "_law_entries" "_law_entries" s_law_entries a_law_entries d_law_entries
  b_law_entries : Binds K d_law_entries ["entries"] []
  g_law_entries : mg "_law_entries" = some (.ref a_law_entries)
  a_law : Addr
  d_law : FuncData
  F_law : Fun K "law" "law" s_law a_law d_law
  b_law : Binds K d_law ["script"] []
  g_law : mg "law" = some (.ref a_law)
  m_len : mg "len" = none
  m_max : mg "max" = none
  m_range : mg "range" = none
  m_min : mg "min" = none
  m_sum : mg "sum" = none
  m_zip : mg "zip" = none
  m_tuple : mg "tuple" = none
  m_isinstance : mg "isinstance" = none
  m_int : mg "int" = none
  m_bool : mg "bool" = none
  m_abs : mg "abs" = none
  m_all : mg "all" = none
  m_str : mg "str" = none
  m_list : mg "list" = none
  A_PARAMETERS : Addr
  c_PARAMETERS : mg "_PARAMETERS" = some (.ref A_PARAMETERS)
  s_PARAMETERS : ∀ H, SqT K H A_PARAMETERS [V.int 15, V.int 31]
  u_MOST_RAW_WIDTH : Value
  c_MOST_RAW_WIDTH : mg "_MOST_RAW_WIDTH" = some u_MOST_RAW_WIDTH
  r_MOST_RAW_WIDTH : RelV (.int (31)) u_MOST_RAW_WIDTH
  u_HEAD_BITS : Value
  c_HEAD_BITS : mg "_HEAD_BITS" = some u_HEAD_BITS
  r_HEAD_BITS : RelV (.int (6)) u_HEAD_BITS
section
variable {P : Program} {w : World} {K : PySem.W.Frag} {mg : Str → Option Value} {base : Heap}
/-! ### int(x), bits of a number -/
theorem Ev.is {σ : L2.St} {H : Hp} {te : TE} {x y : V} (h : Ev te σ H x) (e : x = y) : Ev te σ H y := e ▸ h
theorem ev_int1 {σ : L2.St} {H : Hp} {te : TE} {i : Int} (h : Ev te σ H (.int i)) : Ev (tCB (fun xs H Q => (∃ i, xs = [V.int i] ∧ Q (V.int i) H) ∨ ∃ k, xs = [V.bl k] ∧ Q (V.int (if k = true then 1 else 0)) H) (tCons te tNil)) σ H (.int i) :=
  ev_cb (ea_cons h ea_nil) fun H1 _ Q q => .inl ⟨i, rfl, q H1 (Ex.refl H1)⟩
theorem q_augR {σ : L2.St} {H : Hp} {te : TE} {D : Ends} {tz : TS} {i : Nat} {g : Int → Int → V} {a b : Int} (h1 : σ[i]? = some (some (.int a))) (h : Ev te σ H (.int b)) (k : ∀ H1, Ex H H1 → tz D (σ.set i (some (g a b))) H1) : tSeq (tAug i te (rI0 g)) tz D σ H :=
  ⟨_, h1, h H (Ex.refl H) _ fun H1 e => ⟨a, b, rfl, rfl, k H1 e⟩⟩
theorem s_augR {σ : L2.St} {H : Hp} {te : TE} {D : Ends} {i : Nat} {g : Int → Int → V} {a b : Int} (h1 : σ[i]? = some (some (.int a))) (h : Ev te σ H (.int b)) (k : ∀ H1, Ex H H1 → D.nx (σ.set i (some (g a b))) H1) : tAug i te (rI0 g) D σ H :=
  ⟨_, h1, h H (Ex.refl H) _ fun H1 e => ⟨a, b, rfl, rfl, k H1 e⟩⟩
theorem ev_atT {K : PySem.W.Frag} {σ : L2.St} {H : Hp} {tl ti : TE} {t : Addr} {xs : List V} {n : Int} {v : V} (h : Ev tl σ H (.ref t)) (hT : SqT K H t xs) (hi : Ev ti σ H (.int n)) (ha : atI xs n = some v) : Ev (tOp (rIxT K) tl ti) σ H v := fun H1 e Q q =>
  h H1 e _ fun H2 e2 => hi H2 (e.trans e2) _ fun H3 e3 => ⟨t, xs, n, v, rfl, rfl, ex_t ((e.trans e2).trans e3) hT, ha, q H3 (e2.trans e3)⟩
local macro_rules | `(tactic| walk_at "side") => `(tactic| first
  | omega
  | (show CDivW _ _; exact ⟨by omega, by decide⟩)
  | (show CDivW _ _; exact wide_div (b := 80) (by omega) (by omega) (by decide) (by decide)))
local macro_rules | `(tactic| walk_at "evown") => `(tactic| (refine' ev_int1 ?h1; (case h1 => walk_at "ev")))
/-- numbers from 0 on, as such -/
def cs (ds : List Nat) : List Int := ds.map fun d : Nat => (d : Int)
theorem cs_of {ns : List Int} {b : Int} (h : ∀ n ∈ ns, 0 ≤ n ∧ n < b) : ∃ ds : List Nat, ns = cs ds ∧ ds.length = ns.length ∧ ∀ d ∈ ds, (d : Int) < b := by
  refine ⟨ns.map Int.toNat, ?_, List.length_map .., fun d hd => ?_⟩
  · unfold cs
    rw [List.map_map]
    conv => lhs; rw [← List.map_id ns]
    refine List.map_congr_left fun n hn => ?_
    have := (h n hn).1
    show n = ((n.toNat : Nat) : Int)
    omega
  · obtain ⟨n, hn, rfl⟩ := List.mem_map.mp hd
    have := h n hn
    omega
theorem cs_len (ds : List Nat) : (cs ds).length = ds.length := List.length_map ..
theorem cs_at {ds : List Nat} {i : Nat} {d : Nat} (h : ds[i]? = some d) : (cs ds)[i]? = some (d : Int) := by unfold cs; rw [List.getElem?_map, h]; rfl
theorem cs_take (ds : List Nat) (i : Nat) : (cs ds).take i = cs (ds.take i) := by unfold cs; rw [List.map_take]
theorem cs_drop (ds : List Nat) (i : Nat) : (cs ds).drop i = cs (ds.drop i) := by unfold cs; rw [List.map_drop]
theorem cs_append (ds es : List Nat) : cs (ds ++ es) = cs ds ++ cs es := List.map_append ..

theorem ev_all {σ : L2.St} {H : Hp} {te : TE} {bs : List Bool} {b : Bool} (h : EvS K te σ H (bs.map V.bl)) (hb : bs.all id = b) : Ev (tCB (rAll K) (tCons te tNil)) σ H (.bl b) := fun H1 e Q q => h H1 e _ fun p H2 e2 hp => ⟨p, bs, rfl, hp, by rw [hb]; exact q H2 e2⟩

def sp_cell (K : PySem.W.Frag) : Sp := fun vs H Q _ => ∃ (a : Addr) (ns : List Int) (k : Int), vs = [.ref a, .int k] ∧ SqL K H a (ns.map V.int) ∧ 0 ≤ k ∧ RetV (.int (cellI ns k)) H Q
theorem ok_law_cell (T : TX K mg) : FnOk P w K mg base CX0 1 T.a_law_cell T.d_law_cell ["script", "k"] (sp_cell K) := by
  refine T.F_law_cell.ok sc_law_cell (fun vs H Q E h => by obtain ⟨a, ns, k, rfl, _⟩ := h; rfl) (fun cdv A outer s H vs Q E hr h => ?_)
  obtain ⟨a, ns, k, rfl, hS, hk, q⟩ := h
  refine ⟨_, (pss_cons (ps_if (pt_cmpR op_lt (pv 1) (pe_callB (r := rLenS K) call_len_seq (by rfl) T.m_len PySem.boot_len (pa_cons (pv 0) pa_nil)) (nomark _)) (pss_one (ps_ret (pe_ix (r := rIxL K) ix_list (pv 0) (pv 1) (fun _ _ => rfl)))) pss_nil)
      (pss_one (ps_ret pe_int))), ?_⟩
  have hl := (ev_lenS (K := K) (Ev.s (te := tVar 0) (σ := start ["script", "k"] [.ref a, .int k]) (ev_var rfl) hS))
  refine q_when (et_test (ev_I0 (ev_var rfl) hl)) ?_ ?_
  · intro hb H1 e1
    have hb : k < ns.length := by
      have := of_decide_eq_true hb
      rwa [List.length_map] at this
    refine s_ret (v := .int (cellI ns k)) (ev_ixS (i := 0) (n := k) (Ev.s (ev_var rfl) (ex_l e1 hS)) (ev_var rfl) ?_) fun H2 e2 => q H2 (e1.trans e2)
    exact at_of (j := k.toNat) (by omega) (at_int (cellI_in hk hb))
  · intro hb H1 e1
    have hb : ¬ k < ns.length := by
      have := of_decide_eq_false hb
      rwa [List.length_map] at this
    walk_at "ret"
    intro H2 e2
    exact ret_eq q (e1.trans e2) (by rw [cellI_out hb])
theorem ev_cell {σ : L2.St} {H : Hp} {ta tk : TE} {E : XK} {ns : List Int} {k : Int} {a : Addr} (ha : Ev ta σ H (.ref a)) (hS : SqL K H a (ns.map V.int)) (hk : Ev tk σ H (.int k)) (h0 : 0 ≤ k) : Ev (tCall (sp_cell K) [] E (tCons ta (tCons tk tNil))) σ H (.int (cellI ns k)) :=
  ev_call (ea_cons ha (ea_cons hk ea_nil)) fun H1 e Q q _ => ⟨a, ns, k, rfl, ex_l e hS, h0, q⟩
local macro_rules | `(tactic| walk_at "evown") => `(tactic| (refine' ev_cell ?h1 ?h2 ?h3 ?h4; (case h1 => exact ev_var rfl); (case h2 => walk_at "sq"); (case h3 => walk_at "ev"); (case h4 => walk_at "side")))

def foldI (n : Int) : Int := if n < 0 then -2 * n - 1 else 2 * n
def unfoldI (u : Int) : Int := if u % 2 = 0 then u / 2 else -(u / 2) - 1
theorem foldI_inj {a b : Int} (h : foldI a = foldI b) : a = b := by
  unfold foldI at h
  split at h <;> split at h <;> omega
theorem unfold_fold (n : Int) : unfoldI (foldI n) = n := by
  unfold unfoldI foldI
  split <;> split <;> omega
theorem fold_unfold {u : Int} (h : 0 ≤ u) : foldI (unfoldI u) = u := by
  unfold unfoldI foldI
  split <;> split <;> omega
def sp_fold : Sp := fun vs H Q _ => ∃ n : Int, vs = [.int n] ∧ RetV (.int (foldI n)) H Q
theorem ok_fold (T : TX K mg) : FnOk P w K mg base CX0 1 T.a_fold T.d_fold ["n"] sp_fold := by
  refine T.F_fold.ok sc_fold (fun vs H Q E h => by obtain ⟨n, rfl, _⟩ := h; rfl) (fun cdv A outer s H vs Q E hr h => ?_)
  obtain ⟨n, rfl, k⟩ := h
  refine ⟨_, (pss_cons (ps_if (pt_cmpR op_lt (pv 0) pe_int (nomark _)) (pss_one (ps_ret (pe_op op_sub (pe_op op_mul (pe_un un_neg pe_int) (pv 0)) pe_int))) pss_nil)
      (pss_one (ps_ret (pe_op op_mul pe_int (pv 0))))), ?_⟩
  walk_at "when"
  · intro hb H1 e1
    walk_at "ret"
    intro H2 e2
    refine ret_eq k (e1.trans e2) ?_
    have hb : n < 0 := of_decide_eq_true hb
    unfold foldI
    rw [if_pos hb]
  · intro hb H1 e1
    walk_at "ret"
    intro H2 e2
    refine ret_eq k (e1.trans e2) ?_
    have hb : ¬ n < 0 := of_decide_eq_false hb
    unfold foldI
    rw [if_neg hb]
theorem ev_fold {σ : L2.St} {H : Hp} {te : TE} {E : XK} {n : Int} (h : Ev te σ H (.int n)) : Ev (tCall sp_fold [] E (tCons te tNil)) σ H (.int (foldI n)) := ev_call (ea_cons h ea_nil) fun H1 _ Q q _ => ⟨n, rfl, q⟩

/-! ### raw widths, rice bits -/
theorem p2c (j : Nat) : ((2 : Int) ^ j) = ((2 ^ j : Nat) : Int) := by rw [Int.natCast_pow]; rfl
theorem p2pos (j : Nat) : (0 : Int) < 2 ^ j := Int.pow_pos (by decide)
theorem foldI_nn (n : Int) : 0 ≤ foldI n := by unfold foldI; split <;> omega
theorem maxI_nn {us : List Int} (h : ∀ u ∈ us, 0 ≤ u) : 0 ≤ maxI 0 us ∧ (maxI 0 us = 0 ∨ maxI 0 us ∈ us) ∧ ∀ u ∈ us, u ≤ maxI 0 us := by
  cases us with
  | nil => exact ⟨Int.le_refl _, .inl rfl, fun u hu => by cases hu⟩
  | cons x r =>
    obtain ⟨h1, h2, h3⟩ := foldl_max r x
    have hx := h x (List.mem_cons_self ..)
    refine ⟨Int.le_trans hx h2, .inr ?_, fun u hu => ?_⟩
    · rcases h1 with e | e
      · show r.foldl max x ∈ x :: r
        rw [e]
        exact List.mem_cons_self ..
      · exact List.mem_cons_of_mem _ e
    · rcases List.mem_cons.mp hu with rfl | hu
      · exact h2
      · exact h3 u hu
theorem maxI_lt {us : List Int} {B : Int} (h : ∀ u ∈ us, 0 ≤ u) (hB : 0 < B) : maxI 0 us < B ↔ ∀ u ∈ us, u < B := by
  obtain ⟨h0, h1, h2⟩ := maxI_nn h
  refine ⟨fun hl u hu => Int.lt_of_le_of_lt (h2 u hu) hl, fun hl => ?_⟩
  rcases h1 with e | e
  · rw [e]
    exact hB
  · exact hl _ e
theorem bits_is {m : Int} {i : Nat} (h0 : 0 ≤ m) (h1 : m < 2 ^ i) (h2 : ∀ j, j < i → (2 : Int) ^ j ≤ m) : Builtin.Int.intBits m = i := by
  rw [p2c] at h1
  unfold Builtin.Int.intBits
  split
  · rename_i hz
    have hz : m = 0 := by simpa using hz
    cases i with
    | zero => rfl
    | succ i =>
      have := h2 0 (by omega)
      have e : (2 : Int) ^ 0 = 1 := rfl
      omega
  · rename_i hz
    have hz : m ≠ 0 := fun e => hz (by simp [e])
    cases i with
    | zero =>
      have e : ((2 ^ 0 : Nat) : Int) = 1 := rfl
      omega
    | succ i =>
      have a := h2 i (by omega)
      rw [p2c] at a
      have lo := (Nat.le_log2 (n := m.natAbs) (k := i) (by omega)).mpr (by omega)
      have hi := (Nat.log2_lt (n := m.natAbs) (k := i + 1) (by omega)).mpr (by omega)
      omega
theorem bits_lt {m : Int} (h0 : 0 ≤ m) (j : Nat) : m < 2 ^ j ↔ Builtin.Int.intBits m ≤ j := by
  rw [p2c]
  unfold Builtin.Int.intBits
  have hp := Nat.two_pow_pos j
  split
  · rename_i hz
    have hz : m = 0 := by simpa using hz
    omega
  · rename_i hz
    have hz : m ≠ 0 := fun e => hz (by simp [e])
    have hl := Nat.log2_lt (n := m.natAbs) (k := j) (by omega)
    omega
def widI (ns : List Int) : Nat := Builtin.Int.intBits (maxI 0 (ns.map foldI))
theorem folds_nn (ns : List Int) : ∀ u ∈ ns.map foldI, 0 ≤ u := fun u hu => by
  obtain ⟨n, _, rfl⟩ := List.mem_map.mp hu
  exact foldI_nn n
theorem widI_le {ns : List Int} {j : Nat} : widI ns ≤ j ↔ ∀ n ∈ ns, foldI n < 2 ^ j := by
  unfold widI
  rw [← bits_lt (maxI_nn (folds_nn ns)).1 j, maxI_lt (folds_nn ns) (p2pos j)]
  exact ⟨fun h n hn => h _ (List.mem_map_of_mem hn), fun h u hu => by obtain ⟨n, hn, rfl⟩ := List.mem_map.mp hu; exact h n hn⟩
def sp_width (K : PySem.W.Frag) : Sp := fun vs H Q _ => ∃ (a : Addr) (us : List Int), vs = [.ref a] ∧ SqL K H a (us.map V.int) ∧ RetV (.int ((Builtin.Int.intBits (maxI 0 us) : Nat) : Int)) H Q
theorem ok_width (T : TX K mg) : FnOk P w K mg base CX0 1 T.a_width T.d_width ["folded"] (sp_width K) := by
  refine T.F_width.ok sc_width (fun vs H Q E h => by obtain ⟨a, us, rfl, _⟩ := h; rfl) (fun cdv A outer s H vs Q E hr h => ?_)
  obtain ⟨a, us, rfl, hS, k⟩ := h
  refine ⟨_, (pss_one (ps_ret (pe_bits (pe_callBK (cr_maxDef (hu64 hr)) (by rfl) T.m_max PyProof.Rows.boot_max (pa_cons (pv 0) pa_nil) (pk_cons pe_int pk_nil))))), ?_⟩
  exact s_ret (ev_bits (ev_maxD (Ev.s (ev_var rfl) hS) ev_c)) fun H1 e1 => k H1 e1
theorem ev_width {σ : L2.St} {H : Hp} {te : TE} {E : XK} {us : List Int} (h : EvS K te σ H (us.map V.int)) : Ev (tCall (sp_width K) [] E (tCons te tNil)) σ H (.int ((Builtin.Int.intBits (maxI 0 us) : Nat) : Int)) := fun H1 e Q q =>
  h H1 e _ fun p H2 e2 hp => ⟨p, us, rfl, hp, fun H3 e3 => q H3 (e2.trans e3)⟩

def sp_isint : Sp := fun vs H Q _ => ∃ n : Int, vs = [.int n] ∧ RetV (.bl true) H Q
theorem ok_law_integer (T : TX K mg) : FnOk P w K mg base CX0 1 T.a_law_integer T.d_law_integer ["value"] sp_isint := by
  refine T.F_law_integer.ok sc_law_integer (fun vs H Q E h => by obtain ⟨n, rfl, _⟩ := h; rfl) (fun cdv A outer s H vs Q E hr h => ?_)
  obtain ⟨n, rfl, k⟩ := h
  refine ⟨_, (pss_one (ps_ret (pe_and (pe_callB (r := rIsi K) call_isi (by rfl) T.m_isinstance PyProof.Rows.boot_isinstance (pa_cons (pv 0) (pa_cons (pe_bltn (v := V.ty "int") (by rfl) T.m_int PyProof.Rows.boot_int rfl) pa_nil))) (pe_one (pe_not (pe_callB (r := rIsi K) call_isi (by rfl) T.m_isinstance PyProof.Rows.boot_isinstance (pa_cons (pv 0) (pa_cons (pe_bltn (v := V.ty "bool") (by rfl) T.m_bool PyProof.Rows.boot_bool rfl) pa_nil)))))))), ?_⟩
  walk_at "ret"
  intro H2 e2
  exact ret_eq k e2 rfl
theorem ev_isint {σ : L2.St} {H : Hp} {te : TE} {E : XK} {n : Int} (h : Ev te σ H (.int n)) : Ev (tCall sp_isint [] E (tCons te tNil)) σ H (.bl true) := ev_call (ea_cons h ea_nil) fun H1 _ Q q _ => ⟨n, rfl, q⟩

/-! ### abs, int of a bool, the law's rows -/
theorem ev_abs {σ : L2.St} {H : Hp} {te : TE} {i : Int} (h : Ev te σ H (.int i)) : Ev (tCB (fun xs H Q => ∃ i, xs = [V.int i] ∧ Q (V.int (if i < 0 then -i else i)) H) (tCons te tNil)) σ H (.int (if i < 0 then -i else i)) :=
  ev_cb (ea_cons h ea_nil) fun H1 _ Q q => ⟨i, rfl, q H1 (Ex.refl H1)⟩
theorem ev_intB {σ : L2.St} {H : Hp} {te : TE} {b : Bool} (h : Ev te σ H (.bl b)) : Ev (tCB (fun xs H Q => (∃ i, xs = [V.int i] ∧ Q (V.int i) H) ∨ ∃ k, xs = [V.bl k] ∧ Q (V.int (if k = true then 1 else 0)) H) (tCons te tNil)) σ H (.int (if b = true then 1 else 0)) :=
  ev_cb (ea_cons h ea_nil) fun H1 _ Q q => .inr ⟨b, rfl, q H1 (Ex.refl H1)⟩
def sp_lrow : Sp := fun vs H Q _ => ∃ (c : Int) (n : Nat) (b : Int), vs = [.int c, .int (n : Int), .int b] ∧ n ≤ 1000 ∧ 0 < b ∧ b ≤ 2 ^ 50 ∧ ∀ p (ns : List Int) H', H p = none → Ex H H' → H' p = some (.lst (ns.map V.int)) → ns.length = n → (∀ x ∈ ns, 0 ≤ x ∧ x < b) → Q (.ref p) H'
theorem ok_law_row (T : TX K mg) : FnOk P w K mg base CX0 1 T.a_law_row T.d_law_row ["cell", "count", "bound"] sp_lrow := by
  refine T.F_law_row.ok sc_law_row (fun vs H Q E h => by obtain ⟨c, n, b, rfl, _⟩ := h; rfl) (fun cdv A outer s0 H vs Q E hr h => ?_)
  obtain ⟨c, n, b, rfl, hn, hb0, hb1, k⟩ := h
  refine ⟨_, (pss_cons (ps_set (i := 3) sc_law_row.nd rfl (Or.inl rfl) (pe_callB call_abs (by rfl) T.m_abs PyProof.Rows.boot_abs (pa_cons (pe_callTy call_int1 (by rfl) T.m_int PyProof.Rows.boot_int (pa_cons (pv 0) pa_nil)) pa_nil)))
      (pss_cons (ps_set (i := 4) sc_law_row.nd rfl (Or.inl rfl) (pe_op op_add (pe_op op_mod (pe_callTy call_int1 (by rfl) T.m_int PyProof.Rows.boot_int (pa_cons (pv 0) pa_nil)) pe_int) pe_int))
      (pss_cons (ps_set (i := 5) sc_law_row.nd rfl (Or.inl rfl) (pe_lst pa_nil))
      (pss_cons (ps_for PassesOwn.never rfl (pi_range1 (by rfl) T.m_range (pa_cons (pv 1) pa_nil)) (pg_name (i := 6) sc_law_row.nd rfl (Or.inl rfl)) (pss_one (ps_if (pt_cmpR op_ge (pv 3) (pv 2) (nomark _)) (pss_cons (ps_expr (pe_bm PySem.F.plainAttrs_list PySem.F.slot_list_append PySem.F.type_list_append mt_append (pv 5) (pa_cons (pe_op op_mod (pe_callTy call_int1 (by rfl) T.m_int PyProof.Rows.boot_int (pa_cons (pv 3) pa_nil)) (pv 2)) pa_nil)))
          (pss_one (ps_set (i := 3) sc_law_row.nd rfl (Or.inl rfl) (pe_op op_fdivW (pv 3) (pv 2))))) (pss_cons (ps_set (i := 4) sc_law_row.nd rfl (Or.inl rfl) (pe_op op_mod (pe_callTy call_int1 (by rfl) T.m_int PyProof.Rows.boot_int (pa_cons (pe_op op_add (pe_op op_add (pe_op op_mul (pv 4) pe_int) (pe_op op_mul pe_int (pv 6))) pe_int) pa_nil)) pe_int))
          (pss_one (ps_expr (pe_bm PySem.F.plainAttrs_list PySem.F.slot_list_append PySem.F.type_list_append mt_append (pv 5) (pa_cons (pe_op op_mod (pe_callTy call_int1 (by rfl) T.m_int PyProof.Rows.boot_int (pa_cons (pe_op op_fdivW (pe_op op_mul (pv 4) pe_int) pe_int) pa_nil)) (pv 2)) pa_nil))))))))
      (pss_one (ps_ret (pv 5))))))), ?_⟩
  have hlog : b.natAbs.log2 < 9000 := by
    have : b.natAbs < 2 ^ 51 := by omega
    have := (Nat.log2_lt (n := b.natAbs) (k := 51) (by omega)).mpr this
    omega
  refine q_asg (ev_abs (ev_int1 (ev_var rfl))) fun H1 e1 => ?_
  refine q_asg (ev_I0 (ev_I (ev_int1 (ev_var rfl)) ev_c (by decide)) ev_c) fun H2 e2 => ?_
  refine q_asgL (xs := []) (el_lst ea_nil (by decide)) fun p H3 hp3 e3 g3 => ?_
  have hp := fresh_back (e1.trans e2) hp3
  have e13 := (e1.trans e2).trans e3
  generalize (if c < 0 then -c else c) = re0
  generalize c % 1000003 + 1 = mx0
  refine q_forR1 (n := (n : Int)) (ea_cons (ev_var rfl) ea_nil) (by omega) (fun i σ' H' => ∃ (re mx : Int) (ns : List Int) (z6 : Option V), σ' = [some (.int c), some (.int (n : Int)), some (.int b), some (.int re), some (.int mx), some (.ref p), z6] ∧ Ex H H' ∧ H' p = some (.lst (ns.map V.int)) ∧ ns.length = i ∧ (∀ x ∈ ns, 0 ≤ x ∧ x < b)) (fun H4 e4 => ⟨re0, mx0, [], none, rfl, e13.trans e4, e4 _ _ g3, rfl, fun x hx => by cases hx⟩) ?_ ?_
  · rintro i σ' H4 hi ⟨re, mx, ns, z6, rfl, ex, gp, hnl, hns⟩
    have snoc : ∀ x : Int, 0 ≤ x → x < b → ∀ y ∈ ns ++ [x], 0 ≤ y ∧ y < b := fun x h0 h1 y hy => by
      rcases List.mem_append.mp hy with h | h
      · exact hns y h
      · rw [List.mem_singleton.mp h]
        exact ⟨h0, h1⟩
    have big : ns.length < 100000 := by omega
    refine s_if (et_test (ev_I0 (ev_var rfl) (ev_var rfl))) (fun _ H5 e5 => ?_) (fun _ H5 e5 => ?_)
    · refine q_app (v := .int (re % b)) (e5 _ _ gp) (ev_var rfl) (ev_I (ev_int1 (ev_var rfl)) (ev_var rfl) hb0) (by rw [List.length_map]; exact big) fun H6 e6 => ?_
      refine s_asg (v := .int (re / b)) (ev_I (ev_var rfl) (ev_var rfl) ⟨hb0, hlog⟩) fun H7 e7 => ⟨re / b, mx, ns ++ [re % b], _, rfl, (Ex.mut (ex.trans (e5.trans e6)) hp).trans e7, e7 _ _ (by rw [upd_same, List.map_append]; rfl), by rw [List.length_append, hnl]; rfl, snoc _ (Int.emod_nonneg _ (by omega)) (Int.emod_lt_of_pos _ hb0)⟩
    · obtain ⟨mx1, hmx⟩ : ∃ mx1, (mx * 48271 + 11 * (i : Int) + 7) % 2147483647 = mx1 := ⟨_, rfl⟩
      refine q_asg (v := .int mx1) (Ev.is (ev_I (ev_int1 (ev_I0 (ev_I0 (ev_I (ev_var rfl) ev_c (.inr (by decide))) (ev_I ev_c (ev_var rfl) (.inl (by decide)))) ev_c)) ev_c (by decide)) (congrArg V.int hmx)) fun H6 e6 => ?_
      refine s_app (v := .int ((mx1 * 2862933555777941757 / 1024) % b)) ((e5.trans e6) _ _ gp) (ev_var rfl) (ev_I (ev_int1 (ev_I (ev_I (ev_var rfl) ev_c (.inr (by decide))) ev_c ⟨by decide, by decide⟩)) (ev_var rfl) hb0) (by rw [List.length_map]; exact big) fun H7 e7 => ⟨re, mx1, ns ++ [(mx1 * 2862933555777941757 / 1024) % b], _, rfl, Ex.mut (ex.trans ((e5.trans e6).trans e7)) hp, by rw [upd_same, List.map_append]; rfl, by rw [List.length_append, hnl]; rfl, snoc _ (Int.emod_nonneg _ (by omega)) (Int.emod_lt_of_pos _ hb0)⟩
  · rintro σ' H4 ⟨re, mx, ns, z6, rfl, ex, gp, hnl, hns⟩
    rw [Int.toNat_natCast] at hnl
    exact s_ret (v := .ref p) (ev_var rfl) fun H5 e5 => k p ns H5 hp (ex.trans e5) (e5 _ _ gp) hnl hns

/-! ### the law's width -/
theorem inside_iff (v : Int) (w : Nat) : (decide (-((1 * 2 ^ w) / 2) ≤ v) && decide (v < if (1 * 2 ^ w / 2 : Int) > 1 then 1 * 2 ^ w / 2 else 1)) = decide (foldI v < 2 ^ w) := by
  rw [Bool.eq_iff_iff, Bool.and_eq_true, decide_eq_true_iff, decide_eq_true_iff, decide_eq_true_iff, Int.one_mul]
  cases w with
  | zero =>
    show (-((1 : Int) / 2) ≤ v ∧ v < if ((1 : Int) / 2) > 1 then _ else _) ↔ foldI v < 1
    unfold foldI
    rw [if_neg (by decide)]
    split <;> omega
  | succ w =>
    have hp := p2pos w
    rw [Int.pow_succ]
    unfold foldI
    split <;> split <;> omega
def sp_lwidth (K : PySem.W.Frag) : Sp := fun vs H Q _ => ∃ (a : Addr) (ns : List Int), vs = [.ref a] ∧ SqL K H a (ns.map V.int) ∧ ns.length ≤ 40000 ∧ widI ns ≤ 33 ∧ RetV (.int (widI ns : Int)) H Q
theorem ok_law_width (T : TX K mg) : FnOk P w K mg base CX0 1 T.a_law_width T.d_law_width ["values"] (sp_lwidth K) := by
  refine T.F_law_width.ok sc_law_width (fun vs H Q E h => by obtain ⟨a, ns, rfl, _⟩ := h; rfl) (fun cdv A outer s H vs Q E hr h => ?_)
  obtain ⟨a, ns, rfl, hS, hl, hw, k⟩ := h
  refine ⟨_, (pss_cons (ps_for PassesOwn.never rfl (pi_range1 (by rfl) T.m_range (pa_cons pe_int pa_nil)) (pg_name (i := 1) sc_law_width.nd rfl (Or.inl rfl)) (pss_cons (ps_set (i := 2) sc_law_width.nd rfl (Or.inr rfl) (pe_op op_fdiv (pe_op op_shl pe_int (pv 1)) pe_int))
        (pss_one (ps_if (pt_val (pe_callB (r := rAll K) (cr_all rfl) (by rfl) T.m_all PyProof.Rows.boot_all (pa_cons (pe_lc (own := [("value", 3)]) (g := gName 3) (tt := tYes) rfl sc_law_width.nd (pi_list (pv 0)) (blkOk_by (N := ["values", "width", "half", "value"]) (sc := defScope s_law_width) (by decide +kernel)) (fun _ _ _ _ _ => pg_name (i := 3) sc_law_width.nd rfl (Or.inl rfl)) (fun _ _ _ _ _ => pts_nil) (fun _ _ _ _ _ => (pe_chain op_le op_lt (pe_un un_neg (pv 2)) (pv 3) (pe_callB (call_max2 rfl) (by rfl) T.m_max PyProof.Rows.boot_max (pa_cons pe_int (pa_cons (pv 2) pa_nil)))))) pa_nil))) (pss_one (ps_ret (pv 1))) pss_nil))))
      (pss_one (ps_ret pe_int))), ?_⟩
  refine q_forR1 (n := 34) (ea_cons ev_c ea_nil) (by omega) (fun i σ' H' => ∃ z1 z2, σ' = [some (.ref a), z1, z2, none] ∧ Ex H H' ∧ i ≤ widI ns) (fun H1 e1 => ⟨none, none, rfl, e1, Nat.zero_le _⟩) ?_ ?_
  · rintro i σ' H' hi ⟨z1, z2, rfl, ex, hm⟩
    have hi : i < 34 := by omega
    refine q_asg (ev_I (ev_I ev_c (ev_var rfl) (show CPow 1 (i : Int) from ⟨by omega, by omega, by decide⟩)) ev_c ⟨by decide, by decide⟩) fun H1 e1 => ?_
    rw [Int.toNat_natCast]
    refine s_when (b := decide (widI ns ≤ i)) (et_is (et_B (ev_all (bs := ns.map fun v => decide (foldI v < 2 ^ i)) (b := decide (widI ns ≤ i)) (EvR.s (EvL.r (EvL.is (xs := ns.map fun v => V.bl (decide (foldI v < 2 ^ i))) (el_lcS _ (Ev.s (ev_var rfl) (ex_l (ex.trans e1) hS)) (by rw [List.length_map, List.length_map]) (by rw [List.length_map]; omega) (fun _ => rfl) fun j x H2 e2 hx => ?_) (by rw [List.map_map]; rfl)))) ?_)) rfl) (fun hb H2 e2 => ?_) (fun hb H2 e2 => ?_)
    · obtain ⟨n, hn, hj, rfl⟩ := int_at hx
      exact ⟨_, by rw [List.getElem?_map, hn]; rfl, Ev.is (ev_chain (ev_negI (ev_var rfl)) (ev_var rfl) (ev_max2 ev_c (ev_var rfl))) (congrArg V.bl (inside_iff n i))⟩
    · rw [Bool.eq_iff_iff, decide_eq_true_iff, List.all_eq_true, widI_le]
      refine ⟨fun h n hn => ?_, fun h x hx => ?_⟩
      · have := h _ (List.mem_map_of_mem (f := fun v => decide (foldI v < 2 ^ i)) hn)
        exact of_decide_eq_true this
      · obtain ⟨n, hn, rfl⟩ := List.mem_map.mp hx
        exact decide_eq_true (h n hn)
    · have hb := of_decide_eq_true hb
      have : (i : Int) = (widI ns : Int) := by omega
      exact s_ret (v := .int (widI ns : Int)) (Ev.is (ev_var rfl) (congrArg V.int this)) fun H3 e3 => k H3 ((ex.trans e1).trans (e2.trans e3))
    · have hb := of_decide_eq_false hb
      exact ⟨_, _, rfl, (ex.trans e1).trans e2, by omega⟩
  · rintro σ' H' ⟨z1, z2, rfl, ex, hm⟩
    have hm : 34 ≤ widI ns := hm
    omega
theorem ev_lwidth {σ : L2.St} {H : Hp} {te : TE} {E : XK} {ns : List Int} (h : EvS K te σ H (ns.map V.int)) (hl : ns.length ≤ 40000) (hw : widI ns ≤ 33) : Ev (tCall (sp_lwidth K) [] E (tCons te tNil)) σ H (.int (widI ns : Int)) := fun H1 e Q q =>
  h H1 e _ fun p H2 e2 hp => ⟨p, ns, rfl, hp, hl, hw, fun H3 e3 => q H3 (e2.trans e3)⟩

theorem ev_go {te : TE} {σ : L2.St} {H : Hp} {v : V} {Q : VK} (h : Ev te σ H v) (k : ∀ H2, Ex H H2 → Q v H2) : te σ H Q := h H (Ex.refl H) Q k
theorem et_go {t : TT} {σ : L2.St} {H : Hp} {b : Bool} {Q : Bool → Hp → Prop} (h : EvT t σ H b) (k : ∀ H2, Ex H H2 → Q b H2) : t σ H Q := h H (Ex.refl H) Q k
theorem el_go {te : TE} {σ : L2.St} {H : Hp} {xs : List V} {Q : VK} (h : EvL te σ H xs) (k : ∀ p H2, H p = none → Ex H H2 → H2 p = some (.lst xs) → Q (.ref p) H2) : te σ H Q := h H (Ex.refl H) Q k
theorem eu_go {te : TE} {σ : L2.St} {H : Hp} {xs : List V} {Q : VK} (h : EvU te σ H xs) (k : ∀ p H2, H p = none → Ex H H2 → H2 p = some (.tup xs) → Q (.ref p) H2) : te σ H Q := h H (Ex.refl H) Q k
theorem ea_go {t : TA} {σ : L2.St} {H : Hp} {vs : List V} {Q : List V → Hp → Prop} (h : EvA t σ H vs) (k : ∀ H2, Ex H H2 → Q vs H2) : t σ H Q := h H (Ex.refl H) Q k

/-! ### the law's residuals -/
def sp_lres : Sp := fun vs H Q _ => ∃ (c sh : Int) (n : Nat), vs = [.int c, .int (n : Int), .int sh] ∧ n ≤ 1000 ∧ 0 ≤ sh ∧ ∀ p (ms : List Int) H', H p = none → Ex H H' → H' p = some (.lst (ms.map V.int)) → ms.length = n → (∀ v ∈ ms, -(2 ^ 31) < v ∧ v < 2 ^ 31) → Q (.ref p) H'
theorem ok_law_residuals (T : TX K mg) : FnOk P w K mg base CX0 2 T.a_law_residuals T.d_law_residuals ["cell", "count", "shape"] sp_lres := by
  refine T.F_law_residuals.ok sc_law_residuals (fun vs H Q E h => by obtain ⟨c, sh, n, rfl, _⟩ := h; rfl) (fun cdv A outer s H vs Q E hr h => ?_)
  obtain ⟨c, sh, n, rfl, hn, hsh, k⟩ := h
  refine ⟨_, (pss_cons (ps_if (pt_cmpR op_eq (pv 2) pe_int (nomark _)) (pss_one (ps_ret (pe_op op_rep (pe_lst (pa_cons pe_int pa_nil)) (pv 1)))) pss_nil)
      (pss_cons (ps_set (i := 3) sc_law_residuals.nd rfl (Or.inr rfl) (pe_ix (r := rIxL K) ix_list (pe_lst (pa_cons pe_int (pa_cons pe_int (pa_cons pe_int pa_nil)))) (pe_op op_mod (pv 2) pe_int) (fun _ _ => rfl)))
      (pss_cons (ps_set (i := 4) sc_law_residuals.nd rfl (Or.inr rfl) (pe_lc (own := [("x", 6)]) (g := gName 6) (tt := tYes) rfl sc_law_residuals.nd (pi_list (pe_call (ok_law_row T) (hr.mono (by decide)) (by rfl) T.g_law_row T.F_law_row.kp T.b_law_row .nil pass0 (pa_cons (pv 0) (pa_cons (pv 1) (pa_cons (pv 3) pa_nil))))) (blkOk_by (N := ["cell", "count", "shape", "bound", "row", "k", "x"]) (sc := defScope s_law_residuals) (by decide +kernel)) (fun _ _ _ _ _ => pg_name (i := 6) sc_law_residuals.nd rfl (Or.inl rfl)) (fun _ _ _ _ _ => pts_nil) (fun _ _ _ _ _ => (pe_op op_sub (pv 6) (pe_op op_fdiv (pv 3) pe_int)))))
      (pss_cons (ps_if (pt_cmpR op_gt (pv 2) pe_int (nomark _)) (pss_one (ps_ret (pe_lc (own := [("k", 5)]) (g := gName 5) (tt := tYes) rfl sc_law_residuals.nd (pi_range1 (by rfl) T.m_range (pa_cons (pv 1) pa_nil)) (blkOk_by (N := ["cell", "count", "shape", "bound", "row", "k", "x"]) (sc := defScope s_law_residuals) (by decide +kernel)) (fun _ _ _ _ _ => pg_name (i := 5) sc_law_residuals.nd rfl (Or.inl rfl)) (fun _ _ _ _ _ => pts_nil) (fun _ _ _ _ _ => (pe_op op_mul (pe_ix (r := rIxL K) ix_list (pv 4) (pv 5) (fun _ _ => rfl)) (pe_callTy call_int1 (by rfl) T.m_int PyProof.Rows.boot_int (pa_cons (pe_cmpR op_eq (pe_op op_mod (pe_op op_fdiv (pv 5) pe_int) pe_int) pe_int (nomark _)) pa_nil))))))) pss_nil)
      (pss_cons (ps_if (pt_cmpR op_eq (pv 2) pe_int (nomark _)) (pss_one (ps_for PassesOwn.never rfl (pi_range1 (by rfl) T.m_range (pa_cons (pe_op op_fdiv (pv 1) pe_int) pa_nil)) (pg_name (i := 5) sc_law_residuals.nd rfl (Or.inl rfl)) (pss_one (ps_asg pe_int (pg_sub (pv 4) (pv 5) set_list))))) pss_nil)
      (pss_one (ps_ret (pv 4)))))))), ?_⟩
  refine q_when (et_test (ev_eq (ev_var rfl) ev_c rfl)) (fun hb H1 e1 => ?_) (fun hb H1 e1 => ?_)
  · refine s_retL (xs := (List.replicate n (0 : Int)).map V.int) (EvL.is (el_rep (xs := [V.int 0]) (k := (n : Int)) (EvL.r (el_lst (ea_cons ev_c ea_nil) (by decide))) (ev_var rfl) (by omega) (by rw [Int.toNat_natCast]; show 1 * n ≤ _; omega)) (by rw [Int.toNat_natCast, rep_one, List.map_replicate])) fun p H2 hp e2 g2 => ?_
    refine k p _ H2 (fresh_back e1 hp) (e1.trans e2) g2 List.length_replicate fun v hv => ?_
    have := (List.mem_replicate.mp hv).2
    omega
  obtain ⟨b, hb9, hb1⟩ : ∃ b : Int, atI [V.int 9, V.int 201, V.int 4294967295] (sh % 3) = some (V.int b) ∧ 1 ≤ b ∧ b ≤ 4294967295 := by
    have h3 : sh % 3 = 0 ∨ sh % 3 = 1 ∨ sh % 3 = 2 := by omega
    rcases h3 with e | e | e <;> rw [e]
    · exact ⟨9, rfl, by decide⟩
    · exact ⟨201, rfl, by decide⟩
    · exact ⟨4294967295, rfl, by decide⟩
  refine q_asg (ev_ixS (i := 0) (n := sh % 3) (EvR.s (EvL.r (el_lst (ea_cons ev_c (ea_cons ev_c (ea_cons ev_c ea_nil))) (by decide)))) (ev_I (ev_var rfl) ev_c (by decide)) hb9) fun H2 e2 => ?_
  refine q_asgLC (args := [.int c, .int (n : Int), .int b]) (ea_cons (ev_var rfl) (ea_cons (ev_var rfl) (ea_cons (ev_var rfl) ea_nil))) fun H3 e3 => ⟨c, n, b, rfl, hn, by omega, by omega, fun pr ds H4 hpr e4 g4 hdl hdb => ?_⟩
  have e14 := (e1.trans e2).trans (e3.trans e4)
  have hml : (ds.map fun x => x - b / 2).length = n := by rw [List.length_map, hdl]
  have hmb : ∀ v ∈ ds.map (fun x => x - b / 2), -(2 ^ 31) < v ∧ v < 2 ^ 31 := fun v hv => by
    obtain ⟨x, hx, rfl⟩ := List.mem_map.mp hv
    have := hdb x hx
    omega
  refine q_asgL (xs := (ds.map fun x => x - b / 2).map V.int) (el_lcS _ (Ev.s ev_c (sq_of g4)) (by rw [List.length_map, List.length_map, List.length_map]) (by rw [List.length_map, List.length_map]; omega) (fun _ => rfl) fun i x H7 e7 hx => ?_) fun ps H5 hps e5 g5 => ?_
  · obtain ⟨n, hn, hi, rfl⟩ := int_at hx
    exact ⟨_, at_int (n := n - b / 2) (by rw [List.getElem?_map, hn]; rfl), ev_I0 (ev_var rfl) (ev_I (ev_var rfl) ev_c ⟨by decide, by decide⟩)⟩
  have e15 := e14.trans e5
  have hpH := fresh_back e14 hps
  generalize (ds.map fun x => x - b / 2) = ms at *
  refine q_when (et_test (ev_I0 (ev_var rfl) ev_c)) (fun hb5 H6 e6 => ?_) (fun hb5 H50 e50 => ?_)
  · refine s_retL (xs := (((List.range n).zipWith (fun (k : Nat) x => x * (if decide (V.int ((k : Int) / 2 % 2) = V.int 1) = true then 1 else 0)) ms).map V.int)) (el_lcR _ (ea_cons (ev_var rfl) ea_nil) (by omega) (by rw [List.length_map, List.length_zipWith, List.length_range]; omega) (by rw [List.length_map, List.length_zipWith, List.length_range]; omega) (fun _ => rfl) fun i H7 e7 hi => ?_) fun p H7 hp e7 g7 => ?_
    · rw [List.length_map, List.length_zipWith, List.length_range] at hi
      obtain ⟨x, hx⟩ : ∃ x, ms[i]? = some x := ⟨_, List.getElem?_eq_getElem (by omega)⟩
      refine ⟨_, at_int (n := x * (if decide (V.int ((i : Int) / 2 % 2) = V.int 1) = true then 1 else 0)) (by rw [List.getElem?_zipWith, hx, List.getElem?_range (by omega)]), ev_I (ev_ixS (i := 0) (n := (i : Int)) (Ev.s (ev_var rfl) (sq_of ((e6.trans e7) _ _ g5))) (ev_var rfl) (at_of (j := i) rfl (at_int hx))) (ev_intB (ev_eq (ev_I (ev_I (ev_var rfl) ev_c ⟨by decide, by decide⟩) ev_c (by decide)) ev_c rfl)) (by show CMul _ _; unfold CMul; split <;> omega)⟩
    · refine k p _ H7 (fresh_back (e15.trans e6) hp) (e15.trans (e6.trans e7)) g7 (by rw [List.length_zipWith, List.length_range]; omega) fun v hv => ?_
      obtain ⟨i, hi, he⟩ := List.getElem_of_mem hv
      rw [List.getElem_zipWith] at he
      rw [List.length_zipWith] at hi
      have hm := hmb (ms[i]'(by omega)) (List.getElem_mem _)
      rw [← he]
      split <;> omega
  replace g5 := e50 _ _ g5
  replace e15 := e15.trans e50
  refine q_when (b := decide (sh = 4)) (et_is (et_test (ev_eq (ev_var rfl) ev_c rfl)) (by simp)) (fun hb4 H6 e6 => ?_) (fun hb4 H6 e6 => ?_)
  · refine s_forR1 (n := (n : Int) / 2) (ea_cons (ev_I (ev_var rfl) ev_c ⟨by decide, by decide⟩) ea_nil) (by omega) (fun i σ' H' => ∃ (z5 : Option V) (ms : List Int), σ' = [some (.int c), some (.int (n : Int)), some (.int sh), some (.int b), some (.ref ps), z5, none] ∧ Ex H H' ∧ H' ps = some (.lst (ms.map V.int)) ∧ ms.length = n ∧ ∀ v ∈ ms, -(2 ^ 31) < v ∧ v < 2 ^ 31) (fun H7 e7 => ⟨none, ms, rfl, e15.trans (e6.trans e7), (e6.trans e7) _ _ g5, hml, hmb⟩) ?_ ?_
    · rintro i σ' H' hi ⟨z5, xs, rfl, ex, gp, hl, hx⟩
      refine s_setL (j := i) (v := .int 0) gp ev_c (ev_var rfl) (ev_var rfl) (by rw [List.length_map]; omega) fun H7 e7 => ⟨_, xs.set i 0, rfl, Ex.mut (ex.trans e7) hpH, by rw [upd_same, List.map_set], by rw [List.length_set]; exact hl, fun v hv => ?_⟩
      rcases List.mem_or_eq_of_mem_set hv with h | h
      · exact hx v h
      · rw [h]
        decide
    · rintro σ' H' ⟨z5, xs, rfl, ex, gp, hl, hx⟩
      exact s_ret (v := .ref ps) (ev_var rfl) fun H7 e7 => k ps xs H7 hpH (ex.trans e7) (e7 _ _ gp) hl hx
  · exact s_ret (v := .ref ps) (ev_var rfl) fun H7 e7 => k ps ms H7 hpH (e15.trans (e6.trans e7)) ((e6.trans e7) _ _ g5) hml hmb

/-- a number of the module -/
theorem ev_relC {σ : L2.St} {H : Hp} {i : Int} {u : Value} (_ : RelV (.int i) u) : Ev (tC (.int i)) σ H (.int i) := ev_c

/-! ### tuples: their kind, their length, a comprehension over one -/
theorem ev_isiT {σ : L2.St} {H : Hp} {ta : TE} {a : Addr} {xs : List V} (ha : Ev ta σ H (.ref a)) (h : H a = some (.tup xs)) : Ev (tCB (rIsi K) (tCons ta (tCons (tC (.ty "tuple")) tNil))) σ H (.bl true) := ev_isi ha (isi_tup h) kit_tt
theorem ev_lenT {σ : L2.St} {H : Hp} {ta : TE} {a : Addr} {xs : List V} (ha : Ev ta σ H (.ref a)) (h : H a = some (.tup xs)) : Ev (tCB (rLenS K) (tCons ta tNil)) σ H (.int (xs.length : Int)) := fun H1 e Q q =>
  ha H1 e _ fun H2 e2 => ⟨a, xs, rfl, .inr (st_of ((e.trans e2) _ _ h)), q H2 e2⟩

def FrO (a : Addr) (H H' : Hp) : Prop := ∀ b o, b ≠ a → H b = some o → H' b = some o
theorem FrO.ex {a : Addr} {H H' : Hp} (e : Ex H H') : FrO a H H' := fun b o _ h => e b o h
theorem FrO.trans {a : Addr} {H H1 H2 : Hp} (x : FrO a H H1) (y : FrO a H1 H2) : FrO a H H2 := fun b o hb h => y b o hb (x b o hb h)
theorem FrO.upd {a : Addr} {H H' : Hp} {o : HO} (f : FrO a H H') : FrO a H (upd H' a o) := fun b u hb h => by rw [upd_ne hb]; exact f b u hb h
theorem FrO.after {a : Addr} {H0 G H' : Hp} (f : FrO a G H') (e : Ex H0 G) (hn : H0 a = none) : Ex H0 H' := fun b o hb => f b o (by rintro rfl; rw [hn] at hb; cases hb) (e b o hb)
theorem sq_keep {K : PySem.W.Frag} {H B H' : Hp} {p a : Addr} {xs : List V} {e1 : Ex H B} {hp : H p = none} (f : FrO p B H') (h : SqL K H a xs) : SqL K H' a xs := ex_l (FrO.after f e1 hp) h

def EvX (te : TE) (σ : L2.St) (H : Hp) (S : V → Hp → Prop) : Prop := ∀ H1, Ex H H1 → ∀ Q : VK, (∀ v H2, Ex H1 H2 → S v H2 → Q v H2) → te σ H1 Q

/-! ### the best entry -/
def sumI (ns : List Int) (k : Nat) : Int := (ns.map fun n => foldI n / 2 ^ k).sum
theorem sum_zero : ∀ {ns : List Int}, (∀ x ∈ ns, x = 0) → ns.sum = 0
  | [], _ => rfl
  | x :: r, h => by
    rw [List.sum_cons, h x (List.mem_cons_self ..), sum_zero fun y hy => h y (List.mem_cons_of_mem _ hy)]
    rfl
theorem sumI_zero {ns : List Int} {k : Nat} (h : widI ns ≤ k) : sumI ns k = 0 := by
  unfold sumI
  refine sum_zero fun x hx => ?_
  obtain ⟨n, hn, rfl⟩ := List.mem_map.mp hx
  have := widI_le.mp h n hn
  exact Int.ediv_eq_zero_of_lt (foldI_nn n) this
def sumsT (ns : List Int) (i : Nat) : List Int := (List.range 31).map fun k => if k < i then sumI ns k else 0
theorem sumsT_len (ns : List Int) (i : Nat) : (sumsT ns i).length = 31 := by unfold sumsT; rw [List.length_map, List.length_range]
theorem sumsT_set (ns : List Int) (i : Nat) : (sumsT ns i).set i (sumI ns i) = sumsT ns (i + 1) := by
  refine List.ext_getElem? fun j => ?_
  unfold sumsT
  rw [List.getElem?_set, List.length_map, List.length_range]
  by_cases hj : j < 31
  · rw [List.getElem?_map, List.getElem?_map, List.getElem?_range hj]
    by_cases h : i = j
    · subst h
      rw [if_pos rfl, if_pos hj]
      show some (sumI ns i) = some (if i < i + 1 then sumI ns i else 0)
      rw [if_pos (by omega)]
    · rw [if_neg h]
      show some (if j < i then sumI ns j else 0) = some (if j < i + 1 then sumI ns j else 0)
      by_cases h2 : j < i
      · rw [if_pos h2, if_pos (by omega)]
      · rw [if_neg h2, if_neg (by omega)]
  · rw [List.getElem?_eq_none (l := List.map _ _) (by rw [List.length_map, List.length_range]; omega)]
    rw [List.getElem?_eq_none (by rw [List.length_map, List.length_range]; omega)]
    by_cases h : i = j
    · rw [if_pos h, if_neg (by omega)]
    · rw [if_neg h]
theorem sumsT_at (ns : List Int) {i k : Nat} (hk : k < 31) (h : k < i ∨ widI ns ≤ k) : (sumsT ns i)[k]? = some (sumI ns k) := by
  unfold sumsT
  rw [List.getElem?_map, List.getElem?_range hk]
  show some (if k < i then sumI ns k else 0) = _
  by_cases h1 : k < i
  · rw [if_pos h1]
  · rw [if_neg h1, sumI_zero (h.resolve_left h1)]
def sumL (ns : List Int) : List Int := (List.range 31).map (sumI ns)
theorem sumL_len (ns : List Int) : (sumL ns).length = 31 := by unfold sumL; rw [List.length_map, List.length_range]
theorem sumL_at (ns : List Int) {k : Nat} (h : k < 31) : (sumL ns)[k]? = some (sumI ns k) := by unfold sumL; rw [List.getElem?_map, List.getElem?_range h]; rfl
theorem sumsT_all {ns : List Int} {i : Nat} (h : i = widI ns ∨ (i = 31 ∧ 31 ≤ widI ns)) : sumsT ns i = sumL ns := by
  refine List.ext_getElem? fun k => ?_
  by_cases hk : k < 31
  · rw [sumL_at ns hk, sumsT_at ns hk (by omega)]
  · rw [List.getElem?_eq_none (by rw [sumsT_len]; omega), List.getElem?_eq_none (by rw [sumL_len]; omega)]
/-- a measured part whose objects are new since B -/
def MsN (B H : Hp) (v : V) (ns : List Int) : Prop := ∃ t s : Addr, v = .ref t ∧ B t = none ∧ B s = none ∧ H t = some (.tup [.int (ns.length : Int), .ref s, .int (widI ns : Int)]) ∧ H s = some (.lst ((sumL ns).map V.int))
theorem MsN.ex {B H H' : Hp} {v : V} {ns : List Int} (h : MsN B H v ns) (e : Ex H H') : MsN B H' v ns := by obtain ⟨t, s, h0, h1, h2, h3, h4⟩ := h; exact ⟨t, s, h0, h1, h2, e _ _ h3, e _ _ h4⟩
theorem MsN.fro {B H H' : Hp} {v : V} {ns : List Int} {c : Addr} {o : HO} (h : MsN B H v ns) (hc : B c = some o) (f : FrO c H H') : MsN B H' v ns := by
  obtain ⟨t, s, h0, h1, h2, h3, h4⟩ := h
  exact ⟨t, s, h0, h1, h2, f _ _ (by rintro rfl; rw [hc] at h1; cases h1) h3, f _ _ (by rintro rfl; rw [hc] at h2; cases h2) h4⟩
theorem none_back {B G : Hp} {c t : Addr} {o : HO} (f : FrO c B G) (hc : G c = some o) (h : G t = none) : B t = none := by
  cases hb : B t with
  | none => rfl
  | some u =>
    by_cases ht : t = c
    · rw [ht, hc] at h
      cases h
    · rw [f t u ht hb] at h
      cases h
theorem MsN.back {B G H : Hp} {v : V} {ns : List Int} {c : Addr} {o : HO} (h : MsN G H v ns) (f : FrO c B G) (hc : G c = some o) : MsN B H v ns := by
  obtain ⟨t, s, h0, h1, h2, h3, h4⟩ := h
  exact ⟨t, s, h0, none_back f hc h1, none_back f hc h2, h3, h4⟩
theorem MsN.low {B G H : Hp} {v : V} {ns : List Int} (h : MsN G H v ns) (e : Ex B G) : MsN B H v ns := by
  obtain ⟨t, s, h0, h1, h2, h3, h4⟩ := h
  exact ⟨t, s, h0, fresh_back e h1, fresh_back e h2, h3, h4⟩
def PtAt (B H : Hp) (a : Addr) (n : Nat) (f : Nat → List Int) : Prop := ∃ vs : List V, H a = some (.lst vs) ∧ B a = none ∧ vs.length = n ∧ ∀ i, i < n → ∃ v, vs[i]? = some v ∧ MsN B H v (f i)
theorem PtAt.ex {B H H' : Hp} {a : Addr} {n : Nat} {f : Nat → List Int} (h : PtAt B H a n f) (e : Ex H H') : PtAt B H' a n f := by
  obtain ⟨vs, h1, h2, h3, h4⟩ := h
  exact ⟨vs, e _ _ h1, h2, h3, fun i hi => by obtain ⟨v, g1, g2⟩ := h4 i hi; exact ⟨v, g1, g2.ex e⟩⟩
theorem PtAt.fro {B H H' : Hp} {a c : Addr} {n : Nat} {f : Nat → List Int} {o : HO} (h : PtAt B H a n f) (hc : B c = some o) (x : FrO c H H') : PtAt B H' a n f := by
  obtain ⟨vs, h1, h2, h3, h4⟩ := h
  exact ⟨vs, x _ _ (by rintro rfl; rw [hc] at h2; cases h2) h1, h2, h3, fun i hi => by obtain ⟨v, g1, g2⟩ := h4 i hi; exact ⟨v, g1, g2.fro hc x⟩⟩
theorem PtAt.back {B G H : Hp} {a c : Addr} {n : Nat} {g : Nat → List Int} {o : HO} (h : PtAt G H a n g) (f : FrO c B G) (hc : G c = some o) : PtAt B H a n g := by
  obtain ⟨vs, h1, h2, h3, h4⟩ := h
  exact ⟨vs, h1, none_back f hc h2, h3, fun i hi => by obtain ⟨v, g1, g2⟩ := h4 i hi; exact ⟨v, g1, g2.back f hc⟩⟩
def sp_meas (K : PySem.W.Frag) : Sp := fun vs H Q _ => ∃ (a : Addr) (ns : List Int), vs = [.ref a] ∧ SqL K H a (ns.map V.int) ∧ ns.length ≤ 40000 ∧ ∀ v H', Ex H H' → MsN H H' v ns → Q v H'
theorem ok_measured (T : TX K mg) : FnOk P w K mg base CX0 2 T.a_measured T.d_measured ["residuals"] (sp_meas K) := by
  refine T.F_measured.ok sc_measured (fun vs H Q E h => by obtain ⟨a, ns, rfl, _⟩ := h; rfl) (fun cdv A outer s0 H vs Q E hr h => ?_)
  obtain ⟨a, ns, rfl, hS, hl, q⟩ := h
  refine ⟨_, (pss_cons (ps_setLc (i := 1) (own := [("residual", 5)]) (g := gName 5) (tt := tYes) rfl sc_measured.nd rfl rfl (sw_true rfl rfl rfl (by decide +kernel)) (pi_list (pv 0)) (blkOk_by (N := ["residuals", "folded", "width", "sums", "k", "residual", "value"]) (sc := defScope s_measured) (by decide +kernel)) (fun _ _ _ _ _ => pg_name (i := 5) sc_measured.nd rfl (Or.inl rfl)) (fun _ _ _ _ _ => pts_nil) (fun _ _ _ _ _ => (pe_call (ok_fold T) (hr.mono (by decide)) (by rfl) T.g_fold T.F_fold.kp T.b_fold .nil pass0 (pa_cons (pv 5) pa_nil))))
      (pss_cons (ps_set (i := 2) sc_measured.nd rfl (Or.inl rfl) (pe_call (ok_width T) (hr.mono (by decide)) (by rfl) T.g_width T.F_width.kp T.b_width .nil pass0 (pa_cons (pv 1) pa_nil)))
      (pss_cons (ps_set (i := 3) sc_measured.nd rfl (Or.inl rfl) (pe_op op_rep (pe_lst (pa_cons pe_int pa_nil)) (pe_ix (r := rIxT K) ix_tup (pe_glob (v := V.ref T.A_PARAMETERS) (by rfl) T.c_PARAMETERS rfl) pe_int (fun _ _ => rfl))))
      (pss_cons (ps_for PassesOwn.never rfl (pi_range1 (by rfl) T.m_range (pa_cons (pe_callB (call_min2 rfl) (by rfl) T.m_min PyProof.Rows.boot_min (pa_cons (pv 2) (pa_cons (pe_ix (r := rIxT K) ix_tup (pe_glob (v := V.ref T.A_PARAMETERS) (by rfl) T.c_PARAMETERS rfl) pe_int (fun _ _ => rfl)) pa_nil))) pa_nil)) (pg_name (i := 4) sc_measured.nd rfl (Or.inr rfl)) (pss_one (ps_asg (pe_callB (r := rSum K) (cr_sum rfl) (by rfl) T.m_sum PyProof.Rows.boot_sum (pa_cons (pe_lc (own := [("value", 6)]) (g := gName 6) (tt := tYes) rfl sc_measured.nd (pi_list (pv 1)) (blkOk_by (N := ["residuals", "folded", "width", "sums", "k", "residual", "value"]) (sc := defScope s_measured) (by decide +kernel)) (fun _ _ _ _ _ => pg_name (i := 6) sc_measured.nd rfl (Or.inl rfl)) (fun _ _ _ _ _ => pts_nil) (fun _ _ _ _ _ => (pe_op op_shr (pv 6) (pv 4)))) pa_nil)) (pg_sub (pv 3) (pv 4) set_list))))
      (pss_one (ps_ret (pe_tup (pa_cons (pe_callB (r := rLenS K) call_len_seq (by rfl) T.m_len PySem.boot_len (pa_cons (pv 0) pa_nil)) (pa_cons (pv 3) (pa_cons (pv 2) pa_nil)))))))))), ?_⟩
  refine q_asgL (xs := (ns.map foldI).map V.int) (EvL.is (xs := ns.map fun n => V.int (foldI n)) (el_lcS _ (Ev.s (ev_var rfl) hS) (by rw [List.length_map, List.length_map]) (by rw [List.length_map]; omega) (fun _ => rfl) fun i x H2 e2 hx => ?_) (by rw [List.map_map]; rfl)) fun pf H1 hpf e1 g1 => ?_
  · obtain ⟨n, hn, hi, rfl⟩ := int_at hx
    exact ⟨.int (foldI n), by rw [List.getElem?_map, hn]; rfl, ev_fold (ev_var rfl)⟩
  refine q_asg (v := .int (widI ns : Int)) (ev_width (us := ns.map foldI) (Ev.s (ev_var rfl) (sq_of g1))) fun H2 e2 => ?_
  have P31 : ∀ {σ : L2.St} {H' : Hp}, Ev (tOp (rIxT K) (tC (.ref T.A_PARAMETERS)) (tC (.int 1))) σ H' (.int 31) := ev_atT (n := 1) ev_c (T.s_PARAMETERS _) ev_c (at_of (j := 1) rfl rfl)
  refine q_asgL (xs := (List.replicate 31 (0 : Int)).map V.int) (EvL.is (el_rep (xs := [V.int 0]) (k := 31) (EvL.r (el_lst (ea_cons ev_c ea_nil) (by decide))) P31 (by decide) (by decide)) (by rw [rep_one, List.map_replicate]; rfl)) fun ps H3 hps e3 g3 => ?_
  have hpsB := fresh_back (e1.trans e2) hps
  have hpfs : pf ≠ ps := ne_of_none (e2 _ _ g1) hps
  obtain ⟨mw, hmw⟩ : ∃ mw : Nat, (if (31 : Int) < (widI ns : Int) then (31 : Int) else (widI ns : Int)) = (mw : Int) ∧ mw ≤ 31 ∧ (mw = widI ns ∨ (mw = 31 ∧ 31 ≤ widI ns)) := by
    by_cases h : (31 : Int) < (widI ns : Int)
    · exact ⟨31, by rw [if_pos h]; rfl, by omega, .inr ⟨rfl, by omega⟩⟩
    · exact ⟨widI ns, by rw [if_neg h], by omega, .inl rfl⟩
  obtain ⟨hmw, hmw31, hmwc⟩ := hmw
  refine q_forR1 (n := (mw : Int)) (ea_cons (Ev.is (ev_min2 (ev_var rfl) P31) (congrArg V.int hmw)) ea_nil) (by omega) (fun i σ' H' => ∃ z4, σ' = [some (.ref a), some (.ref pf), some (.int (widI ns : Int)), some (.ref ps), z4, none, none] ∧ Ex H H' ∧ H' pf = some (.lst ((ns.map foldI).map V.int)) ∧ H' ps = some (.lst ((sumsT ns i).map V.int))) (fun H4 e4 => ⟨none, rfl, (e1.trans e2).trans (e3.trans e4), (e2.trans (e3.trans e4)) _ _ g1, ?_⟩) ?_ ?_
  · have h0 : sumsT ns 0 = List.replicate 31 (0 : Int) := rfl
    rw [h0]
    exact e4 _ _ g3
  · rintro i σ' H4 hi ⟨z4, rfl, ex, gf, gs⟩
    refine s_setL (j := i) (v := .int (sumI ns i)) gs (ev_sum (EvR.s (EvL.r (EvL.is (xs := (ns.map foldI).map fun u => V.int (u / 2 ^ i)) (el_lcS _ (Ev.s (ev_var rfl) (sq_of gf)) (by simp only [List.length_map]) (by rw [List.length_map, List.length_map]; omega) (fun _ => rfl) fun j x H5 e5 hx => ?_) (by rw [List.map_map, List.map_map]; rfl))))) (ev_var rfl) (ev_var rfl) (by rw [List.length_map, sumsT_len]; omega) fun H5 e5 => ⟨_, rfl, Ex.mut (ex.trans e5) hpsB, by rw [upd_ne hpfs]; exact e5 _ _ gf, by rw [upd_same, ← sumsT_set, List.map_set]⟩
    obtain ⟨u, hu, hj, rfl⟩ := int_at hx
    exact ⟨.int (u / 2 ^ i), by rw [List.getElem?_map, hu]; rfl, Ev.is (ev_I (ev_var rfl) (ev_var rfl) (show (0 : Int) ≤ (i : Int) by omega)) (congrArg V.int (by rw [Int.toNat_natCast]))⟩
  · rintro σ' H4 ⟨z4, rfl, ex, gf, gs⟩
    rw [Int.toNat_natCast] at gs
    refine s_retU (xs := [.int (ns.length : Int), .ref ps, .int (widI ns : Int)]) (eu_tup (ea_cons (Ev.is (ev_lenS (Ev.s (ev_var rfl) (ex_l ex hS))) (by rw [List.length_map])) (ea_cons (ev_var rfl) (ea_cons (ev_var rfl) ea_nil))) (Nat.le_of_ble_eq_true rfl)) fun t H5 ht e5 g5 => q (.ref t) H5 (ex.trans e5) ⟨t, ps, rfl, fresh_back ex ht, hpsB, g5, by rw [← sumsT_all hmwc]; exact e5 _ _ gs⟩
def bestN (f : Nat → Int) : Nat → Int × Nat
  | 0 => (f 0, 0)
  | i + 1 => if f (i + 1) < (bestN f i).1 then (f (i + 1), i + 1) else bestN f i
theorem bestN_le (f : Nat → Int) : ∀ i, (bestN f i).2 ≤ i
  | 0 => Nat.le_refl _
  | i + 1 => by
    have := bestN_le f i
    unfold bestN
    split
    · exact Nat.le_refl _
    · omega
theorem minP_best (f : Nat → Int) : ∀ i, minP (f 0, 0) ((List.range i).map fun k => (f (k + 1), ((k + 1 : Nat) : Int))) = ((bestN f i).1, ((bestN f i).2 : Int))
  | 0 => rfl
  | i + 1 => by
    have ih := minP_best f i
    have hb := bestN_le f i
    unfold minP at ih ⊢
    rw [List.range_succ, List.map_append, List.foldl_append, ih]
    have hst : bestN f (i + 1) = if f (i + 1) < (bestN f i).1 then (f (i + 1), i + 1) else bestN f i := rfl
    rw [hst]
    show (if f (i + 1) < (bestN f i).1 ∨ (f (i + 1) = (bestN f i).1 ∧ ((i + 1 : Nat) : Int) < ((bestN f i).2 : Int)) then (f (i + 1), ((i + 1 : Nat) : Int)) else ((bestN f i).1, ((bestN f i).2 : Int))) = _
    by_cases h : f (i + 1) < (bestN f i).1
    · rw [if_pos (.inl h), if_pos h]
    · rw [if_neg (fun z => z.elim h fun z => by omega), if_neg h]
def costI (ns : List Int) (m k : Nat) : Int := 4 + (m : Int) + ((ns.length : Int) * (1 + (k : Int)) + sumI ns k)
def rawI (ns : List Int) (m : Nat) : Int := 4 + (m : Int) + 5 + (ns.length : Int) * (widI ns : Int)
def entF (ns : List Int) (m : Nat) : (Str × Int) × Int :=
  if widI ns ≤ 31 ∧ rawI ns m < (bestN (costI ns m) (14 + 16 * m)).1 then (("raw", (widI ns : Int)), rawI ns m) else (("rice", ((bestN (costI ns m) (14 + 16 * m)).2 : Int)), (bestN (costI ns m) (14 + 16 * m)).1)
def EntV (H : Hp) (v : V) (e : (Str × Int) × Int) : Prop := ∃ t t2, v = .ref t ∧ H t = some (.tup [.ref t2, .int e.2]) ∧ H t2 = some (.tup [.str e.1.1, .int e.1.2])
theorem EntV.ex {H H' : Hp} {v : V} {e : (Str × Int) × Int} (h : EntV H v e) (x : Ex H H') : EntV H' v e := by obtain ⟨t, t2, h1, h2, h3⟩ := h; exact ⟨t, t2, h1, x _ _ h2, x _ _ h3⟩
theorem ent_mk {H5 : Hp} {t2 t1 : Addr} {k : Str} {x b : Int} (h1 : (upd H5 t2 (.tup [.str k, .int x])) t1 = none) : EntV (upd (upd H5 t2 (.tup [.str k, .int x])) t1 (.tup [.ref t2, .int b])) (.ref t1) ((k, x), b) := ⟨t1, t2, rfl, upd_same, by rw [upd_ne (fun z => by rw [← z, upd_same] at h1; cases h1)]; exact upd_same⟩
def PrsAt (H : Hp) (L : List (Addr × (Int × Int))) : Prop := ∀ x ∈ L, H x.1 = some (.tup [.int x.2.1, .int x.2.2])
theorem PrsAt.d {H : Hp} : ∀ {L : List (Addr × (Int × Int))}, PrsAt H L → DpAll K H (L.map fun x => V.ref x.1) (L.map fun x => pairD x.2)
  | [], _ => .nil
  | x :: L, h => .cons (.tup (st_of (h x (List.mem_cons_self ..))) (.cons (.int _) (.cons (.int _) .nil))) (PrsAt.d fun y hy => h y (List.mem_cons_of_mem _ hy))
/-- [e for j in range(n)], e a new tuple or so -/
theorem tlc_rngE {ta : TA} {te : TE} {vs : List Nat} {n : Int} {j : Nat} {σ : L2.St} {H : Hp} {Q : VK} (h : EvA ta σ H [.int n]) (hn : -100000 ≤ n ∧ n ≤ 100000)
    (k : ∀ H1, Ex H H1 → ∀ Dl, H1 Dl = none → ∃ Pv : Nat → Hp → Prop, Pv 0 (upd H1 Dl (.lst [])) ∧ (∀ (i : Nat) H', i < n.toNat → Pv i H' → wipe ((wipe σ vs).set j (some (.int (i : Int)))) vs = wipe σ vs ∧ te ((wipe σ vs).set j (some (.int (i : Int)))) H' fun y H4 => ∃ acc, H4 Dl = some (.lst acc) ∧ acc.length < sizeLine ∧ Pv (i + 1) (upd H4 Dl (.lst (acc ++ [y])))) ∧ (∀ H', Pv n.toNat H' → Q (.ref Dl) H')) :
    tLc (iRng1 ta) (gName j) tYes te vs σ H Q := h H (Ex.refl H) _ fun H1 e1 => ⟨n, rfl, by omega, by omega, fun Dl hD => by
  obtain ⟨Pv, h0, hs, hd⟩ := k H1 e1 Dl hD
  refine lc_range (lo := 0) (n := n.toNat) Pv h0 (fun i H' hi p => ?_) hd
  rw [Int.zero_add]
  exact hs i H' hi p⟩
theorem q_asgCB1 {r : List V → Hp → VK → Prop} {te : TE} {g : TG} {tz : TS} {D : Ends} {σ : L2.St} {H : Hp} (h : te σ H fun x H1 => r [x] H1 fun y H2 => g y σ H2 (tz D)) : tSeq (tAsg (tCB r (tCons te tNil)) g) tz D σ H := h
def sp_entry : Sp := fun vs H Q _ => ∃ (B : Hp) (v : V) (ns : List Int) (m : Nat), vs = [v, .int (m : Int)] ∧ MsN B H v ns ∧ m ≤ 1 ∧ ns.length ≤ 40000 ∧ ∀ v H', Ex H H' → EntV H' v (entF ns m) → Q v H'
theorem ok_entry (T : TX K mg) : FnOk P w K mg base CX0 1 T.a_entry T.d_entry ["part", "method"] sp_entry := by
  refine T.F_entry.ok sc_entry (fun vs H Q E h => by obtain ⟨B, v, ns, m, rfl, _⟩ := h; rfl) (fun cdv A outer s0 H vs Q E hr h => ?_)
  obtain ⟨B, v, ns, m, rfl, ⟨t, s, rfl, -, -, ht, hs⟩, hm, hl, q⟩ := h
  have hus : ∀ k, k < 31 → (sumL ns)[k]? = some (sumI ns k) := fun k hk => sumL_at ns hk
  refine ⟨_, (pss_cons (ps_asg (pv 0) (pg_tup rfl (pgs_cons (pg_name (i := 2) sc_entry.nd rfl (Or.inr rfl)) (pgs_cons (pg_name (i := 3) sc_entry.nd rfl (Or.inr rfl)) (pgs_cons (pg_name (i := 4) sc_entry.nd rfl (Or.inl rfl)) pgs_nil)))))
      (pss_cons (ps_set (i := 5) sc_entry.nd rfl (Or.inr rfl) (pe_op op_add pe_int (pv 1)))
      (pss_cons (ps_asg (pe_callB (cr_minP (hu64 hr) rfl) (by rfl) T.m_min PyProof.Rows.boot_min (pa_cons (pe_lc (own := [("k", 6)]) (g := gName 6) (tt := tYes) rfl sc_entry.nd (pi_range1 (by rfl) T.m_range (pa_cons (pe_ix (r := rIxT K) ix_tup (pe_glob (v := V.ref T.A_PARAMETERS) (by rfl) T.c_PARAMETERS rfl) (pv 1) (fun _ _ => rfl)) pa_nil)) (blkOk_by (N := ["part", "method", "count", "sums", "width", "field", "k", "bits", "raw_bits"]) (sc := defScope s_entry) (by decide +kernel)) (fun _ _ _ _ _ => pg_name (i := 6) sc_entry.nd rfl (Or.inl rfl)) (fun _ _ _ _ _ => pts_nil) (fun _ _ _ _ _ => (pe_tup (pa_cons (pe_op op_add (pe_op op_add (pv 5) (pe_op op_mul (pv 2) (pe_op op_add pe_int (pv 6)))) (pe_ix (r := rIxL K) ix_list (pv 3) (pv 6) (fun _ _ => rfl))) (pa_cons (pv 6) pa_nil))))) pa_nil)) (pg_tup rfl (pgs_cons (pg_name (i := 7) sc_entry.nd rfl (Or.inl rfl)) (pgs_cons (pg_name (i := 6) sc_entry.nd rfl (Or.inl rfl)) pgs_nil))))
      (pss_cons (ps_set (i := 8) sc_entry.nd rfl (Or.inl rfl) (pe_op op_add (pe_op op_add (pv 5) pe_int) (pe_op op_mul (pv 2) (pv 4))))
      (pss_cons (ps_if (PW.pt (pw_and (pt_cmpR op_le (pv 4) (pe_glob (by rfl) T.c_MOST_RAW_WIDTH T.r_MOST_RAW_WIDTH) (nomark _)) (pw_and1 (pt_cmpR op_lt (pv 8) (pv 7) (nomark _))))) (pss_one (ps_ret (pe_tup (pa_cons (pe_tup (pa_cons pe_str (pa_cons (pv 4) pa_nil))) (pa_cons (pv 8) pa_nil))))) pss_nil)
      (pss_one (ps_ret (pe_tup (pa_cons (pe_tup (pa_cons pe_str (pa_cons (pv 6) pa_nil))) (pa_cons (pv 7) pa_nil)))))))))), ?_⟩
  refine ⟨.ref t, rfl, t, [.int (ns.length : Int), .ref s, .int (widI ns : Int)], rfl, st_of ht, rfl, .int (ns.length : Int), [.ref s, .int (widI ns : Int)], rfl, .ref s, [.int (widI ns : Int)], rfl, .int (widI ns : Int), [], rfl, rfl, ?_⟩
  refine q_asg (v := .int (4 + (m : Int))) (ev_I0 (g := fun i j => .int (i + j)) ev_c (ev_var rfl)) fun H1 e1 => ?_
  have hn15 : atI [V.int 15, V.int 31] (m : Int) = some (.int ((15 + 16 * m : Nat) : Int)) := by
    match m, hm with
    | 0, _ => rfl
    | 1, _ => rfl
  refine q_asgCB1 ?_
  refine tlc_rngE (n := ((15 + 16 * m : Nat) : Int)) (ea_cons (ev_atT (n := (m : Int)) ev_c (T.s_PARAMETERS _) (ev_var rfl) hn15) ea_nil) (by omega) fun H2 e2 Dl hD => ⟨fun i H' => ∃ L : List (Addr × (Int × Int)), Ex H H' ∧ H' Dl = some (.lst (L.map fun x => V.ref x.1)) ∧ PrsAt H' L ∧ L.map (·.2) = (List.range i).map fun k => (costI ns m k, (k : Int)), ⟨[], Ex.mut (e1.trans e2) (fresh_back (e1.trans e2) hD), upd_same, (fun x hx => by cases hx), rfl⟩, ?_, ?_⟩
  · rintro i H' hi ⟨L, ex, gD, hL, hLs⟩
    have hi31 : i < 31 := by omega
    refine ⟨rfl, ?_⟩
    have hLl : L.length = i := by have := congrArg List.length hLs; rwa [List.length_map, List.length_map, List.length_range] at this
    refine eu_go (eu_tup (vs := [.int (costI ns m i), .int (i : Int)]) (ea_cons (Ev.is (ev_I0 (ev_I0 (ev_var rfl) (ev_I (ev_var rfl) (ev_I0 ev_c (ev_var rfl)) (.inr (by omega)))) (ev_ixS (i := 0) (n := (i : Int)) (Ev.s (ev_var rfl) (sq_of (ex _ _ hs))) (ev_var rfl) (at_of (j := i) rfl (at_int (hus i hi31))))) (congrArg V.int (by unfold costI; omega))) (ea_cons (ev_var rfl) ea_nil)) (Nat.le_of_ble_eq_true rfl)) fun p H3 hp e3 g3 => ⟨_, e3 _ _ gD, sz_lt (by rw [List.length_map]; omega), L ++ [(p, (costI ns m i, (i : Int)))], Ex.mut (ex.trans e3) (fresh_back (e1.trans e2) hD), by rw [upd_same, List.map_append]; rfl, fun x hx => ?_, ?_⟩
    · have hxD : ∀ {x : Addr × (Int × Int)}, H3 x.1 = some (.tup [.int x.2.1, .int x.2.2]) → (upd H3 Dl (.lst ((L.map fun x => V.ref x.1) ++ [V.ref p]))) x.1 = some (.tup [.int x.2.1, .int x.2.2]) := fun {x} h => by
        have : x.1 ≠ Dl := by
          intro z
          rw [z, e3 _ _ gD] at h
          cases h
        rw [upd_ne this]
        exact h
      rcases List.mem_append.mp hx with h | h
      · exact hxD (e3 _ _ (hL x h))
      · rw [List.mem_singleton.mp h]
        exact hxD g3
    · rw [List.map_append, hLs, List.range_succ, List.map_append]
      rfl
  rintro H3 ⟨L, ex, gD, hL, hLs⟩
  rw [Int.toNat_natCast] at hLs
  obtain ⟨f, hf⟩ : ∃ f, costI ns m = f := ⟨_, rfl⟩
  obtain ⟨j, hj⟩ : ∃ j, 14 + 16 * m = j := ⟨_, rfl⟩
  have hds : (L.map fun x => pairD x.2) = (((f 0, (0 : Int)) :: (List.range j).map fun k => (f (k + 1), ((k + 1 : Nat) : Int)))).map pairD := by
    rw [show (L.map fun x => pairD x.2) = (L.map (·.2)).map pairD from by rw [List.map_map]; rfl, hLs, hf, show 15 + 16 * m = j + 1 by omega, List.range_succ_eq_map, List.map_cons, List.map_map]
    rfl
  refine ⟨Dl, _, (f 0, 0), (List.range j).map fun k => (f (k + 1), ((k + 1 : Nat) : Int)), rfl, sq_of gD, hds ▸ hL.d, fun v hv => ?_⟩
  rw [minP_best] at hv
  obtain ⟨b, hb⟩ : ∃ b, bestN f j = b := ⟨_, rfl⟩
  rw [hb] at hv
  cases hv with
  | tup hst hda =>
    rename_i tp xs
    cases hda with
    | cons h1 h2 =>
      cases h1
      cases h2 with
      | cons h3 h4 =>
        cases h3
        cases h4
        refine ⟨tp, _, rfl, hst, rfl, .int b.1, [.int (b.2 : Int)], rfl, .int (b.2 : Int), [], rfl, rfl, ?_⟩
        refine q_asg (v := .int (rawI ns m)) (ev_I0 (ev_I0 (ev_var rfl) ev_c) (ev_I (ev_var rfl) (ev_var rfl) (.inl (by omega)))) fun H4 e4 => ?_
        unfold entF at q
        rw [hf, hj, hb] at q
        refine q_when (b := decide (widI ns ≤ 31 ∧ rawI ns m < b.1)) (et_is (et_and (a := decide (widI ns ≤ 31)) (b := decide (rawI ns m < b.1)) (et_is (et_test (ev_I0 (ev_var rfl) (ev_relC T.r_MOST_RAW_WIDTH))) (decide_eq_decide.mpr (by omega))) fun _ => et_test (ev_I0 (ev_var rfl) (ev_var rfl))) (by rw [Bool.decide_and])) (fun h H5 e5 => ?_) fun h H5 e5 => ?_
        · rw [if_pos (of_decide_eq_true h)] at q
          exact ⟨_, rfl, sz_of (show 2 ≤ 100000 by decide), fun t2 h2 => ⟨_, rfl, sz_of (show 2 ≤ 100000 by decide), fun t1 h1 => q _ _ (((ex.trans (e4.trans e5)).trans (Ex.new h2)).trans (Ex.new h1)) (ent_mk h1)⟩⟩
        · rw [if_neg (of_decide_eq_false h)] at q
          exact ⟨_, rfl, sz_of (show 2 ≤ 100000 by decide), fun t2 h2 => ⟨_, rfl, sz_of (show 2 ≤ 100000 by decide), fun t1 h1 => q _ _ (((ex.trans (e4.trans e5)).trans (Ex.new h2)).trans (Ex.new h1)) (ent_mk h1)⟩⟩

/-! ### legal partition orders, sizes of partitions -/
theorem pow_pos2 (i : Nat) : (0 : Int) < 2 ^ i := Int.pow_pos (by decide)
theorem pow_le16 {m : Nat} (h : m ≤ 16) : (2 : Int) ^ m ≤ 65536 := by
  have h1 : 2 ^ m ≤ 2 ^ 16 := Nat.pow_le_pow_right (by decide) h
  have h2 : ((2 : Int) ^ m) = ((2 ^ m : Nat) : Int) := by rw [Int.natCast_pow]; rfl
  omega
def sp_legal : Sp := fun vs H Q _ => ∃ (s o : Int) (m : Nat), vs = [.int s, .int o, .int m] ∧ m ≤ 16 ∧ RetV (.bl (decide (s % 2 ^ m = 0) && decide (o < s / 2 ^ m))) H Q
theorem ok_legal_partition_order (T : TX K mg) : FnOk P w K mg base CX0 1 T.a_legal_partition_order T.d_legal_partition_order ["size", "order", "partition_order"] sp_legal := by
  refine T.F_legal_partition_order.ok sc_legal_partition_order (fun vs H Q E h => by obtain ⟨s, o, m, rfl, _⟩ := h; rfl) (fun cdv A outer s H vs Q E hr h => ?_)
  obtain ⟨s, o, m, rfl, hm, k⟩ := h
  have h1 := pow_pos2 m
  have h2 := pow_le16 hm
  refine ⟨_, (pss_cons (ps_set (i := 3) sc_legal_partition_order.nd rfl (Or.inl rfl) (pe_op op_shl pe_int (pv 2)))
      (pss_one (ps_ret (pe_and (pe_cmpR op_eq (pe_op op_mod (pv 0) (pv 3)) pe_int (nomark _)) (pe_one (pe_cmpR op_gt (pe_op op_fdiv (pv 0) (pv 3)) (pv 1) (nomark _))))))), ?_⟩
  refine q_asg (v := .int (2 ^ m)) (ev_is (v := .int (1 * 2 ^ (m : Int).toNat)) (by walk_at "ev") (by rw [Int.toNat_natCast, Int.one_mul])) fun H1 e1 => ?_
  walk_at "ret"
  intro H2 e2
  refine ret_eq k (e1.trans e2) ?_
  have e0 : decide (V.int (s % 2 ^ m) = V.int 0) = decide (s % 2 ^ m = 0) := by simp
  rw [e0]
def sp_sizes : Sp := fun vs H Q _ => ∃ (s o : Int) (m : Nat), vs = [.int s, .int o, .int m] ∧ m ≤ 16 ∧ RetL (((s / 2 ^ m - o) :: List.replicate (2 ^ m - 1) (s / 2 ^ m)).map V.int) H Q
theorem ok_partition_sizes (T : TX K mg) : FnOk P w K mg base CX0 1 T.a_partition_sizes T.d_partition_sizes ["size", "order", "partition_order"] sp_sizes := by
  refine T.F_partition_sizes.ok sc_partition_sizes (fun vs H Q E h => by obtain ⟨s, o, m, rfl, _⟩ := h; rfl) (fun cdv A outer s H vs Q E hr h => ?_)
  obtain ⟨s, o, m, rfl, hm, k⟩ := h
  have h1 := pow_pos2 m
  have h2 := pow_le16 hm
  have h3 : ((2 : Int) ^ m - 1).toNat = 2 ^ m - 1 := by
    have : ((2 : Int) ^ m) = ((2 ^ m : Nat) : Int) := by rw [Int.natCast_pow]; rfl
    omega
  have h4 : 2 ^ m ≤ 65536 := by
    have : ((2 : Int) ^ m) = ((2 ^ m : Nat) : Int) := by rw [Int.natCast_pow]; rfl
    omega
  refine ⟨_, (pss_cons (ps_set (i := 3) sc_partition_sizes.nd rfl (Or.inl rfl) (pe_op op_shr (pv 0) (pv 2)))
      (pss_one (ps_ret (pe_op op_cat (pe_lst (pa_cons (pe_op op_sub (pv 3) (pv 1)) pa_nil)) (pe_op op_rep (pe_lst (pa_cons (pv 3) pa_nil)) (pe_op op_sub (pe_op op_shl pe_int (pv 2)) pe_int)))))), ?_⟩
  refine q_asg (v := .int (s / 2 ^ m)) (ev_is (v := .int (s / 2 ^ (m : Int).toNat)) (by walk_at "ev") (by rw [Int.toNat_natCast])) fun H1 e1 => ?_
  refine s_retL (EvL.is (el_cat (xs := [.int (s / 2 ^ m - o)]) (ys := List.replicate (2 ^ m - 1) (.int (s / 2 ^ m))) (EvL.r (el_lst (by walk_at "ea") (Nat.le_of_ble_eq_true rfl))) (EvL.r (EvL.is (el_rep (xs := [.int (s / 2 ^ m)]) (k := 2 ^ m - 1) (EvL.r (el_lst (by walk_at "ea") (Nat.le_of_ble_eq_true rfl))) (ev_is (v := .int (1 * 2 ^ (m : Int).toNat - 1)) (by walk_at "ev") (by rw [Int.toNat_natCast, Int.one_mul])) (by omega) (by rw [h3]; show 1 * (2 ^ m - 1) ≤ 100000; omega)) (by rw [h3, rep_one]))) (by rw [List.length_replicate]; show 1 + _ ≤ 100000; omega)) (by simp)) fun p H2 hp e2 h2 => k.go e1 hp e2 h2
theorem el_sizes {σ : L2.St} {H : Hp} {t1 t2 t3 : TE} {E : XK} {s o : Int} {m : Nat} (h1 : Ev t1 σ H (.int s)) (h2 : Ev t2 σ H (.int o)) (h3 : Ev t3 σ H (.int m)) (hm : m ≤ 16) :
    EvL (tCall sp_sizes [] E (tCons t1 (tCons t2 (tCons t3 tNil)))) σ H (((s / 2 ^ m - o) :: List.replicate (2 ^ m - 1) (s / 2 ^ m)).map V.int) :=
  el_call (ea_cons h1 (ea_cons h2 (ea_cons h3 ea_nil))) fun H1 e Q q _ => ⟨s, o, m, rfl, hm, q⟩
theorem ev_legal {σ : L2.St} {H : Hp} {t1 t2 t3 : TE} {E : XK} {s o : Int} {m : Nat} (h1 : Ev t1 σ H (.int s)) (h2 : Ev t2 σ H (.int o)) (h3 : Ev t3 σ H (.int m)) (hm : m ≤ 16) :
    Ev (tCall sp_legal [] E (tCons t1 (tCons t2 (tCons t3 tNil)))) σ H (.bl (decide (s % 2 ^ m = 0) && decide (o < s / 2 ^ m))) :=
  ev_call (ea_cons h1 (ea_cons h2 (ea_cons h3 ea_nil))) fun H1 e Q q _ => ⟨s, o, m, rfl, hm, q⟩

/-! ### ranges with a step -/
theorem s_forRC {σ : L2.St} {H : Hp} {D : Ends} {tu : TS} {ta : TA} {j n : Nat} {a b c : Int} (h : EvA ta σ H [.int a, .int b, .int c]) (hr : RgC a b c n) (Pv : Nat → L2.St → Hp → Prop) (h0 : ∀ H1, Ex H H1 → Pv 0 σ H1)
    (hs : ∀ i σ' H', i < n → Pv i σ' H' → tu { nx := Pv (i + 1), rt := D.rt, bk := D.nx, ct := Pv (i + 1) } (σ'.set j (some (.int (a + (i : Nat) * c)))) H') (hd : ∀ σ' H', Pv n σ' H' → D.nx σ' H') : tFor (iRng3 ta) (gName j) tu D σ H :=
  h H (Ex.refl H) _ fun H1 e1 => ⟨a, b, c, n, rfl, hr, for_rangeC Pv (h0 H1 e1) hs hd⟩
theorem q_forRC {σ : L2.St} {H : Hp} {D : Ends} {tu tz : TS} {ta : TA} {j n : Nat} {a b c : Int} (h : EvA ta σ H [.int a, .int b, .int c]) (hr : RgC a b c n) (Pv : Nat → L2.St → Hp → Prop) (h0 : ∀ H1, Ex H H1 → Pv 0 σ H1)
    (hs : ∀ i σ' H', i < n → Pv i σ' H' → tu { nx := Pv (i + 1), rt := D.rt, bk := tz D, ct := Pv (i + 1) } (σ'.set j (some (.int (a + (i : Nat) * c)))) H') (hd : ∀ σ' H', Pv n σ' H' → tz D σ' H') : tSeq (tFor (iRng3 ta) (gName j) tu) tz D σ H :=
  h H (Ex.refl H) _ fun H1 e1 => ⟨a, b, c, n, rfl, hr, for_rangeC Pv (h0 H1 e1) hs hd⟩
theorem el_lcC {σ : L2.St} {H : Hp} {ta : TA} {te : TE} {vs : List Nat} {j n : Nat} {a b c : Int} (zs : List V) (h1 : EvA ta σ H [.int a, .int b, .int c]) (hr : RgC a b c n) (hz : zs.length = n) (hb : zs.length ≤ 50000) (hw : ∀ x, wipe ((wipe σ vs).set j (some x)) vs = wipe σ vs)
    (he : ∀ (i : Nat) H1, Ex H H1 → i < n → ∃ z, zs[i]? = some z ∧ Ev te ((wipe σ vs).set j (some (.int (a + (i : Nat) * c)))) H1 z) : EvL (tLc (iRng3 ta) (gName j) tYes te vs) σ H zs := fun H0 e Q q =>
  h1 H0 e _ fun H1 e1 => ⟨a, b, c, n, rfl, hr, fun D hD => lc_it walk_rangeC (fun i H' => Ex H1 H' ∧ H' D = some (.lst (zs.take i))) ⟨Ex.new hD, upd_same⟩ (fun _ _ _ _ => trivial) (by
    rintro i x H' H'' hi ⟨ex, hd⟩ ⟨rfl, rfl⟩
    obtain ⟨z, hz1, hz2⟩ := he i H'' ((e.trans e1).trans ex) hi
    refine ⟨hw _, ?_⟩
    refine hz2 _ (Ex.refl _) _ fun H4 e4 => ⟨zs.take i, e4 _ _ hd, sz_lt (by rw [List.length_take]; omega), ?_, ?_⟩
    · exact Ex.mut (ex.trans e4) hD
    · rw [upd_same, take_snoc hz1]) fun H' ⟨ex, hd⟩ => by
      rw [← hz, List.take_length] at hd
      exact q D H' (fresh_back e1 hD) (e1.trans ex) hd⟩
theorem rs_m6 (i : Int) (n : Nat) : Builtin.Range.rangeSize i (i - 6 * n) (-6) = (n : Int) := by
  unfold Builtin.Range.rangeSize
  rw [if_neg (by decide), show (-(-6) : Int) = 6 from rfl]
  split <;> omega
theorem rg_m6 {i : Int} {n : Nat} (hi : -(2 ^ 60) ≤ i ∧ i < 2 ^ 60) (hn : n ≤ 100000) : RgC i (i - 6 * n) (-6) n := by
  refine ⟨by decide, by decide, ?_, rs_m6 i n⟩
  unfold Builtin.Range.small
  rw [rs_m6]
  simp only [Builtin.Range.rangeFitsLong, Bool.and_eq_true, Bool.or_eq_true, decide_eq_true_eq, beq_iff_eq, show ¬ ((-6 : Int) > 0) by decide, if_false]
  omega
theorem rs_m8 (i : Int) (n : Nat) : Builtin.Range.rangeSize i (i - 8 * n) (-8) = (n : Int) := by
  unfold Builtin.Range.rangeSize
  rw [if_neg (by decide), show (-(-8) : Int) = 8 from rfl]
  split <;> omega
theorem rg_m8 {i : Int} {n : Nat} (hi : -(2 ^ 60) ≤ i ∧ i < 2 ^ 60) (hn : n ≤ 100000) : RgC i (i - 8 * n) (-8) n := by
  refine ⟨by decide, by decide, ?_, rs_m8 i n⟩
  unfold Builtin.Range.small
  rw [rs_m8]
  simp only [Builtin.Range.rangeFitsLong, Bool.and_eq_true, Bool.or_eq_true, decide_eq_true_eq, beq_iff_eq, show ¬ ((-8 : Int) > 0) by decide, if_false]
  omega
theorem rs_8 (i : Int) (n : Nat) : Builtin.Range.rangeSize i (i + 8 * n) (8) = (n : Int) := by
  unfold Builtin.Range.rangeSize
  rw [if_pos (by decide)]
  split <;> omega
theorem rg_8 {i : Int} {n : Nat} (hi : -(2 ^ 60) ≤ i ∧ i < 2 ^ 60) (hn : n ≤ 100000) : RgC i (i + 8 * n) (8) n := by
  refine ⟨by decide, by decide, ?_, rs_8 i n⟩
  unfold Builtin.Range.small
  rw [rs_8]
  simp only [Builtin.Range.rangeFitsLong, Bool.and_eq_true, Bool.or_eq_true, decide_eq_true_eq, beq_iff_eq, show ((8 : Int) > 0) by decide, if_true]
  omega
theorem rs_18 (i : Int) (n : Nat) : Builtin.Range.rangeSize i (i + 18 * n) (18) = (n : Int) := by
  unfold Builtin.Range.rangeSize
  rw [if_pos (by decide)]
  split <;> omega
theorem rg_18 {i : Int} {n : Nat} (hi : -(2 ^ 60) ≤ i ∧ i < 2 ^ 60) (hn : n ≤ 100000) : RgC i (i + 18 * n) (18) n := by
  refine ⟨by decide, by decide, ?_, rs_18 i n⟩
  unfold Builtin.Range.small
  rw [rs_18]
  simp only [Builtin.Range.rangeFitsLong, Bool.and_eq_true, Bool.or_eq_true, decide_eq_true_eq, beq_iff_eq, show ((18 : Int) > 0) by decide, if_true]
  omega
theorem rs_12 (i : Int) (n : Nat) : Builtin.Range.rangeSize i (i + 12 * n) (12) = (n : Int) := by
  unfold Builtin.Range.rangeSize
  rw [if_pos (by decide)]
  split <;> omega
theorem rg_12 {i : Int} {n : Nat} (hi : -(2 ^ 60) ≤ i ∧ i < 2 ^ 60) (hn : n ≤ 100000) : RgC i (i + 12 * n) (12) n := by
  refine ⟨by decide, by decide, ?_, rs_12 i n⟩
  unfold Builtin.Range.small
  rw [rs_12]
  simp only [Builtin.Range.rangeFitsLong, Bool.and_eq_true, Bool.or_eq_true, decide_eq_true_eq, beq_iff_eq, show ((12 : Int) > 0) by decide, if_true]
  omega

/-! ### measured parts joined -/
theorem sumI_app (ns ms : List Int) (k : Nat) : sumI (ns ++ ms) k = sumI ns k + sumI ms k := by unfold sumI; rw [List.map_append, List.sum_append]
theorem widI_app (ns ms : List Int) : (widI (ns ++ ms) : Int) = if (widI ms : Int) > (widI ns : Int) then (widI ms : Int) else (widI ns : Int) := by
  have h1 : ∀ j, widI (ns ++ ms) ≤ j ↔ widI ns ≤ j ∧ widI ms ≤ j := fun j => by
    rw [widI_le, widI_le, widI_le]
    exact ⟨fun h => ⟨fun n hn => h n (List.mem_append_left _ hn), fun n hn => h n (List.mem_append_right _ hn)⟩, fun h n hn => (List.mem_append.mp hn).elim (h.1 n) (h.2 n)⟩
  have a := (h1 (widI (ns ++ ms))).mp (Nat.le_refl _)
  by_cases h : widI ns ≤ widI ms
  · have b := (h1 (widI ms)).mpr ⟨h, Nat.le_refl _⟩
    split <;> omega
  · have b := (h1 (widI ns)).mpr ⟨Nat.le_refl _, by omega⟩
    split <;> omega
theorem sumL_app (ns ms : List Int) : sumL (ns ++ ms) = List.zipWith (· + ·) (sumL ns) (sumL ms) := by
  refine List.ext_getElem? fun k => ?_
  by_cases hk : k < 31
  · rw [sumL_at _ hk, List.getElem?_zipWith, sumL_at _ hk, sumL_at _ hk, sumI_app]
  · rw [List.getElem?_eq_none (by rw [sumL_len]; omega), List.getElem?_eq_none (by rw [List.length_zipWith, sumL_len, sumL_len]; omega)]
def sp_joined : Sp := fun vs H Q _ => ∃ (B : Hp) (v u : V) (ns ms : List Int), vs = [v, u] ∧ MsN B H v ns ∧ MsN B H u ms ∧ ∀ w H', Ex H H' → MsN H H' w (ns ++ ms) → Q w H'
theorem ok_joined (T : TX K mg) : FnOk P w K mg base CX0 1 T.a_joined T.d_joined ["part", "other"] sp_joined := by
  refine T.F_joined.ok sc_joined (fun vs H Q E h => by obtain ⟨B, v, u, ns, ms, rfl, _⟩ := h; rfl) (fun cdv A outer s0 H vs Q E hr h => ?_)
  obtain ⟨B, v, u, ns, ms, rfl, ⟨t, s, rfl, -, -, ht, hs⟩, ⟨t2, s2, rfl, -, -, ht2, hs2⟩, q⟩ := h
  refine ⟨_, (pss_one (ps_ret (pe_tup (pa_cons (pe_op op_add (pe_ix (r := rIxT K) ix_tup (pv 0) pe_int (fun _ _ => rfl)) (pe_ix (r := rIxT K) ix_tup (pv 1) pe_int (fun _ _ => rfl))) (pa_cons (pe_lc (own := [("a", 2), ("b", 3)]) (g := (gTup K 2 (gCons (gName 2) (gCons (gName 3) gNil)))) (tt := tYes) rfl sc_joined.nd (pi_zip (by rfl) T.m_zip (pa_cons (pe_ix (r := rIxT K) ix_tup (pv 0) pe_int (fun _ _ => rfl)) (pa_cons (pe_ix (r := rIxT K) ix_tup (pv 1) pe_int (fun _ _ => rfl)) pa_nil))) (blkOk_by (N := ["part", "other", "a", "b"]) (sc := defScope s_joined) (by decide +kernel)) (fun _ _ _ _ _ => (pg_tup rfl (pgs_cons (pg_name (i := 2) sc_joined.nd rfl (Or.inl rfl)) (pgs_cons (pg_name (i := 3) sc_joined.nd rfl (Or.inl rfl)) pgs_nil)))) (fun _ _ _ _ _ => pts_nil) (fun _ _ _ _ _ => (pe_op op_add (pv 2) (pv 3)))) (pa_cons (pe_callB (call_max2 rfl) (by rfl) T.m_max PyProof.Rows.boot_max (pa_cons (pe_ix (r := rIxT K) ix_tup (pv 0) pe_int (fun _ _ => rfl)) (pa_cons (pe_ix (r := rIxT K) ix_tup (pv 1) pe_int (fun _ _ => rfl)) pa_nil))) pa_nil)))))), ?_⟩
  have ix : ∀ {σ : L2.St} {H' : Hp} (j : Nat) {x : V}, σ[0]? = some (some (.ref t)) → Ex H H' → [V.int (ns.length : Int), .ref s, .int (widI ns : Int)][j]? = some x → Ev (tOp (rIxT K) (tVar 0) (tC (.int (j : Int)))) σ H' x := fun {σ H'} j {x} h e hx => ev_atT (ev_var h) (st_of (e _ _ ht)) ev_c (at_of (j := j) rfl hx)
  have ix2 : ∀ {σ : L2.St} {H' : Hp} (j : Nat) {x : V}, σ[1]? = some (some (.ref t2)) → Ex H H' → [V.int (ms.length : Int), .ref s2, .int (widI ms : Int)][j]? = some x → Ev (tOp (rIxT K) (tVar 1) (tC (.int (j : Int)))) σ H' x := fun {σ H'} j {x} h e hx => ev_atT (ev_var h) (st_of (e _ _ ht2)) ev_c (at_of (j := j) rfl hx)
  refine ev_go (ev_I0 (ix 0 rfl (Ex.refl _) rfl) (ix2 0 rfl (Ex.refl _) rfl)) fun H1 e1 => ?_
  refine el_go (xs := (sumL (ns ++ ms)).map V.int) (el_lcZ _ (Ev.s (ix 1 rfl e1 rfl) (sq_of (e1 _ _ hs))) (Ev.s (ix2 1 rfl e1 rfl) (sq_of (e1 _ _ hs2))) (by simp only [List.length_map, sumL_len]; rfl) (by rw [List.length_map, sumL_len]; omega) (fun _ _ => rfl) fun i x y H2 e2 hx hy => ?_) fun p H2 hp e2 g2 => ?_
  · obtain ⟨n, hn, hi, rfl⟩ := int_at hx
    obtain ⟨m, hm, hi2, rfl⟩ := int_at hy
    exact ⟨.int (n + m), at_int (by rw [sumL_app, List.getElem?_zipWith, hn, hm]), ev_I0 (g := fun i j => .int (i + j)) (ev_var rfl) (ev_var rfl)⟩
  refine ev_go (ev_max2 (ix 2 rfl (e1.trans e2) rfl) (ix2 2 rfl (e1.trans e2) rfl)) fun H3 e3 => ⟨sz_of (show 3 ≤ 100000 by decide), fun w hw => ?_⟩
  have e13 := e1.trans (e2.trans e3)
  refine q _ _ (e13.trans (Ex.new hw)) ⟨w, p, rfl, fresh_back e13 hw, fresh_back e1 hp, ?_, (e3.trans (Ex.new hw)) _ _ g2⟩
  rw [upd_same, widI_app, List.length_append, show (((ns.length + ms.length : Nat)) : Int) = (ns.length : Int) + (ms.length : Int) by omega]
theorem tlc_rngC {ta : TA} {te : TE} {vs : List Nat} {a b c : Int} {n : Nat} {j : Nat} {σ : L2.St} {H : Hp} {Q : VK} (h : EvA ta σ H [.int a, .int b, .int c]) (hr : RgC a b c n)
    (k : ∀ H1, Ex H H1 → ∀ Dl, H1 Dl = none → ∃ Pv : Nat → Hp → Prop, Pv 0 (upd H1 Dl (.lst [])) ∧ (∀ (i : Nat) H', i < n → Pv i H' → wipe ((wipe σ vs).set j (some (.int (a + (i : Nat) * c)))) vs = wipe σ vs ∧ te ((wipe σ vs).set j (some (.int (a + (i : Nat) * c)))) H' fun y H4 => ∃ acc, H4 Dl = some (.lst acc) ∧ acc.length < sizeLine ∧ Pv (i + 1) (upd H4 Dl (.lst (acc ++ [y])))) ∧ (∀ H', Pv n H' → Q (.ref Dl) H')) :
    tLc (iRng3 ta) (gName j) tYes te vs σ H Q := h H (Ex.refl H) _ fun H1 e1 => ⟨a, b, c, n, rfl, hr, fun D hD => by
  obtain ⟨Pv, h0, hs, hd⟩ := k H1 e1 D hD
  refine lc_it walk_rangeC Pv h0 (fun _ _ _ _ => trivial) ?_ hd
  rintro i x H' H'' hi hp ⟨rfl, rfl⟩
  exact hs i H'' hi hp⟩
theorem rs_2 (n : Nat) : Builtin.Range.rangeSize 0 ((n : Int) - 1) 2 = ((n / 2 : Nat) : Int) := by
  unfold Builtin.Range.rangeSize
  rw [if_pos (by decide)]
  split <;> omega
theorem rg_2 {n : Nat} (hn : n ≤ 100000) : RgC 0 ((n : Int) - 1) 2 (n / 2) := by
  refine ⟨by decide, by omega, ?_, rs_2 n⟩
  unfold Builtin.Range.small
  rw [rs_2]
  simp only [Builtin.Range.rangeFitsLong, Bool.and_eq_true, Bool.or_eq_true, decide_eq_true_eq, beq_iff_eq, show ((2 : Int) > 0) by decide, if_true]
  omega
theorem at_in {xs : List V} {i : Nat} {v : V} {n : Int} (h : xs[i]? = some v) (hn : n = (i : Int)) : atI xs n = some v := hn ▸ at_of (j := i) rfl h
theorem lst_new {Dl s : Addr} {H : Hp} {x : HO} (h : H Dl = none) (g : upd H Dl x s = none) : s ≠ Dl := by rintro rfl; rw [upd_same] at g; cases g
def sp_pairs : Sp := fun vs H Q _ => ∃ (B : Hp) (a : Addr) (n : Nat) (f : Nat → List Int), vs = [.ref a] ∧ PtAt B H a n f ∧ n ≤ 40000 ∧ ∀ p H', Ex H H' → PtAt H H' p (n / 2) (fun i => f (2 * i) ++ f (2 * i + 1)) → Q (.ref p) H'
theorem ok_joined_in_pairs (T : TX K mg) : FnOk P w K mg base CX0 2 T.a_joined_in_pairs T.d_joined_in_pairs ["parts"] sp_pairs := by
  refine T.F_joined_in_pairs.ok sc_joined_in_pairs (fun vs H Q E h => by obtain ⟨B, a, n, f, rfl, _⟩ := h; rfl) (fun cdv A outer s0 H vs Q E hr h => ?_)
  obtain ⟨B, a, n, f, rfl, hP, hn, q⟩ := h
  refine ⟨_, (pss_one (ps_ret (pe_lc (own := [("at", 1)]) (g := gName 1) (tt := tYes) rfl sc_joined_in_pairs.nd (pi_range3 (by rfl) T.m_range (pa_cons pe_int (pa_cons (pe_op op_sub (pe_callB (r := rLenS K) call_len_seq (by rfl) T.m_len PySem.boot_len (pa_cons (pv 0) pa_nil)) pe_int) (pa_cons pe_int pa_nil)))) (blkOk_by (N := ["parts", "at"]) (sc := defScope s_joined_in_pairs) (by decide +kernel)) (fun _ _ _ _ _ => pg_name (i := 1) sc_joined_in_pairs.nd rfl (Or.inl rfl)) (fun _ _ _ _ _ => pts_nil) (fun _ _ _ _ _ => (pe_call (ok_joined T) (hr.mono (by decide)) (by rfl) T.g_joined T.F_joined.kp T.b_joined .nil pass0 (pa_cons (pe_ix (r := rIxL K) ix_list (pv 0) (pv 1) (fun _ _ => rfl)) (pa_cons (pe_ix (r := rIxL K) ix_list (pv 0) (pe_op op_add (pv 1) pe_int) (fun _ _ => rfl)) pa_nil))))))), ?_⟩
  obtain ⟨xs, ga, -, hl, hx⟩ := hP
  refine tlc_rngC (a := 0) (b := (n : Int) - 1) (c := 2) (n := n / 2) (ea_cons ev_c (ea_cons (Ev.is (ev_I0 (ev_lenS (Ev.s (ev_var rfl) (sq_of ga))) ev_c) (congrArg V.int (by rw [hl]))) (ea_cons ev_c ea_nil))) (rg_2 (by omega)) fun H1 e1 Dl hD => ⟨fun i H' => Ex H1 H' ∧ ∃ acc : List V, H' Dl = some (.lst acc) ∧ acc.length = i ∧ ∀ j, j < i → ∃ v, acc[j]? = some v ∧ MsN (upd H1 Dl (.lst [])) H' v (f (2 * j) ++ f (2 * j + 1)), ⟨Ex.new hD, [], upd_same, rfl, fun j hj => by omega⟩, ?_, ?_⟩
  · rintro i H' hi ⟨ex, acc, gD, hal, ha⟩
    refine ⟨rfl, ?_⟩
    obtain ⟨v, hv, hv2⟩ := hx (2 * i) (by omega)
    obtain ⟨u, hu, hu2⟩ := hx (2 * i + 1) (by omega)
    have e' := e1.trans ex
    have hga : SqL K H' a xs := sq_of (e' _ _ ga)
    refine ea_go (ea_cons (ev_ixS (i := 0) (n := 0 + (i : Int) * 2) (Ev.s (ev_var rfl) hga) (ev_var rfl) (at_in hv (by omega))) (ea_cons (ev_ixS (i := 0) (n := 0 + (i : Int) * 2 + 1) (Ev.s (ev_var rfl) hga) (ev_I0 (g := fun i j => .int (i + j)) (ev_var rfl) ev_c) (at_in hu (by omega))) ea_nil)) fun H2 e2 => ⟨B, v, u, f (2 * i), f (2 * i + 1), rfl, hv2.ex (e'.trans e2), hu2.ex (e'.trans e2), fun z H3 e3 hz => ⟨acc, (e2.trans e3) _ _ gD, sz_lt (by omega), Ex.mut (ex.trans (e2.trans e3)) hD, acc ++ [z], upd_same, by rw [List.length_append, hal]; rfl, fun j hj => ?_⟩⟩
    have hG : ∀ {y : V} {ns : List Int}, MsN (upd H1 Dl (.lst [])) H3 y ns → MsN (upd H1 Dl (.lst [])) (upd H3 Dl (.lst (acc ++ [z]))) y ns := fun h => h.fro (c := Dl) (o := .lst []) upd_same (FrO.upd (FrO.ex (Ex.refl _)))
    by_cases hj2 : j < i
    · obtain ⟨y, hy, hy2⟩ := ha j hj2
      exact ⟨y, by rw [List.getElem?_append_left (by omega)]; exact hy, hG (hy2.ex (e2.trans e3))⟩
    · obtain rfl : j = i := by omega
      refine ⟨z, by rw [List.getElem?_append_right (by omega), hal, Nat.sub_self]; rfl, hG (hz.back (c := Dl) (o := .lst acc) (fun b o hb hbo => ?_) (e2 _ _ gD))⟩
      rw [upd_ne hb] at hbo
      exact (ex.trans e2) _ _ hbo
  · rintro H' ⟨ex, acc, gD, hal, ha⟩
    refine q Dl H' (e1.trans ex) ⟨acc, gD, fresh_back e1 hD, hal, fun j hj => ?_⟩
    obtain ⟨y, hy, hy2⟩ := ha j hj
    exact ⟨y, hy, hy2.low (e1.trans (Ex.new hD))⟩

/-! ### the parts of the residuals -/
def cutN (ns : List Int) (a b : Nat) : List Int := (ns.drop a).take (b - a)
theorem cutN_join (ns : List Int) {a b c : Nat} (h1 : a ≤ b) (h2 : b ≤ c) : cutN ns a b ++ cutN ns b c = cutN ns a c := by
  unfold cutN
  rw [show c - a = (b - a) + (c - b) by omega, List.take_add, List.drop_drop, show a + (b - a) = b by omega]
theorem cutN_len (ns : List Int) (a b : Nat) : (cutN ns a b).length ≤ ns.length := by unfold cutN; rw [List.length_take, List.length_drop]; omega
theorem q_appE {σ : L2.St} {H : Hp} {ta te : TE} {l : Addr} {xs : List V} {D : Ends} {tz : TS} {S : V → Hp → Prop} (hl : H l = some (.lst xs)) (ha : Ev ta σ H (.ref l)) (h : EvX te σ H S) (hz : xs.length < 100000) (k : ∀ v H1, Ex H H1 → S v H1 → tz D σ (upd H1 l (.lst (xs ++ [v])))) : tSeq (tDrop (tBM K "list" rAppend ta (tCons te tNil))) tz D σ H :=
  ha H (Ex.refl _) _ fun H1 e1 => ⟨.inl ⟨rfl, xs, sq_of (e1 _ _ hl)⟩, h H1 e1 _ fun v H2 e2 hv => ⟨l, xs, v, rfl, rfl, (e1.trans e2) _ _ hl, sz_lt hz, k v H2 (e1.trans e2) hv⟩⟩
def sp_mparts (K : PySem.W.Frag) : Sp := fun vs H Q _ => ∃ (a b : Addr) (ns ws : List Int) (n : Nat) (st : Nat → Nat), vs = [.ref a, .ref b] ∧ SqL K H a (ns.map V.int) ∧ SqL K H b (ws.map V.int) ∧ ws.length = n ∧ n ≤ 40000 ∧ ns.length ≤ 40000 ∧ st 0 = 0 ∧ (∀ i, i < n → ws[i]? = some ((st (i + 1) : Int) - (st i : Int))) ∧ ∀ p H', Ex H H' → PtAt H H' p n (fun i => cutN ns (st i) (st (i + 1))) → Q (.ref p) H'
theorem ok_measured_parts (T : TX K mg) : FnOk P w K mg base CX0 3 T.a_measured_parts T.d_measured_parts ["residuals", "sizes"] (sp_mparts K) := by
  refine T.F_measured_parts.ok sc_measured_parts (fun vs H Q E h => by obtain ⟨a, b, ns, ws, n, st, rfl, _⟩ := h; rfl) (fun cdv A outer s0 H vs Q E hr h => ?_)
  obtain ⟨a, b, ns, ws, n, st, rfl, hA, hB, hwl, hn, hnl, hst0, hws, q⟩ := h
  refine ⟨_, (pss_cons (ps_set (i := 2) sc_measured_parts.nd rfl (Or.inl rfl) (pe_lst pa_nil))
      (pss_cons (ps_set (i := 3) sc_measured_parts.nd rfl (Or.inl rfl) pe_int)
      (pss_cons (ps_for PassesOwn.never rfl (pi_list (pv 1)) (pg_name (i := 4) sc_measured_parts.nd rfl (Or.inl rfl)) (pss_cons (ps_expr (pe_bm PySem.F.plainAttrs_list PySem.F.slot_list_append PySem.F.type_list_append mt_append (pv 2) (pa_cons (pe_call (ok_measured T) (hr.mono (by decide)) (by rfl) T.g_measured T.F_measured.kp T.b_measured .nil pass0 (pa_cons (pe_slice (r := rSlL K) sl_list (pv 0) (po_some (pv 3)) (po_some (pe_op op_add (pv 3) (pv 4)))) pa_nil)) pa_nil)))
        (pss_one (ps_aug (i := 3) sc_measured_parts.nd rfl (Or.inl rfl) (pv 4) ip_add))))
      (pss_one (ps_ret (pv 2)))))), ?_⟩
  refine q_asgL (xs := []) (el_lst ea_nil (by decide)) fun p B hp e1 g1 => ?_
  refine q_asg ev_c fun H2 e2 => ?_
  refine q_forLn (K := K) (a := b) (ev_var rfl) (ex_l (e1.trans e2) hB) (fun i σ' H' => ∃ z4, σ' = [some (.ref a), some (.ref b), some (.ref p), some (.int (st i : Int)), z4] ∧ FrO p B H' ∧ ∃ acc : List V, H' p = some (.lst acc) ∧ acc.length = i ∧ ∀ j, j < i → ∃ v, acc[j]? = some v ∧ MsN B H' v (cutN ns (st j) (st (j + 1)))) (fun H3 e3 => ⟨none, by rw [hst0]; rfl, FrO.ex (e2.trans e3), [], (e2.trans e3) _ _ g1, rfl, fun j hj => by omega⟩) (fun i σ' H' _ h => ?_) ?_ ?_
  · obtain ⟨_, _, f, _⟩ := h
    exact sq_keep (e1 := e1) (hp := hp) f hB
  · rintro i x σ' H' hx ⟨z4, rfl, f, acc, gp, hal, ha⟩
    obtain ⟨w', hw', hi, rfl⟩ := int_at hx
    rw [hws i (by omega)] at hw'
    injection hw' with hw'
    subst hw'
    refine q_appE (S := fun v G => MsN H' G v (cutN ns (st i) (st (i + 1)))) gp (ev_var rfl) (fun H1 e Q' q' => ?_) (by omega) fun v H1 e1' hv => ?_
    · exact el_mid (i := st i) (j := st (i + 1)) (Ev.s (ev_var rfl) (ex_l e (sq_keep (e1 := e1) (hp := hp) f hA))) (ev_var rfl) (Ev.is (ev_I0 (g := fun i j => .int (i + j)) (ev_var rfl) (ev_var rfl)) (congrArg V.int (by omega))) H1 (Ex.refl _) _ fun pa H2 hpa e2' g2 => ⟨pa, cutN ns (st i) (st (i + 1)), rfl, sq_of g2, Nat.le_trans (cutN_len ..) hnl, fun v H3 e3 hv => q' v H3 (e2'.trans e3) (hv.low (e.trans e2'))⟩
    refine s_augR rfl (ev_var rfl) fun H4 e4 => ⟨some (.int ((st (i + 1) : Int) - (st i : Int))), ?_, (((f.trans (FrO.ex e1')).upd).trans (FrO.ex e4)), acc ++ [v], e4 _ _ upd_same, by rw [List.length_append, hal]; rfl, fun j hj => ?_⟩
    · show [some (V.ref a), some (V.ref b), some (V.ref p), some (V.int ((st i : Int) + ((st (i + 1) : Int) - (st i : Int)))), _] = _
      rw [show ((st i : Int) + ((st (i + 1) : Int) - (st i : Int))) = (st (i + 1) : Int) by omega]
    · have hG : ∀ {y : V} {ms : List Int}, MsN B H1 y ms → MsN B H4 y ms := fun h => (h.fro (c := p) (o := .lst []) g1 (FrO.upd (FrO.ex (Ex.refl _)))).ex e4
      by_cases hj2 : j < i
      · obtain ⟨y, hy, hy2⟩ := ha j hj2
        exact ⟨y, by rw [List.getElem?_append_left (by omega)]; exact hy, hG (hy2.ex e1')⟩
      · obtain rfl : j = i := by omega
        exact ⟨v, by rw [List.getElem?_append_right (by omega), hal, Nat.sub_self]; rfl, hG (hv.back (c := p) (o := .lst acc) f gp)⟩
  · rintro σ' H' ⟨z4, rfl, f, acc, gp, hal, ha⟩
    rw [List.length_map, hwl] at hal
    have ha' : ∀ j, j < n → ∃ v, acc[j]? = some v ∧ MsN B H' v (cutN ns (st j) (st (j + 1))) := fun j hj => ha j (by rw [List.length_map]; omega)
    refine s_ret (v := .ref p) (ev_var rfl) fun H5 e5 => q p H5 ((FrO.after f e1 hp).trans e5) ⟨acc, e5 _ _ gp, hp, hal, fun j hj => ?_⟩
    obtain ⟨y, hy, hy2⟩ := ha' j hj
    exact ⟨y, hy, (hy2.ex e5).low e1⟩

/-! ### entries of the parts -/
def TxH (H H' : Hp) : Prop := ∀ a xs, H a = some (.tup xs) → H' a = some (.tup xs)
theorem TxH.ex {H H' : Hp} (e : Ex H H') : TxH H H' := fun _ _ h => e _ _ h
theorem TxH.trans {H H1 H2 : Hp} (x : TxH H H1) (y : TxH H1 H2) : TxH H H2 := fun a xs h => y a xs (x a xs h)
theorem TxH.upd {H : Hp} {c : Addr} {ys : List V} {o : HO} (h : H c = some (.lst ys)) : TxH H (upd H c o) := fun a xs ha => by rw [upd_ne (by rintro rfl; rw [h] at ha; cases ha)]; exact ha
theorem EntV.tx {H H' : Hp} {v : V} {e : (Str × Int) × Int} (h : EntV H v e) (x : TxH H H') : EntV H' v e := by obtain ⟨t, t2, h1, h2, h3⟩ := h; exact ⟨t, t2, h1, x _ _ h2, x _ _ h3⟩
def CodAt (H : Hp) (rs : List V) (cs : List (Str × Int)) : Prop := rs.length = cs.length ∧ ∀ (i : Nat) (c : Str × Int), cs[i]? = some c → ∃ t : Addr, rs[i]? = some (.ref t) ∧ H t = some (.tup [.str c.1, .int c.2])
theorem CodAt.tx {H H' : Hp} {rs : List V} {cs : List (Str × Int)} (h : CodAt H rs cs) (x : TxH H H') : CodAt H' rs cs := ⟨h.1, fun i c hc => by obtain ⟨t, h1, h2⟩ := h.2 i c hc; exact ⟨t, h1, x _ _ h2⟩⟩
theorem CodAt.d {H : Hp} : ∀ {cs : List (Str × Int)} {rs : List V}, CodAt H rs cs → DpAll K H rs (cs.map codD)
  | [], rs, h => by
    obtain rfl : rs = [] := List.eq_nil_of_length_eq_zero h.1
    exact .nil
  | c :: cs, [], h => by cases h.1
  | c :: cs, r :: rs, h => by
    obtain ⟨t, h1, h2⟩ := h.2 0 c rfl
    cases h1
    exact .cons (.tup (st_of h2) (.cons (.str _) (.cons (.int _) .nil))) (CodAt.d ⟨Nat.succ.inj h.1, fun i c hc => h.2 (i + 1) c hc⟩)
def codsF (f : Nat → List Int) (n m : Nat) : List (Str × Int) := (List.range n).map fun k => (entF (f k) m).1
def totF (f : Nat → List Int) (n m : Nat) : Int := 6 + ((List.range n).map fun k => (entF (f k) m).2).sum
theorem ent_refs {H : Hp} {acc : List V} {e : Nat → (Str × Int) × Int} : ∀ n, (∀ j, j < n → ∃ v, acc[j]? = some v ∧ EntV H v (e j)) → ∃ rs : List V, rs.length = n ∧ ∀ j, j < n → ∃ t t2, acc[j]? = some (.ref t) ∧ rs[j]? = some (.ref t2) ∧ H t = some (.tup [.ref t2, .int (e j).2]) ∧ H t2 = some (.tup [.str (e j).1.1, .int (e j).1.2])
  | 0, _ => ⟨[], rfl, fun j hj => by omega⟩
  | n + 1, h => by
    obtain ⟨rs, hl, hr⟩ := ent_refs n fun j hj => h j (by omega)
    obtain ⟨v, hv, t, t2, rfl, h1, h2⟩ := h n (by omega)
    refine ⟨rs ++ [.ref t2], by rw [List.length_append, hl]; rfl, fun j hj => ?_⟩
    by_cases hj2 : j < n
    · obtain ⟨u, u2, g1, g2, g3, g4⟩ := hr j hj2
      exact ⟨u, u2, g1, by rw [List.getElem?_append_left (by omega)]; exact g2, g3, g4⟩
    · obtain rfl : j = n := by omega
      exact ⟨t, t2, hv, by rw [List.getElem?_append_right (by omega), hl, Nat.sub_self]; rfl, h1, h2⟩
/-- [e for x, y in xs], xs a list of pairs -/
theorem el_lcP {j1 j2 : Nat} {t1 te : TE} {vs : List Nat} {σ : L2.St} {H : Hp} {xs : List V} (zs : List V) (h1 : EvS K t1 σ H xs) (hz : zs.length = xs.length) (hb : zs.length ≤ 50000) (hw : ∀ x y, wipe (((wipe σ vs).set j1 (some x)).set j2 (some y)) vs = wipe σ vs)
    (he : ∀ (i : Nat) (x : V), xs[i]? = some x → ∃ t y z w', x = .ref t ∧ H t = some (.tup [y, z]) ∧ zs[i]? = some w' ∧ ∀ H1, Ex H H1 → Ev te (((wipe σ vs).set j1 (some y)).set j2 (some z)) H1 w') :
    EvL (tLc (iList K t1) (gTup K 2 (gCons (gName j1) (gCons (gName j2) gNil))) tYes te vs) σ H zs := fun H0 e Q q =>
  h1 H0 e _ fun p H1 e1 hp => ⟨p, rfl, ⟨xs, hp⟩, fun D hD => lc_list (xs := xs) (fun i H' => Ex H1 H' ∧ H' D = some (.lst (zs.take i))) ⟨Ex.new hD, upd_same⟩ (fun i H' _ h => ex_l h.1 hp)
    (fun i x H' hi h => by
      obtain ⟨t, y, z, w', rfl, ht, hz1, hz2⟩ := he i x hi
      have e' := (e.trans e1).trans h.1
      have hl : i < xs.length := (List.getElem?_eq_some_iff.mp hi).1
      refine ⟨t, [y, z], rfl, st_of (e' _ _ ht), rfl, y, [z], rfl, z, [], rfl, rfl, hw y z, ?_⟩
      refine hz2 H' e' H' (Ex.refl _) _ fun H4 e4 => ⟨zs.take i, e4 _ _ h.2, sz_lt (by rw [List.length_take]; omega), Ex.mut (h.1.trans e4) hD, ?_⟩
      rw [upd_same, take_snoc hz1])
    (fun H' h => q D H' (fresh_back e1 hD) (e1.trans h.1) (by rw [h.2, ← hz, List.take_length]))⟩
theorem eu_tupOf {te : TE} {σ : L2.St} {H : Hp} {xs : List V} (h : EvL te σ H xs) : EvU (tCB (fun xs H Q => ∃ p ys, xs = [V.ref p] ∧ ((SqL K H p ys ∧ ∀ l : Addr, H l = none → Q (V.ref l) (upd H l (.tup ys))) ∨ SqT K H p ys ∧ Q (V.ref p) H)) (tCons te tNil)) σ H xs := fun H1 e Q q =>
  h H1 e _ fun p H2 hp e2 g2 => ⟨p, xs, rfl, .inl ⟨sq_of g2, fun l hl => q l _ (fresh_back e2 hl) (e2.trans (Ex.new hl)) upd_same⟩⟩
theorem tlc_lstM {t1 te : TE} {vs : List Nat} {xs : List V} {j : Nat} {σ : L2.St} {H : Hp} {Q : VK} (h : EvS K t1 σ H xs)
    (k : ∀ p H1, Ex H H1 → SqL K H1 p xs → ∀ Dl, H1 Dl = none → ∃ Pv : Nat → Hp → Prop, Pv 0 (upd H1 Dl (.lst [])) ∧ (∀ (i : Nat) H', Pv i H' → SqL K H' p xs) ∧ (∀ (i : Nat) (x : V) H', xs[i]? = some x → Pv i H' → wipe ((wipe σ vs).set j (some x)) vs = wipe σ vs ∧ te ((wipe σ vs).set j (some x)) H' fun y H4 => ∃ acc, H4 Dl = some (.lst acc) ∧ acc.length < sizeLine ∧ Pv (i + 1) (upd H4 Dl (.lst (acc ++ [y])))) ∧ (∀ H', Pv xs.length H' → Q (.ref Dl) H')) :
    tLc (iList K t1) (gName j) tYes te vs σ H Q := h H (Ex.refl H) _ fun p H1 e1 hp => ⟨p, rfl, ⟨xs, hp⟩, fun Dl hD => by
  obtain ⟨Pv, h0, hl, hs, hd⟩ := k p H1 e1 hp Dl hD
  exact lc_list (xs := xs) Pv h0 (fun i H' _ p => hl i H' p) (fun i x H' hi p => hs i x H' hi p) hd⟩
theorem q_asgQ {te : TE} {g : TG} {tz : TS} {D : Ends} {σ : L2.St} {H : Hp} (h : te σ H fun x H2 => g x σ H2 (tz D)) : tSeq (tAsg te g) tz D σ H := h
def sp_entries : Sp := fun vs H Q _ => ∃ (B : Hp) (a : Addr) (n m : Nat) (f : Nat → List Int), vs = [.ref a, .int (m : Int)] ∧ PtAt B H a n f ∧ m ≤ 1 ∧ n ≤ 40000 ∧ (∀ i, i < n → (f i).length ≤ 40000) ∧ ∀ t tc rs H', Ex H H' → H' t = some (.tup [.ref tc, .int (totF f n m)]) → H' tc = some (.tup rs) → CodAt H' rs (codsF f n m) → Q (.ref t) H'
theorem ok_entries (T : TX K mg) : FnOk P w K mg base CX0 2 T.a_entries T.d_entries ["parts", "method"] sp_entries := by
  refine T.F_entries.ok sc_entries (fun vs H Q E h => by obtain ⟨B, a, n, m, f, rfl, _⟩ := h; rfl) (fun cdv A outer s0 H vs Q E hr h => ?_)
  obtain ⟨B, a, n, m, f, rfl, ⟨xs, ga, -, hxl, hx⟩, hm, hn, hf, q⟩ := h
  refine ⟨_, (pss_cons (ps_setLc (i := 2) (own := [("part", 4)]) (g := gName 4) (tt := tYes) rfl sc_entries.nd rfl rfl (sw_true rfl rfl rfl (by decide +kernel)) (pi_list (pv 0)) (blkOk_by (N := ["parts", "method", "entries", "codings", "part", "coding", "_", "bits"]) (sc := defScope s_entries) (by decide +kernel)) (fun _ _ _ _ _ => pg_name (i := 4) sc_entries.nd rfl (Or.inl rfl)) (fun _ _ _ _ _ => pts_nil) (fun _ _ _ _ _ => (pe_call (ok_entry T) (hr.mono (by decide)) (by rfl) T.g_entry T.F_entry.kp T.b_entry .nil pass0 (pa_cons (pv 4) (pa_cons (pv 1) pa_nil)))))
      (pss_cons (ps_set (i := 3) sc_entries.nd rfl (Or.inl rfl) (pe_callTy call_tuple_of (by rfl) T.m_tuple PyProof.Rows.boot_tuple (pa_cons (pe_lc (own := [("coding", 5), ("_", 6)]) (g := (gTup K 2 (gCons (gName 5) (gCons (gName 6) gNil)))) (tt := tYes) rfl sc_entries.nd (pi_list (pv 2)) (blkOk_by (N := ["parts", "method", "entries", "codings", "part", "coding", "_", "bits"]) (sc := defScope s_entries) (by decide +kernel)) (fun _ _ _ _ _ => (pg_tup rfl (pgs_cons (pg_name (i := 5) sc_entries.nd rfl (Or.inl rfl)) (pgs_cons (pg_name (i := 6) sc_entries.nd rfl (Or.inl rfl)) pgs_nil)))) (fun _ _ _ _ _ => pts_nil) (fun _ _ _ _ _ => (pv 5))) pa_nil)))
      (pss_one (ps_ret (pe_tup (pa_cons (pv 3) (pa_cons (pe_op op_add (pe_glob (by rfl) T.c_HEAD_BITS T.r_HEAD_BITS) (pe_callB (r := rSum K) (cr_sum rfl) (by rfl) T.m_sum PyProof.Rows.boot_sum (pa_cons (pe_lc (own := [("_", 6), ("bits", 7)]) (g := (gTup K 2 (gCons (gName 6) (gCons (gName 7) gNil)))) (tt := tYes) rfl sc_entries.nd (pi_list (pv 2)) (blkOk_by (N := ["parts", "method", "entries", "codings", "part", "coding", "_", "bits"]) (sc := defScope s_entries) (by decide +kernel)) (fun _ _ _ _ _ => (pg_tup rfl (pgs_cons (pg_name (i := 6) sc_entries.nd rfl (Or.inl rfl)) (pgs_cons (pg_name (i := 7) sc_entries.nd rfl (Or.inl rfl)) pgs_nil)))) (fun _ _ _ _ _ => pts_nil) (fun _ _ _ _ _ => (pv 7))) pa_nil))) pa_nil))))))), ?_⟩
  refine q_asgQ ?_
  refine tlc_lstM (Ev.s (ev_var rfl) (sq_of ga)) fun p H1 e1 hp Dl hD => ⟨fun i H' => Ex H1 H' ∧ ∃ acc : List V, H' Dl = some (.lst acc) ∧ acc.length = i ∧ ∀ j, j < i → ∃ v, acc[j]? = some v ∧ EntV H' v (entF (f j) m), ⟨Ex.new hD, [], upd_same, rfl, fun j hj => by omega⟩, fun i H' h => ex_l h.1 hp, ?_, ?_⟩
  · rintro i x H' hi ⟨ex, acc, gD, hal, ha⟩
    have hin : i < n := by have := (List.getElem?_eq_some_iff.mp hi).1; omega
    obtain ⟨v, hv, hv2⟩ := hx i hin
    rw [hi] at hv
    cases hv
    refine ⟨rfl, ea_go (ea_cons (ev_var rfl) (ea_cons (ev_var rfl) ea_nil)) fun H2 e2 => ⟨B, x, f i, m, rfl, hv2.ex (e1.trans (ex.trans e2)), hm, hf i hin, fun v H3 e3 hv => ⟨acc, (e2.trans e3) _ _ gD, sz_lt (by omega), Ex.mut (ex.trans (e2.trans e3)) hD, acc ++ [v], upd_same, by rw [List.length_append, hal]; rfl, fun j hj => ?_⟩⟩⟩
    have hT : TxH H3 (upd H3 Dl (.lst (acc ++ [v]))) := TxH.upd ((e2.trans e3) _ _ gD)
    by_cases hj2 : j < i
    · obtain ⟨y, hy, hy2⟩ := ha j hj2
      exact ⟨y, by rw [List.getElem?_append_left (by omega)]; exact hy, (hy2.ex (e2.trans e3)).tx hT⟩
    · obtain rfl : j = i := by omega
      exact ⟨v, by rw [List.getElem?_append_right (by omega), hal, Nat.sub_self]; rfl, hv.tx hT⟩
  rintro H2 ⟨ex, acc, gD, hal, ha⟩
  rw [hxl] at hal ha
  obtain ⟨rs, hrl, hrs⟩ := ent_refs n ha
  have e12 := e1.trans ex
  refine q_asgU (xs := rs) (eu_tupOf (el_lcP rs (Ev.s (ev_var rfl) (sq_of gD)) (by omega) (by omega) (fun _ _ => rfl) fun i x hx => ?_)) fun tc H3 htc e3 gtc => ?_
  · obtain ⟨t, t2, h1, h2, h3, h4⟩ := hrs i (by have := (List.getElem?_eq_some_iff.mp hx).1; omega)
    rw [hx] at h1
    cases h1
    exact ⟨t, _, _, .ref t2, rfl, h3, h2, fun H1 e => ev_var rfl⟩
  have gD3 := e3 _ _ gD
  refine s_retU (xs := [.ref tc, .int (totF f n m)]) (eu_tup (ea_cons (ev_var rfl) (ea_cons (ev_I0 (g := fun i j => .int (i + j)) (ev_relC T.r_HEAD_BITS) (ev_sum (ns := (List.range n).map fun k => (entF (f k) m).2) (EvR.s (EvL.r (el_lcP _ (Ev.s (ev_var rfl) (sq_of gD3)) (by rw [List.length_map, List.length_map, List.length_range]; omega) (by rw [List.length_map, List.length_map, List.length_range]; omega) (fun _ _ => rfl) fun i x hx => ?_))))) ea_nil)) (Nat.le_of_ble_eq_true rfl)) fun t H4 ht e4 g4 => q t tc rs H4 (e12.trans (e3.trans e4)) g4 (e4 _ _ gtc) ⟨by unfold codsF; rw [List.length_map, List.length_range, hrl], fun i c hc => ?_⟩
  · have hi : i < n := by have := (List.getElem?_eq_some_iff.mp hx).1; omega
    obtain ⟨t, t2, h1, h2, h3, h4⟩ := hrs i hi
    rw [hx] at h1
    cases h1
    exact ⟨t, _, _, .int (entF (f i) m).2, rfl, e3 _ _ h3, at_int (by rw [List.getElem?_map, List.getElem?_range hi]; rfl), fun H1 e => ev_var rfl⟩
  · unfold codsF at hc
    have hi : i < n := by have := (List.getElem?_eq_some_iff.mp hc).1; rw [List.length_map, List.length_range] at this; omega
    rw [List.getElem?_map, List.getElem?_range hi] at hc
    cases hc
    obtain ⟨t, t2, h1, h2, h3, h4⟩ := hrs i hi
    exact ⟨t2, h2, (e3.trans e4) _ _ h4⟩

/-! ### the best coding -/
def chk (ns : List Int) (g p : Nat) (k : Nat) : List Int := cutN ns (k * ((ns.length + g) / 2 ^ p) - g) ((k + 1) * ((ns.length + g) / 2 ^ p) - g)
def qdF (ns : List Int) (g m p : Nat) : Qd := ⟨totF (chk ns g p) (2 ^ p) m, m, p, codsF (chk ns g p) (2 ^ p) m⟩
def LegP (s g p : Nat) : Prop := s % 2 ^ p = 0 ∧ g < s / 2 ^ p
instance (s g p : Nat) : Decidable (LegP s g p) := inferInstanceAs (Decidable (_ ∧ _))
def LegQ (s g hi M m p : Nat) : Prop := m < M ∧ p ≤ hi ∧ LegP s g p
def BestQ (ns : List Int) (g hi M : Nat) (x : Qd) : Prop := ∃ m p, LegQ (ns.length + g) g hi M m p ∧ x = qdF ns g m p ∧ ∀ m' p', LegQ (ns.length + g) g hi M m' p' → ¬ ltQ (qdF ns g m' p') x
theorem BestQ.uniq {ns : List Int} {g hi M : Nat} {x y : Qd} (h1 : BestQ ns g hi M x) (h2 : BestQ ns g hi M y) : x = y := by
  obtain ⟨m, p, l1, rfl, a1⟩ := h1
  obtain ⟨m', p', l2, rfl, a2⟩ := h2
  have b1 := a1 m' p' l2
  have b2 := a2 m p l1
  unfold ltQ qdF at b1 b2
  have e : m = m' ∧ p = p' := by
    dsimp only at b1 b2
    omega
  rw [e.1, e.2]
theorem legP_zero {s g : Nat} (h : g < s) : LegP s g 0 := ⟨by rw [Nat.pow_zero]; exact Nat.mod_one s, by rw [Nat.pow_zero, Nat.div_one]; exact h⟩
theorem legP_down {s g p : Nat} (h : LegP s g (p + 1)) : LegP s g p := by
  obtain ⟨h1, h2⟩ := h
  rw [Nat.pow_succ] at h1 h2
  refine ⟨Nat.mod_eq_zero_of_dvd (Nat.dvd_trans ⟨2, rfl⟩ (Nat.dvd_of_mod_eq_zero h1)), ?_⟩
  rw [← Nat.div_div_eq_div_mul] at h2
  omega
theorem legP_le {s g p : Nat} : ∀ d, LegP s g (p + d) → LegP s g p
  | 0, h => h
  | d + 1, h => legP_le d (legP_down h)
theorem chk_join {ns : List Int} {g p : Nat} (h : LegP (ns.length + g) g (p + 1)) (k : Nat) : chk ns g (p + 1) (2 * k) ++ chk ns g (p + 1) (2 * k + 1) = chk ns g p k := by
  have e : (ns.length + g) / 2 ^ p = 2 * ((ns.length + g) / 2 ^ (p + 1)) := by
    have h1 := h.1
    rw [Nat.pow_succ] at h1 ⊢
    rw [← Nat.div_div_eq_div_mul]
    have hp := Nat.two_pow_pos p
    have h0 : (ns.length + g) % 2 ^ p = 0 := Nat.mod_eq_zero_of_dvd (Nat.dvd_trans ⟨2, rfl⟩ (Nat.dvd_of_mod_eq_zero h1))
    have h2 : ((ns.length + g) / 2 ^ p) % 2 = 0 := by
      obtain ⟨c, hc⟩ := Nat.dvd_of_mod_eq_zero h1
      rw [hc, Nat.mul_assoc, Nat.mul_div_cancel_left _ hp]
      omega
    omega
  unfold chk
  rw [e]
  generalize (ns.length + g) / 2 ^ (p + 1) = W
  have a1 : 2 * k * W ≤ (2 * k + 1) * W := Nat.mul_le_mul_right _ (by omega)
  have a2 : (2 * k + 1) * W ≤ (2 * k + 1 + 1) * W := Nat.mul_le_mul_right _ (by omega)
  rw [cutN_join ns (by omega) (by omega)]
  congr 1
  · rw [← Nat.mul_assoc, Nat.mul_comm k 2]
  · rw [← Nat.mul_assoc, Nat.add_mul k 1 2, Nat.mul_comm k 2]
theorem two_half (d : Nat) : 2 ^ (d + 1) / 2 = 2 ^ d := by rw [Nat.pow_succ, Nat.mul_div_cancel _ (by decide)]
theorem PtAt.congr {B H : Hp} {a : Addr} {n n' : Nat} {f f' : Nat → List Int} (h : PtAt B H a n f) (hn : n = n') (e : ∀ i, i < n → f i = f' i) : PtAt B H a n' f' := by
  subst hn
  obtain ⟨vs, h1, h2, h3, h4⟩ := h
  exact ⟨vs, h1, h2, h3, fun i hi => by rw [← e i hi]; exact h4 i hi⟩
/-- the candidates -/
def rowQ (ns : List Int) (g p M : Nat) : List Qd := (List.range M).map fun m => qdF ns g m p
def qsF (ns : List Int) (g top M : Nat) : Nat → List Qd
  | 0 => []
  | i + 1 => qsF ns g top M i ++ rowQ ns g (top - i) M
theorem mem_row {ns : List Int} {g p M : Nat} {x : Qd} : x ∈ rowQ ns g p M ↔ ∃ m, m < M ∧ x = qdF ns g m p := by
  unfold rowQ
  rw [List.mem_map]
  exact ⟨fun ⟨m, h1, h2⟩ => ⟨m, List.mem_range.mp h1, h2.symm⟩, fun ⟨m, h1, h2⟩ => ⟨m, List.mem_range.mpr h1, h2.symm⟩⟩
theorem mem_qs {ns : List Int} {g top M : Nat} {x : Qd} : ∀ {i : Nat}, x ∈ qsF ns g top M i ↔ ∃ j m, j < i ∧ m < M ∧ x = qdF ns g m (top - j)
  | 0 => ⟨fun h => (List.not_mem_nil h).elim, fun ⟨j, m, h, _⟩ => absurd h (by omega)⟩
  | i + 1 => by
    unfold qsF
    rw [List.mem_append, mem_qs, mem_row]
    refine ⟨fun h => ?_, fun ⟨j, m, hj, hm, hx⟩ => ?_⟩
    · rcases h with ⟨j, m, hj, hm, hx⟩ | ⟨m, hm, hx⟩
      · exact ⟨j, m, by omega, hm, hx⟩
      · exact ⟨i, m, by omega, hm, hx⟩
    · by_cases h : j < i
      · exact .inl ⟨j, m, h, hm, hx⟩
      · obtain rfl : j = i := by omega
        exact .inr ⟨m, hm, hx⟩
theorem row_pw (ns : List Int) (g p : Nat) : ∀ M, (rowQ ns g p M).Pairwise difQ
  | 0 => List.Pairwise.nil
  | M + 1 => by
    unfold rowQ
    rw [List.range_succ, List.map_append, List.pairwise_append]
    refine ⟨row_pw ns g p M, List.pairwise_singleton .., fun x hx y hy => ?_⟩
    obtain ⟨m, hm, rfl⟩ := mem_row.mp hx
    rw [List.mem_singleton.mp hy]
    unfold difQ qdF
    dsimp only
    omega
theorem qs_pw (ns : List Int) (g top M : Nat) : ∀ i, i ≤ top + 1 → (qsF ns g top M i).Pairwise difQ
  | 0, _ => List.Pairwise.nil
  | i + 1, h => by
    unfold qsF
    rw [List.pairwise_append]
    refine ⟨qs_pw ns g top M i (by omega), row_pw .., fun x hx y hy => ?_⟩
    obtain ⟨j, m, hj, hm, rfl⟩ := mem_qs.mp hx
    obtain ⟨m', hm', rfl⟩ := mem_row.mp hy
    unfold difQ qdF
    dsimp only
    omega
def QdAt (H : Hp) (v : V) (x : Qd) : Prop := ∃ (t tc : Addr) (rs : List V), v = .ref t ∧ H t = some (.tup [.int x.b, .int (x.m : Int), .int (x.p : Int), .ref tc]) ∧ H tc = some (.tup rs) ∧ CodAt H rs x.cs
theorem QdAt.tx {H H' : Hp} {v : V} {x : Qd} (h : QdAt H v x) (t : TxH H H') : QdAt H' v x := by obtain ⟨a, tc, rs, h0, h1, h2, h3⟩ := h; exact ⟨a, tc, rs, h0, t _ _ h1, t _ _ h2, h3.tx t⟩
def QdsAt (H : Hp) : List V → List Qd → Prop
  | [], [] => True
  | v :: vs, x :: xs => QdAt H v x ∧ QdsAt H vs xs
  | _, _ => False
theorem QdsAt.tx {H H' : Hp} (t : TxH H H') : ∀ {vs : List V} {xs : List Qd}, QdsAt H vs xs → QdsAt H' vs xs
  | [], [], _ => trivial
  | _ :: _, _ :: _, h => ⟨h.1.tx t, QdsAt.tx t h.2⟩
  | [], _ :: _, h => h.elim
  | _ :: _, [], h => h.elim
theorem QdsAt.snoc {H : Hp} {v : V} {x : Qd} (hv : QdAt H v x) : ∀ {vs : List V} {xs : List Qd}, QdsAt H vs xs → QdsAt H (vs ++ [v]) (xs ++ [x])
  | [], [], _ => ⟨hv, trivial⟩
  | _ :: _, _ :: _, h => ⟨h.1, QdsAt.snoc hv h.2⟩
  | [], _ :: _, h => h.elim
  | _ :: _, [], h => h.elim
theorem QdsAt.len {H : Hp} : ∀ {vs : List V} {xs : List Qd}, QdsAt H vs xs → vs.length = xs.length
  | [], [], _ => rfl
  | _ :: _, _ :: _, h => congrArg (· + 1) (QdsAt.len h.2)
  | [], _ :: _, h => h.elim
  | _ :: _, [], h => h.elim
theorem QdsAt.d {H : Hp} : ∀ {vs : List V} {xs : List Qd}, QdsAt H vs xs → DpAll K H vs (xs.map quadD)
  | [], [], _ => .nil
  | _ :: _, _ :: _, h => by
    obtain ⟨⟨t, tc, rs, rfl, h1, h2, h3⟩, hr⟩ := h
    exact .cons (.tup (st_of h1) (.cons (.int _) (.cons (.int _) (.cons (.int _) (.cons (.tup (st_of h2) h3.d) .nil))))) hr.d
  | [], _ :: _, h => h.elim
  | _ :: _, [], h => h.elim
/-- [j for j in range(n) if c] -/
theorem el_lcF {ta : TA} {te : TE} {tt : TT} {vs : List Nat} {n : Int} {j : Nat} {σ : L2.St} {H : Hp} {c : Nat → Bool} (h1 : EvA ta σ H [.int n]) (hn : 0 ≤ n ∧ n ≤ 50000) (hw : ∀ x, wipe ((wipe σ vs).set j (some x)) vs = wipe σ vs)
    (hc : ∀ (i : Nat) H1, Ex H H1 → (i : Int) < n → EvT tt ((wipe σ vs).set j (some (.int (i : Int)))) H1 (c i)) (hv : ∀ (i : Nat) H1, Ev te ((wipe σ vs).set j (some (.int (i : Int)))) H1 (.int (i : Int))) :
    EvL (tLc (iRng1 ta) (gName j) tt te vs) σ H (((List.range n.toNat).filter c).map fun (i : Nat) => V.int (i : Int)) := fun H0 e Q q =>
  h1 H0 e _ fun H1 e1 => ⟨n, rfl, by omega, by omega, fun D hD => lc_range (lo := 0) (n := n.toNat) (fun i H' => Ex H1 H' ∧ H' D = some (.lst (((List.range i).filter c).map fun (i : Nat) => V.int (i : Int)))) ⟨Ex.new hD, upd_same⟩
    (fun i H' hi h => by
      rw [Int.zero_add]
      refine ⟨hw _, hc i H' ((e.trans e1).trans h.1) (by omega) H' (Ex.refl _) _ fun H3 e3 => ?_⟩
      have hst : ((List.range (i + 1)).filter c).map (fun (i : Nat) => V.int (i : Int)) = ((List.range i).filter c).map (fun (i : Nat) => V.int (i : Int)) ++ (if c i = true then [V.int (i : Int)] else []) := by
        rw [List.range_succ, List.filter_append, List.map_append, List.filter_cons, List.filter_nil]
        split <;> rfl
      cases hb : c i with
      | true =>
        rw [if_pos rfl]
        refine hv i H3 H3 (Ex.refl _) _ fun H4 e4 => ⟨_, (e3.trans e4) _ _ h.2, sz_lt (by rw [List.length_map]; exact Nat.lt_of_le_of_lt (List.length_filter_le ..) (by rw [List.length_range]; omega)), Ex.mut (h.1.trans (e3.trans e4)) hD, ?_⟩
        rw [upd_same, hst, if_pos hb]
      | false =>
        rw [if_neg (by decide)]
        refine ⟨h.1.trans e3, ?_⟩
        rw [hst, if_neg (by rw [hb]; decide), List.append_nil]
        exact e3 _ _ h.2)
    (fun H' h => q D H' (fresh_back e1 hD) (e1.trans h.1) h.2)⟩
theorem top_of {n : Nat} {c : Nat → Bool} (h0 : c 0 = true) (hn : 0 < n) : ∃ t : Nat, maxI 0 (((List.range n).filter c).map fun (i : Nat) => (i : Int)) = (t : Int) ∧ t < n ∧ c t = true ∧ ∀ i, i < n → c i = true → i ≤ t := by
  have hnn : ∀ u ∈ ((List.range n).filter c).map (fun (i : Nat) => (i : Int)), 0 ≤ u := fun u hu => by
    obtain ⟨i, _, rfl⟩ := List.mem_map.mp hu
    omega
  obtain ⟨a, b, d⟩ := maxI_nn hnn
  have hmem : ∀ i, i < n → c i = true → (i : Int) ∈ ((List.range n).filter c).map (fun (i : Nat) => (i : Int)) := fun i hi hc => List.mem_map_of_mem (f := fun i : Nat => (i : Int)) (List.mem_filter.mpr ⟨List.mem_range.mpr hi, hc⟩)
  rcases b with h | h
  · refine ⟨0, h, hn, h0, fun i hi hc => ?_⟩
    have := d _ (hmem i hi hc)
    omega
  · obtain ⟨t, ht, e⟩ := List.mem_map.mp h
    obtain ⟨h1, h2⟩ := List.mem_filter.mp ht
    refine ⟨t, e.symm, List.mem_range.mp h1, h2, fun i hi hc => ?_⟩
    have := d _ (hmem i hi hc)
    omega
theorem rs_m1 (t : Nat) : Builtin.Range.rangeSize (t : Int) (-1) (-1) = ((t + 1 : Nat) : Int) := by
  unfold Builtin.Range.rangeSize
  rw [if_neg (by decide), show (-(-1) : Int) = 1 from rfl]
  split <;> omega
theorem rg_m1 {t : Nat} (ht : t ≤ 1000) : RgC (t : Int) (-1) (-1) (t + 1) := by
  refine ⟨by decide, by omega, ?_, rs_m1 t⟩
  unfold Builtin.Range.small
  rw [rs_m1]
  simp only [Builtin.Range.rangeFitsLong, Bool.and_eq_true, Bool.or_eq_true, decide_eq_true_eq, beq_iff_eq, show ¬ ((-1 : Int) > 0) by decide, if_false]
  omega
def bcD (x : Qd) : PyData := .tuple [.tuple [.int (x.m : Int), .int (x.p : Int), .tuple (x.cs.map codD)], .int x.b]
theorem ev_legN {σ : L2.St} {H : Hp} {t1 t2 t3 : TE} {E : XK} {s o m : Nat} (h1 : Ev t1 σ H (.int (s : Int))) (h2 : Ev t2 σ H (.int (o : Int))) (h3 : Ev t3 σ H (.int (m : Int))) (hm : m ≤ 16) : Ev (tCall sp_legal [] E (tCons t1 (tCons t2 (tCons t3 tNil)))) σ H (.bl (decide (LegP s o m))) := by
  refine Ev.is (ev_legal h1 h2 h3 hm) (congrArg V.bl ?_)
  rw [← Bool.decide_and]
  refine decide_eq_decide.mpr ?_
  unfold LegP
  rw [p2c, ← Int.natCast_emod, ← Int.natCast_ediv]
  omega
theorem q_asgC2 {t1 t2 : TE} {v : V} {xs : List V} {g : TG} {sp : Sp} {dvs : List V} {E : XK} {tz : TS} {D : Ends} {σ : L2.St} {H : Hp} (h1 : Ev t1 σ H v) (h2 : EvL t2 σ H xs) (k : ∀ H1 p, H p = none → Ex H H1 → H1 p = some (.lst xs) → sp ([v, .ref p] ++ dvs) H1 (fun x H2 => g x σ H2 (tz D)) E) : tSeq (tAsg (tCall sp dvs E (tCons t1 (tCons t2 tNil))) g) tz D σ H := h1 H (Ex.refl _) _ fun H1 e1 => h2 H1 e1 _ fun p H2 hp e2 g2 => k H2 p (fresh_back e1 hp) (e1.trans e2) g2
theorem q_asgCG {tA : TA} {g : TG} {sp : Sp} {dvs vs : List V} {E : XK} {tz : TS} {D : Ends} {σ : L2.St} {H : Hp} (h : EvA tA σ H vs) (k : ∀ H1, Ex H H1 → sp (vs ++ dvs) H1 (fun x H2 => g x σ H2 (tz D)) E) : tSeq (tAsg (tCall sp dvs E tA) g) tz D σ H := h H (Ex.refl H) _ fun H1 e => k H1 e
theorem s_asgCG {tA : TA} {g : TG} {sp : Sp} {dvs vs : List V} {E : XK} {D : Ends} {σ : L2.St} {H : Hp} (h : EvA tA σ H vs) (k : ∀ H1, Ex H H1 → sp (vs ++ dvs) H1 (fun x H2 => g x σ H2 D.nx) E) : tAsg (tCall sp dvs E tA) g D σ H := h H (Ex.refl H) _ fun H1 e => k H1 e
theorem s_appE {σ : L2.St} {H : Hp} {ta te : TE} {l : Addr} {xs : List V} {D : Ends} {S : V → Hp → Prop} (hl : H l = some (.lst xs)) (ha : Ev ta σ H (.ref l)) (h : EvX te σ H S) (hz : xs.length < 100000) (k : ∀ v H1, Ex H H1 → S v H1 → D.nx σ (upd H1 l (.lst (xs ++ [v])))) : tDrop (tBM K "list" rAppend ta (tCons te tNil)) D σ H :=
  ha H (Ex.refl _) _ fun H1 e1 => ⟨.inl ⟨rfl, xs, sq_of (e1 _ _ hl)⟩, h H1 e1 _ fun v H2 e2 hv => ⟨l, xs, v, rfl, rfl, (e1.trans e2) _ _ hl, sz_lt hz, k v H2 (e1.trans e2) hv⟩⟩
theorem eu_if {c : TT} {ta tb : TE} {σ : L2.St} {H : Hp} {b : Bool} {xs : List V} (h : EvT c σ H b) (h1 : b = true → EvU ta σ H xs) (h2 : b = false → EvU tb σ H xs) : EvU (tIf c ta tb) σ H xs := fun H1 e Q q => h H1 e _ fun H2 e2 => by
  cases b with
  | true =>
    rw [if_pos rfl]
    exact h1 rfl H2 (e.trans e2) Q fun p H3 hp e3 g => q p H3 (fresh_back e2 hp) (e2.trans e3) g
  | false =>
    rw [if_neg (by decide)]
    exact h2 rfl H2 (e.trans e2) Q fun p H3 hp e3 g => q p H3 (fresh_back e2 hp) (e2.trans e3) g
theorem EvU.is {te : TE} {σ : L2.St} {H : Hp} {xs ys : List V} (h : EvU te σ H xs) (e : xs = ys) : EvU te σ H ys := e ▸ h
theorem st_fro {c t : Addr} {B H' : Hp} {xs ys : List V} (f : FrO c B H') (hc : B c = some (.lst ys)) (ht : B t = some (.tup xs)) : H' t = some (.tup xs) := f _ _ (by rintro rfl; rw [hc] at ht; cases ht) ht
theorem qs_len (ns : List Int) (g top M : Nat) : ∀ i, (qsF ns g top M i).length = i * M
  | 0 => by rw [Nat.zero_mul]; rfl
  | i + 1 => by
    unfold qsF rowQ
    rw [List.length_append, qs_len, List.length_map, List.length_range, Nat.add_mul i 1 M, Nat.one_mul]
theorem row_len (ns : List Int) (g p M : Nat) : (rowQ ns g p M).length = M := by unfold rowQ; rw [List.length_map, List.length_range]
theorem row_succ (ns : List Int) (g p M : Nat) : rowQ ns g p (M + 1) = rowQ ns g p M ++ [qdF ns g M p] := by unfold rowQ; rw [List.range_succ, List.map_append]; rfl
theorem ed_tup3 {t1 t2 t3 : TE} {σ : L2.St} {H : Hp} {d1 d2 d3 : PyData} (h1 : EvD K t1 σ H d1) (h2 : EvD K t2 σ H d2) (h3 : EvD K t3 σ H d3) : EvD K (tTup (tCons t1 (tCons t2 (tCons t3 tNil)))) σ H (.tuple [d1, d2, d3]) := fun H1 e Q q => h1 H1 e _ fun v H2 e2 hv => h2 H2 (e.trans e2) _ fun u H3 e3 hu => h3 H3 ((e.trans e2).trans e3) _ fun w' H4 e4 hw =>
  ⟨sz_of (show 3 ≤ 100000 by decide), fun p hp => q (.ref p) _ (((e2.trans e3).trans e4).trans (Ex.new hp)) (.tup (st_of upd_same) (.cons (dp_ex ((e3.trans e4).trans (Ex.new hp)) _ _ hv) (.cons (dp_ex (e4.trans (Ex.new hp)) _ _ hu) (.cons (dp_ex (Ex.new hp) _ _ hw) .nil))))⟩
theorem s_retD {te : TE} {σ : L2.St} {H : Hp} {d : PyData} {D : Ends} (h : EvD K te σ H d) (k : ∀ v H1, Ex H H1 → Dp K H1 v d → D.rt v H1) : tRet te D σ H := h H (Ex.refl H) _ k
theorem QdsAt.at {H : Hp} : ∀ {vs : List V} {xs : List Qd} {i : Nat} {v : V} {x : Qd}, QdsAt H vs xs → vs[i]? = some v → xs[i]? = some x → QdAt H v x
  | [], _, i, v, x, _, hv, _ => by simp at hv
  | _ :: _, [], _, _, _, h, _, _ => h.elim
  | y :: _, z :: _, 0, _, _, h, hv, hx => by cases hv; cases hx; exact h.1
  | _ :: _, _ :: _, i + 1, _, _, h, hv, hx => QdsAt.at h.2 hv hx
def BcAt (H : Hp) (v : V) (x : Qd) : Prop := ∃ (t t1 tc : Addr) (rs : List V), v = .ref t ∧ H t = some (.tup [.ref t1, .int x.b]) ∧ H t1 = some (.tup [.int (x.m : Int), .int (x.p : Int), .ref tc]) ∧ H tc = some (.tup rs) ∧ CodAt H rs x.cs
theorem BcAt.d {H : Hp} {v : V} {x : Qd} (h : BcAt H v x) : Dp K H v (bcD x) := by
  obtain ⟨t, t1, tc, rs, rfl, h1, h2, h3, h4⟩ := h
  exact .tup (st_of h1) (.cons (.tup (st_of h2) (.cons (.int _) (.cons (.int _) (.cons (.tup (st_of h3) h4.d) .nil)))) (.cons (.int _) .nil))
def sp_bc (K : PySem.W.Frag) : Sp := fun vs H Q _ => ∃ (a : Addr) (ns : List Int) (g hi : Nat) (wd : Bool), vs = [.ref a, .int (g : Int), .int (hi : Int), .bl wd] ∧ SqL K H a (ns.map V.int) ∧ 0 < ns.length ∧ ns.length + g ≤ 1000 ∧ hi ≤ 15 ∧ ∀ v H' x, Ex H H' → BestQ ns g hi (if wd = true then 2 else 1) x → BcAt H' v x → Q v H'
theorem chk_len (ns : List Int) (g p k : Nat) : (chk ns g p k).length ≤ ns.length := cutN_len ..
theorem ok_best_coding (T : TX K mg) : FnOk P w K mg base CX0 4 T.a_best_coding T.d_best_coding ["residuals", "order", "highest", "wide"] (sp_bc K) := by
  refine T.F_best_coding.ok sc_best_coding (fun vs H Q E h => by obtain ⟨a, ns, g, hi, wd, rfl, _⟩ := h; rfl) (fun cdv A outer s0 H vs Q E hr h => ?_)
  obtain ⟨a, ns, g, hi, wd, rfl, hA, hnl, hs, hhi, q⟩ := h
  refine ⟨_, (pss_cons (ps_set (i := 4) sc_best_coding.nd rfl (Or.inr rfl) (pe_op op_add (pe_callB (r := rLenS K) call_len_seq (by rfl) T.m_len PySem.boot_len (pa_cons (pv 0) pa_nil)) (pv 1)))
      (pss_cons (ps_set (i := 5) sc_best_coding.nd rfl (Or.inl rfl) (pe_callBK (cr_maxDef (hu64 hr)) (by rfl) T.m_max PyProof.Rows.boot_max (pa_cons (pe_lc (own := [("p", 13)]) (g := gName 13)  rfl sc_best_coding.nd (pi_range1 (by rfl) T.m_range (pa_cons (pe_op op_add (pv 2) pe_int) pa_nil)) (blkOk_by (N := ["residuals", "order", "highest", "wide", "size", "top", "methods", "candidates", "parts", "partition_order", "method", "codings", "bits", "p"]) (sc := defScope s_best_coding) (by decide +kernel)) (fun _ _ _ _ _ => pg_name (i := 13) sc_best_coding.nd rfl (Or.inl rfl)) (fun _ _ _ _ _ => pts_one (pt_val (pe_call (ok_legal_partition_order T) (hr.mono (by decide)) (by rfl) T.g_legal_partition_order T.F_legal_partition_order.kp T.b_legal_partition_order .nil pass0 (pa_cons (pv 4) (pa_cons (pv 1) (pa_cons (pv 13) pa_nil)))))) (fun _ _ _ _ _ => (pv 13))) pa_nil) (pk_cons pe_int pk_nil)))
      (pss_cons (ps_set (i := 6) sc_best_coding.nd rfl (Or.inl rfl) (pe_ifExp (pt_val (pv 3)) (pe_tup (pa_cons pe_int (pa_cons pe_int pa_nil))) (pe_tup (pa_cons pe_int pa_nil))))
      (pss_cons (ps_set (i := 7) sc_best_coding.nd rfl (Or.inl rfl) (pe_lst pa_nil))
      (pss_cons (ps_set (i := 8) sc_best_coding.nd rfl (Or.inl rfl) (pe_call (ok_measured_parts T) (hr.mono (by decide)) (by rfl) T.g_measured_parts T.F_measured_parts.kp T.b_measured_parts .nil pass0 (pa_cons (pv 0) (pa_cons (pe_call (ok_partition_sizes T) (hr.mono (by decide)) (by rfl) T.g_partition_sizes T.F_partition_sizes.kp T.b_partition_sizes .nil pass0 (pa_cons (pv 4) (pa_cons (pv 1) (pa_cons (pv 5) pa_nil)))) pa_nil))))
      (pss_cons (ps_for PassesOwn.leaving rfl (pi_range3 (by rfl) T.m_range (pa_cons (pv 5) (pa_cons (pe_un un_neg pe_int) (pa_cons (pe_un un_neg pe_int) pa_nil)))) (pg_name (i := 9) sc_best_coding.nd rfl (Or.inl rfl)) (pss_cons (ps_for PassesOwn.leaving rfl (pi_tup (pv 6)) (pg_name (i := 10) sc_best_coding.nd rfl (Or.inl rfl)) (pss_cons (ps_asg (pe_call (ok_entries T) (hr.mono (by decide)) (by rfl) T.g_entries T.F_entries.kp T.b_entries .nil pass0 (pa_cons (pv 8) (pa_cons (pv 10) pa_nil))) (pg_tup rfl (pgs_cons (pg_name (i := 11) sc_best_coding.nd rfl (Or.inl rfl)) (pgs_cons (pg_name (i := 12) sc_best_coding.nd rfl (Or.inl rfl)) pgs_nil))))
          (pss_one (ps_expr (pe_bm PySem.F.plainAttrs_list PySem.F.slot_list_append PySem.F.type_list_append mt_append (pv 7) (pa_cons (pe_tup (pa_cons (pv 12) (pa_cons (pv 10) (pa_cons (pv 9) (pa_cons (pv 11) pa_nil))))) pa_nil))))))
        (pss_one (ps_set (i := 8) sc_best_coding.nd rfl (Or.inl rfl) (pe_call (ok_joined_in_pairs T) (hr.mono (by decide)) (by rfl) T.g_joined_in_pairs T.F_joined_in_pairs.kp T.b_joined_in_pairs .nil pass0 (pa_cons (pv 8) pa_nil))))))
      (pss_cons (ps_asg (pe_callB (cr_minQ (hu64 hr) rfl) (by rfl) T.m_min PyProof.Rows.boot_min (pa_cons (pv 7) pa_nil)) (pg_tup rfl (pgs_cons (pg_name (i := 12) sc_best_coding.nd rfl (Or.inl rfl)) (pgs_cons (pg_name (i := 10) sc_best_coding.nd rfl (Or.inl rfl)) (pgs_cons (pg_name (i := 9) sc_best_coding.nd rfl (Or.inl rfl)) (pgs_cons (pg_name (i := 11) sc_best_coding.nd rfl (Or.inl rfl)) pgs_nil))))))
      (pss_one (ps_ret (pe_tup (pa_cons (pe_tup (pa_cons (pv 10) (pa_cons (pv 9) (pa_cons (pv 11) pa_nil)))) (pa_cons (pv 12) pa_nil)))))))))))), ?_⟩
  refine q_asg (v := .int ((ns.length + g : Nat) : Int)) (Ev.is (ev_I0 (g := fun i j => .int (i + j)) (ev_lenS (Ev.s (ev_var rfl) hA)) (ev_var rfl)) (congrArg V.int (by rw [List.length_map]; omega))) fun H1 e1 => ?_
  obtain ⟨s, hsd⟩ : ∃ s, s = ns.length + g := ⟨_, rfl⟩
  rw [← hsd]
  obtain ⟨top, ht1, ht2, ht3, ht4⟩ := top_of (n := hi + 1) (c := fun p => decide (LegP s g p)) (decide_eq_true (legP_zero (by omega))) (by omega)
  have hleg : LegP s g top := of_decide_eq_true ht3
  refine q_asg (v := .int (top : Int)) (Ev.is (ev_maxD (ns := ((List.range (hi + 1)).filter fun p => decide (LegP s g p)).map fun (i : Nat) => (i : Int)) (EvR.s (EvL.r (EvL.is (el_lcF (n := ((hi + 1 : Nat) : Int)) (c := fun p => decide (LegP s g p)) (ea_cons (Ev.is (ev_I0 (g := fun i j => .int (i + j)) (ev_var rfl) ev_c) (congrArg V.int (by omega))) ea_nil) (by omega) (fun _ => rfl) (fun i H' e' hi' => et_B (ev_legN (ev_var rfl) (ev_var rfl) (ev_var rfl) (by omega))) fun i H' => ev_var rfl) (by rw [Int.toNat_natCast, List.map_map]; rfl)))) ev_c) (congrArg V.int ht1)) fun H2 e2 => ?_
  obtain ⟨M, hM⟩ : ∃ M, M = if wd = true then 2 else 1 := ⟨_, rfl⟩
  rw [← hM] at q
  have hM12 : M = 1 ∨ M = 2 := by split at hM <;> omega
  refine q_asgU (xs := (List.range M).map fun (m : Nat) => V.int (m : Int)) (eu_if (et_B (ev_var rfl)) (fun hb => EvU.is (eu_tup (ea_cons ev_c (ea_cons ev_c ea_nil)) (Nat.le_of_ble_eq_true rfl)) (by rw [hM, if_pos hb]; rfl)) fun hb => EvU.is (eu_tup (ea_cons ev_c ea_nil) (Nat.le_of_ble_eq_true rfl)) (by rw [hM, if_neg (by rw [hb]; decide)]; rfl)) fun tm H3 htm e3 gtm => ?_
  refine q_asgL (xs := []) (el_lst ea_nil (by decide)) fun c B hc e4 gc => ?_
  have e14 := e1.trans (e2.trans (e3.trans e4))
  have hcH : H c = none := fresh_back (e1.trans (e2.trans e3)) hc
  have gtmB := e4 _ _ gtm
  have hp2 : 2 ^ top ≤ 1000 := by
    have := hleg.2
    have h2 : 2 ^ top ≤ s := Nat.le_of_not_lt fun z => by rw [Nat.div_eq_of_lt z] at this; omega
    omega
  have hW : ∀ i, i < 2 ^ top → ((((s : Int) / 2 ^ top - (g : Int)) :: List.replicate (2 ^ top - 1) ((s : Int) / 2 ^ top)) : List Int)[i]? = some ((((i + 1) * (s / 2 ^ top) - g : Nat) : Int) - ((i * (s / 2 ^ top) - g : Nat) : Int)) := fun i hi' => by
    have hl := hleg.2
    rw [p2c, ← Int.natCast_ediv]
    generalize s / 2 ^ top = W at *
    cases i with
    | zero =>
      show some _ = _
      rw [Nat.zero_mul, Nat.zero_add, Nat.one_mul]
      congr 1
      omega
    | succ i =>
      show (List.replicate _ _)[i]? = _
      rw [List.getElem?_replicate, if_pos (by omega)]
      have h1 : 1 * W ≤ (i + 1) * W := Nat.mul_le_mul_right _ (by omega)
      have h2 : (i + 1 + 1) * W = (i + 1) * W + W := by rw [Nat.add_mul (i + 1) 1 W, Nat.one_mul]
      congr 1
      omega
  refine q_asgC2 (v := .ref a) (ev_var rfl) (el_sizes (s := (s : Int)) (o := (g : Int)) (m := top) (ev_var rfl) (ev_var rfl) (ev_var rfl) (by omega)) fun H6 pz hpz e6 gz => ?_
  refine ⟨a, pz, ns, _, 2 ^ top, fun k => k * (s / 2 ^ top) - g, rfl, ex_l (e14.trans e6) hA, sq_of gz, ?_, by omega, by omega, by show 0 * _ - g = 0; rw [Nat.zero_mul, Nat.zero_sub], hW, fun pp H7 e7 hP0 => ?_⟩
  · rw [List.length_cons, List.length_replicate]
    have := Nat.two_pow_pos top
    omega
  have e57 := e6.trans e7
  have hP : PtAt B H7 pp (2 ^ top) (chk ns g top) := (hP0.back (c := c) (o := .lst []) (FrO.ex e6) (e6 _ _ gc)).congr rfl fun i _ => by rw [hsd]; rfl
  refine q_forRC (a := (top : Int)) (b := -1) (c := -1) (n := top + 1) (ea_cons (ev_var rfl) (ea_cons (ev_negI ev_c) (ea_cons (ev_negI ev_c) ea_nil))) (rg_m1 (by omega)) (fun i σ' H' => ∃ (pp : Addr) (L : List V) (z9 z10 z11 z12 : Option V), σ' = [some (.ref a), some (.int (g : Int)), some (.int (hi : Int)), some (.bl wd), some (.int (s : Int)), some (.int (top : Int)), some (.ref tm), some (.ref c), some (.ref pp), z9, z10, z11, z12, none] ∧ FrO c B H' ∧ H' c = some (.lst L) ∧ QdsAt H' L (qsF ns g top M i) ∧ (i ≤ top → PtAt B H' pp (2 ^ (top - i)) (chk ns g (top - i)))) (fun H8 e8 => ⟨pp, [], none, none, none, none, rfl, FrO.ex (e57.trans e8), (e57.trans e8) _ _ gc, trivial, fun _ => hP.ex e8⟩) ?_ ?_
  · rintro i σ' H8 hi' ⟨pp, L, z9, z10, z11, z12, rfl, f, gL, hL, hP⟩
    have hP := hP (by omega)
    have hnb : 2 ^ (top - i) ≤ 40000 := Nat.le_trans (Nat.pow_le_pow_right (by decide) (Nat.sub_le top i)) (by omega)
    have hiM : i * M ≤ 1000 * 2 := Nat.mul_le_mul (by omega) (by omega)
    rw [show ((top : Int) + ((i : Nat) : Int) * (-1)) = ((top - i : Nat) : Int) by omega]
    refine q_forT (K := K) (a := tm) (ev_var rfl) (st_of (st_fro f gc gtmB)) (fun k σ' H' => ∃ (L : List V) (z10 z11 z12 : Option V), σ' = [some (.ref a), some (.int (g : Int)), some (.int (hi : Int)), some (.bl wd), some (.int (s : Int)), some (.int (top : Int)), some (.ref tm), some (.ref c), some (.ref pp), some (.int ((top - i : Nat) : Int)), z10, z11, z12, none] ∧ FrO c B H' ∧ H' c = some (.lst L) ∧ QdsAt H' L (qsF ns g top M i ++ rowQ ns g (top - i) k) ∧ PtAt B H' pp (2 ^ (top - i)) (chk ns g (top - i))) (fun H9 e9 => ⟨L, z10, z11, z12, rfl, f.trans (FrO.ex e9), e9 _ _ gL, ?_, hP.ex e9⟩) (fun k σ' H' _ h => ?_) ?_ ?_
    · have : rowQ ns g (top - i) 0 = [] := rfl
      rw [this, List.append_nil]
      exact hL.tx (TxH.ex e9)
    · obtain ⟨_, _, _, _, _, f, _⟩ := h
      exact st_of (st_fro f gc gtmB)
    · rintro k x σ' H9 hx ⟨L, z10, z11, z12, rfl, f, gL, hL, hP⟩
      have hkM : k < M := by have := (List.getElem?_eq_some_iff.mp hx).1; rwa [List.length_map, List.length_range] at this
      rw [List.getElem?_map, List.getElem?_range hkM] at hx
      obtain rfl := Option.some.inj hx
      have hLl := hL.len
      rw [List.length_append, qs_len, row_len] at hLl
      refine q_asgCG (vs := [.ref pp, .int (k : Int)]) (ea_cons (ev_var rfl) (ea_cons (ev_var rfl) ea_nil)) fun H10 e10 => ⟨B, pp, 2 ^ (top - i), k, chk ns g (top - i), rfl, hP.ex e10, by omega, hnb, fun j _ => Nat.le_trans (chk_len ..) (by omega), fun t tc rs H11 e11 gt gtc hcod => ⟨t, _, rfl, st_of gt, rfl, .ref tc, [_], rfl, _, [], rfl, rfl, ?_⟩⟩
      have e911 := e10.trans e11
      refine s_appE (S := fun v G => QdAt G v (qdF ns g k (top - i))) (e911 _ _ gL) (ev_var rfl) (fun H1 e Q' q' => ?_) (by omega) fun v H12 e12 hv => ?_
      · exact eu_tup (vs := [.int (totF (chk ns g (top - i)) (2 ^ (top - i)) k), .int (k : Int), .int ((top - i : Nat) : Int), .ref tc]) (ea_cons (ev_var rfl) (ea_cons (ev_var rfl) (ea_cons (ev_var rfl) (ea_cons (ev_var rfl) ea_nil)))) (Nat.le_of_ble_eq_true rfl) H1 e _ fun p H2 hp e2 g2 => q' (.ref p) H2 e2 ⟨p, tc, rs, rfl, g2, (e.trans e2) _ _ gtc, hcod.tx (TxH.ex (e.trans e2))⟩
      · have e912 := e911.trans e12
        have hT : TxH H12 (upd H12 c (.lst (L ++ [v]))) := TxH.upd (e912 _ _ gL)
        refine ⟨L ++ [v], some (.int (k : Int)), some (.ref tc), some (.int (totF (chk ns g (top - i)) (2 ^ (top - i)) k)), rfl, (f.trans (FrO.ex e912)).upd, upd_same, ?_, (hP.ex e912).fro gc (FrO.upd (FrO.ex (Ex.refl _)))⟩
        rw [row_succ, ← List.append_assoc]
        exact QdsAt.snoc (hv.tx hT) ((hL.tx (TxH.ex e912)).tx hT)
    · rintro σ' H9 ⟨L, z10, z11, z12, rfl, f, gL, hL, hP⟩
      rw [List.length_map, List.length_range] at hL
      refine s_asgCG (vs := [.ref pp]) (ea_cons (ev_var rfl) ea_nil) fun H10 e10 => ⟨B, pp, 2 ^ (top - i), chk ns g (top - i), rfl, hP.ex e10, hnb, fun p2 H11 e11 hP2 => ⟨p2, L, some (.int ((top - i : Nat) : Int)), z10, z11, z12, rfl, f.trans (FrO.ex (e10.trans e11)), (e10.trans e11) _ _ gL, hL.tx (TxH.ex (e10.trans e11)), fun hle => ?_⟩⟩
      obtain ⟨d, hd⟩ : ∃ d, top - i = d + 1 := ⟨top - i - 1, by omega⟩
      have hb := hP2.back (c := c) (o := .lst L) (f.trans (FrO.ex e10)) (e10 _ _ gL)
      rw [hd] at hb
      rw [show top - (i + 1) = d by omega]
      exact hb.congr (two_half d) fun k _ => chk_join (by rw [← hsd]; exact legP_le (top - (d + 1)) (by rw [show d + 1 + (top - (d + 1)) = top by omega]; exact hleg)) k
  · rintro σ' H8 ⟨pp, L, z9, z10, z11, z12, rfl, f, gL, hL, -⟩
    obtain ⟨q0, qs, hqs⟩ : ∃ q0 qs, qsF ns g top M (top + 1) = q0 :: qs := by
      have h : qdF ns g 0 top ∈ qsF ns g top M (top + 1) := mem_qs.mpr ⟨0, 0, by omega, by omega, rfl⟩
      cases e : qsF ns g top M (top + 1) with
      | nil => rw [e] at h; cases h
      | cons x r => exact ⟨x, r, rfl⟩
    refine q_asgCB1 ?_
    refine ev_go (ev_var (v := .ref c) rfl) fun H9 e9 => ?_
    refine ⟨c, L, q0, qs, rfl, sq_of (e9 _ _ gL), by rw [← hqs]; exact (hL.tx (TxH.ex e9)).d, by rw [← hqs]; exact qs_pw ns g top M _ (Nat.le_refl _), fun i v z hv hzi hm => ?_⟩
    rw [← hqs] at hzi hm
    have hz := List.mem_of_getElem? hzi
    obtain ⟨tp, tc, rs, rfl, gtp, gtc, hC⟩ := (hL.at hv hzi).tx (TxH.ex e9)
    have hbest : BestQ ns g hi M z := by
      obtain ⟨j, m, hj, hm', rfl⟩ := mem_qs.mp hz
      refine ⟨m, top - j, ⟨hm', by omega, by rw [← hsd]; exact legP_le j (by rw [show top - j + j = top by omega]; exact hleg)⟩, rfl, fun m' p' hl => ?_⟩
      rw [← hsd] at hl
      have hp' := ht4 p' (Nat.lt_succ_of_le hl.2.1) (decide_eq_true hl.2.2)
      exact hm _ (mem_qs.mpr ⟨top - p', m', by omega, hl.1, by rw [show top - (top - p') = p' by omega]⟩)
    refine ⟨tp, _, rfl, st_of gtp, rfl, .int z.b, [.int (z.m : Int), .int (z.p : Int), .ref tc], rfl, .int (z.m : Int), [.int (z.p : Int), .ref tc], rfl, .int (z.p : Int), [.ref tc], rfl, .ref tc, [], rfl, rfl, ?_⟩
    refine ⟨.int (z.m : Int), rfl, .int (z.p : Int), rfl, .ref tc, rfl, sz_of (show 3 ≤ 100000 by decide), fun t1 h1 => ⟨.int z.b, rfl, sz_of (show 2 ≤ 100000 by decide), fun t h => ?_⟩⟩
    have x1 : Ex H9 (upd H9 t1 (.tup [.int (z.m : Int), .int (z.p : Int), .ref tc])) := Ex.new h1
    have x2 := Ex.new (o := .tup [.ref t1, .int z.b]) h
    exact q _ _ z ((FrO.after f e14 hcH).trans (e9.trans (x1.trans x2))) hbest ⟨t, t1, tc, rs, rfl, upd_same, x2 _ _ upd_same, (x1.trans x2) _ _ gtc, hC.tx (TxH.ex (x1.trans x2))⟩


/-! ### what the law expects -/
theorem ok_law_fold (T : TX K mg) : FnOk P w K mg base CX0 1 T.a_law_fold T.d_law_fold ["value"] sp_fold := by
  refine T.F_law_fold.ok sc_law_fold (fun vs H Q E h => by obtain ⟨n, rfl, _⟩ := h; rfl) (fun cdv A outer s H vs Q E hr h => ?_)
  obtain ⟨n, rfl, k⟩ := h
  refine ⟨_, (pss_cons (ps_if (pt_cmpR op_lt (pv 0) pe_int (nomark _)) (pss_one (ps_ret (pe_op op_sub (pe_op op_mul (pe_un un_neg pe_int) (pv 0)) pe_int))) pss_nil)
      (pss_one (ps_ret (pe_op op_mul pe_int (pv 0))))), ?_⟩
  unfold foldI at k
  refine q_when (b := decide (n < 0)) (et_test (ev_I0 (ev_var rfl) ev_c)) (fun h H1 e1 => ?_) fun h H1 e1 => ?_
  · rw [if_pos (of_decide_eq_true h)] at k
    exact s_ret (ev_I0 (ev_I (ev_negI ev_c) (ev_var rfl) (.inl (by decide))) ev_c) fun H2 e2 => k.go (e1.trans e2)
  · rw [if_neg (of_decide_eq_false h)] at k
    exact s_ret (ev_I ev_c (ev_var rfl) (.inl (by decide))) fun H2 e2 => k.go (e1.trans e2)
theorem sum_snoc' (f : Int → Int) {xs : List Int} {i : Nat} {x : Int} (h : xs[i]? = some x) : ((xs.take (i + 1)).map f).sum = ((xs.take i).map f).sum + f x := by
  have : xs.take (i + 1) = xs.take i ++ [x] := by rw [List.take_add_one, h]; rfl
  rw [this, List.map_append, List.sum_append]
  show _ + (f x + 0) = _
  rw [Int.add_zero]
def riceT (ns : List Int) (k : Nat) : Int := (ns.length : Int) * (1 + (k : Int)) + sumI ns k
theorem rice_at (ns : List Int) (k : Nat) : (ns.map fun n => 1 + (k : Int) + foldI n / 2 ^ k).sum = riceT ns k := by
  unfold riceT sumI
  induction ns with
  | nil => simp
  | cons n r ih =>
    rw [List.map_cons, List.sum_cons, ih, List.map_cons, List.sum_cons, List.length_cons]
    generalize (List.map (fun n => foldI n / 2 ^ k) r).sum = S
    generalize foldI n / 2 ^ k = y
    rw [show ((r.length + 1 : Nat) : Int) = (r.length : Int) + 1 by omega, Int.add_mul, Int.one_mul]
    generalize (r.length : Int) * (1 + (k : Int)) = z
    omega
def sp_lrice (K : PySem.W.Frag) : Sp := fun vs H Q _ => ∃ (a : Addr) (ns : List Int) (k : Nat), vs = [.ref a, .int (k : Int)] ∧ SqL K H a (ns.map V.int) ∧ k ≤ 40 ∧ RetV (.int (riceT ns k)) H Q
theorem ok_law_rice (T : TX K mg) : FnOk P w K mg base CX0 2 T.a_law_rice T.d_law_rice ["values", "k"] (sp_lrice K) := by
  refine T.F_law_rice.ok sc_law_rice (fun vs H Q E h => by obtain ⟨a, ns, k, rfl, _⟩ := h; rfl) (fun cdv A outer s H vs Q E hr h => ?_)
  obtain ⟨a, ns, kk, rfl, hS, hk, q⟩ := h
  refine ⟨_, (pss_cons (ps_set (i := 2) sc_law_rice.nd rfl (Or.inl rfl) pe_int)
      (pss_cons (ps_for PassesOwn.never rfl (pi_list (pv 0)) (pg_name (i := 3) sc_law_rice.nd rfl (Or.inl rfl)) (pss_one (ps_set (i := 2) sc_law_rice.nd rfl (Or.inl rfl) (pe_op op_add (pe_op op_add (pe_op op_add (pv 2) pe_int) (pv 1)) (pe_op op_fdivW (pe_call (ok_law_fold T) (hr.mono (by decide)) (by rfl) T.g_law_fold T.F_law_fold.kp T.b_law_fold .nil pass0 (pa_cons (pv 3) pa_nil)) (pe_op op_shl pe_int (pv 1)))))))
      (pss_one (ps_ret (pv 2))))), ?_⟩
  have hlog : ((2 : Int) ^ kk).natAbs.log2 < 9000 := by
    rw [p2c]
    rw [Int.natAbs_natCast, Nat.log2_two_pow]
    omega
  refine q_asg ev_c fun H1 e1 => ?_
  refine q_forLn (K := K) (a := a) (ev_var rfl) (ex_l e1 hS) (fun i σ' H' => ∃ z, σ' = [some (.ref a), some (.int (kk : Int)), some (.int (((ns.take i).map fun n => 1 + (kk : Int) + foldI n / 2 ^ kk).sum)), z] ∧ Ex H H') (fun H2 e2 => ⟨none, rfl, e1.trans e2⟩) (fun i σ' H' _ h => by obtain ⟨_, _, ex⟩ := h; exact ex_l ex hS) ?_ ?_
  · rintro i x σ' H2 hx ⟨z, rfl, ex⟩
    obtain ⟨v, hv, hi, rfl⟩ := int_at hx
    refine s_asg (v := .int (((ns.take (i + 1)).map fun n => 1 + (kk : Int) + foldI n / 2 ^ kk).sum)) (Ev.is (ev_I0 (ev_I0 (ev_I0 (ev_var rfl) ev_c) (ev_var rfl)) (ev_I (j := (2 : Int) ^ kk) (ev_fold (ev_var rfl)) (Ev.is (ev_I ev_c (ev_var rfl) (show CPow 1 (kk : Int) from ⟨by omega, by omega, by decide⟩)) (congrArg V.int (by rw [Int.toNat_natCast, Int.one_mul]))) ⟨p2pos kk, hlog⟩)) (congrArg V.int ?_)) fun H3 e3 => ⟨_, rfl, ex.trans e3⟩
    rw [sum_snoc' _ hv]
    omega
  · rintro σ' H2 ⟨z, rfl, ex⟩
    rw [List.length_map, List.take_length, rice_at]
    exact s_ret (ev_var rfl) fun H3 e3 => q.go (ex.trans e3)
theorem ev_lrice {σ : L2.St} {H : Hp} {te tk : TE} {E : XK} {ns : List Int} {k : Nat} (h : EvS K te σ H (ns.map V.int)) (hk : Ev tk σ H (.int (k : Int))) (hl : k ≤ 40) : Ev (tCall (sp_lrice K) [] E (tCons te (tCons tk tNil))) σ H (.int (riceT ns k)) := fun H1 e Q q =>
  h H1 e _ fun p H2 e2 hp => hk H2 (e.trans e2) _ fun H3 e3 => ⟨p, ns, k, rfl, ex_l e3 hp, hl, fun H4 e4 => q H4 ((e2.trans e3).trans e4)⟩
def sp_lent (K : PySem.W.Frag) : Sp := fun vs H Q _ => ∃ (a : Addr) (ns : List Int) (m : Nat), vs = [.ref a, .int (m : Int)] ∧ SqL K H a (ns.map V.int) ∧ ns.length ≤ 40000 ∧ m ≤ 1 ∧ widI ns ≤ 33 ∧ ∀ v H', Ex H H' → EntV H' v (entF ns m) → Q v H'
theorem ok_law_entry (T : TX K mg) : FnOk P w K mg base CX0 3 T.a_law_entry T.d_law_entry ["values", "method"] (sp_lent K) := by
  refine T.F_law_entry.ok sc_law_entry (fun vs H Q E h => by obtain ⟨a, ns, m, rfl, _⟩ := h; rfl) (fun cdv A outer s H vs Q E hr h => ?_)
  obtain ⟨a, ns, m, rfl, hS, hl, hm, hw, q⟩ := h
  refine ⟨_, (pss_cons (ps_set (i := 2) sc_law_entry.nd rfl (Or.inl rfl) (pe_op op_add pe_int (pv 1)))
      (pss_cons (ps_set (i := 3) sc_law_entry.nd rfl (Or.inl rfl) (pe_tup (pa_cons pe_str (pa_cons pe_int pa_nil))))
      (pss_cons (ps_set (i := 4) sc_law_entry.nd rfl (Or.inl rfl) (pe_op op_add (pv 2) (pe_call (ok_law_rice T) (hr.mono (by decide)) (by rfl) T.g_law_rice T.F_law_rice.kp T.b_law_rice .nil pass0 (pa_cons (pv 0) (pa_cons pe_int pa_nil)))))
      (pss_cons (ps_for PassesOwn.never rfl (pi_range2 (by rfl) T.m_range (pa_cons pe_int (pa_cons (pe_op op_add pe_int (pe_op op_mul pe_int (pv 1))) pa_nil))) (pg_name (i := 5) sc_law_entry.nd rfl (Or.inl rfl)) (pss_cons (ps_set (i := 6) sc_law_entry.nd rfl (Or.inl rfl) (pe_op op_add (pv 2) (pe_call (ok_law_rice T) (hr.mono (by decide)) (by rfl) T.g_law_rice T.F_law_rice.kp T.b_law_rice .nil pass0 (pa_cons (pv 0) (pa_cons (pv 5) pa_nil)))))
        (pss_one (ps_if (pt_cmpR op_lt (pv 6) (pv 4) (nomark _)) (pss_cons (ps_set (i := 3) sc_law_entry.nd rfl (Or.inl rfl) (pe_tup (pa_cons pe_str (pa_cons (pv 5) pa_nil))))
          (pss_one (ps_set (i := 4) sc_law_entry.nd rfl (Or.inl rfl) (pv 6)))) pss_nil))))
      (pss_cons (ps_set (i := 7) sc_law_entry.nd rfl (Or.inl rfl) (pe_call (ok_law_width T) (hr.mono (by decide)) (by rfl) T.g_law_width T.F_law_width.kp T.b_law_width .nil pass0 (pa_cons (pv 0) pa_nil)))
      (pss_cons (ps_set (i := 6) sc_law_entry.nd rfl (Or.inl rfl) (pe_op op_add (pe_op op_add (pv 2) pe_int) (pe_op op_mul (pv 7) (pe_callB (r := rLenS K) call_len_seq (by rfl) T.m_len PySem.boot_len (pa_cons (pv 0) pa_nil)))))
      (pss_cons (ps_if (PW.pt (pw_and (pt_cmpR op_lt (pv 7) pe_int (nomark _)) (pw_and1 (pt_cmpR op_lt (pv 6) (pv 4) (nomark _))))) (pss_one (ps_ret (pe_tup (pa_cons (pe_tup (pa_cons pe_str (pa_cons (pv 7) pa_nil))) (pa_cons (pv 6) pa_nil))))) pss_nil)
      (pss_one (ps_ret (pe_tup (pa_cons (pv 3) (pa_cons (pv 4) pa_nil)))))))))))), ?_⟩
  refine q_asg (v := .int (4 + (m : Int))) (Ev.is (ev_I0 ev_c (ev_var rfl)) rfl) fun H1 e1 => ?_
  refine q_asgU (xs := [.str "rice", .int ((0 : Nat) : Int)]) (eu_tup (ea_cons ev_c (ea_cons ev_c ea_nil)) (Nat.le_of_ble_eq_true rfl)) fun t0 H2 ht0 e2 g2 => ?_
  have e12 := e1.trans e2
  have hc : ∀ k, costI ns m k = 4 + (m : Int) + riceT ns k := fun k => rfl
  unfold entF at q
  generalize costI ns m = f at q hc
  refine q_asg (v := .int (f 0)) (Ev.is (ev_I0 (ev_var rfl) (ev_lrice (k := 0) (Ev.s (ev_var rfl) (ex_l e12 hS)) ev_c (by decide))) (congrArg V.int (hc 0).symm)) fun H3 e3 => ?_
  refine q_forR2 (lo := 1) (n := ((15 + 16 * m : Nat) : Int)) (ea_cons ev_c (ea_cons (Ev.is (ev_I0 ev_c (ev_I ev_c (ev_var rfl) (.inl (by decide)))) (congrArg V.int (by omega))) ea_nil)) (by omega) (fun i σ' H' => ∃ (t : Addr) (z5 z6 : Option V), σ' = [some (.ref a), some (.int (m : Int)), some (.int (4 + (m : Int))), some (.ref t), some (.int (bestN f i).1), z5, z6, none] ∧ Ex H H' ∧ H' t = some (.tup [.str "rice", .int ((bestN f i).2 : Int)])) (fun H4 e4 => ⟨t0, none, none, rfl, e12.trans (e3.trans e4), (e3.trans e4) _ _ g2⟩) ?_ ?_
  · rintro i σ' H4 hi ⟨t, z5, z6, rfl, ex, gt⟩
    have hi30 : i < 30 := by omega
    refine q_asg (v := .int (f (i + 1))) (Ev.is (ev_I0 (ev_var rfl) (ev_lrice (k := i + 1) (Ev.s (ev_var rfl) (ex_l ex hS)) (Ev.is (ev_var rfl) (congrArg V.int (by omega))) (by omega))) (congrArg V.int (hc (i + 1)).symm)) fun H5 e5 => ?_
    have hst : bestN f (i + 1) = if f (i + 1) < (bestN f i).1 then (f (i + 1), i + 1) else bestN f i := rfl
    refine s_when (b := decide (f (i + 1) < (bestN f i).1)) (et_test (ev_I0 (ev_var rfl) (ev_var rfl))) (fun h H6 e6 => ?_) fun h H6 e6 => ?_
    · rw [if_pos (of_decide_eq_true h)] at hst
      refine q_asgU (xs := [.str "rice", .int ((i + 1 : Nat) : Int)]) (eu_tup (ea_cons ev_c (ea_cons (Ev.is (ev_var rfl) (congrArg V.int (by omega))) ea_nil)) (Nat.le_of_ble_eq_true rfl)) fun t2 H7 ht2 e7 g7 => ?_
      refine s_asg (v := .int (f (i + 1))) (ev_var rfl) fun H8 e8 => ⟨t2, some (.int (1 + (i : Int))), some (.int (f (i + 1))), ?_, ex.trans (e5.trans (e6.trans (e7.trans e8))), ?_⟩
      · rw [hst]
        rfl
      · rw [hst]
        exact e8 _ _ g7
    · rw [if_neg (of_decide_eq_false h)] at hst
      refine ⟨t, some (.int (1 + (i : Int))), some (.int (f (i + 1))), ?_, ex.trans (e5.trans e6), ?_⟩
      · rw [hst]
        rfl
      · rw [hst]
        exact (e5.trans e6) _ _ gt
  · rintro σ' H4 ⟨t, z5, z6, rfl, ex, gt⟩
    rw [show (((15 + 16 * m : Nat) : Int) - 1).toNat = 14 + 16 * m by omega] at gt ⊢
    generalize bestN f (14 + 16 * m) = b at *
    refine q_asg (v := .int (widI ns : Int)) (ev_lwidth (Ev.s (ev_var rfl) (ex_l ex hS)) hl hw) fun H5 e5 => ?_
    refine q_asg (v := .int (rawI ns m)) (Ev.is (ev_I0 (ev_I0 (ev_var rfl) ev_c) (ev_I (ev_var rfl) (Ev.is (ev_lenS (Ev.s (ev_var rfl) (ex_l (ex.trans e5) hS))) (by rw [List.length_map])) (.inr (by omega)))) (congrArg V.int (by unfold rawI; rw [Int.mul_comm]))) fun H6 e6 => ?_
    refine q_when (b := decide (widI ns ≤ 31 ∧ rawI ns m < b.1)) (et_is (et_and (a := decide (widI ns ≤ 31)) (b := decide (rawI ns m < b.1)) (et_is (et_test (ev_I0 (ev_var rfl) ev_c)) (decide_eq_decide.mpr (by omega))) fun _ => et_test (ev_I0 (ev_var rfl) (ev_var rfl))) (by rw [Bool.decide_and])) (fun h H7 e7 => ?_) fun h H7 e7 => ?_
    · rw [if_pos (of_decide_eq_true h)] at q
      exact ⟨_, rfl, sz_of (show 2 ≤ 100000 by decide), fun t2 h2 => ⟨_, rfl, sz_of (show 2 ≤ 100000 by decide), fun t1 h1 => q _ _ (((ex.trans (e5.trans (e6.trans e7))).trans (Ex.new h2)).trans (Ex.new h1)) (ent_mk h1)⟩⟩
    · rw [if_neg (of_decide_eq_false h)] at q
      exact s_retU (xs := [.ref t, .int b.1]) (eu_tup (ea_cons (ev_var rfl) (ea_cons (ev_var rfl) ea_nil)) (Nat.le_of_ble_eq_true rfl)) fun t1 H8 h1 e8 g8 => q _ H8 (ex.trans (e5.trans (e6.trans (e7.trans e8)))) ⟨t1, t, rfl, g8, (e5.trans (e6.trans (e7.trans e8))) _ _ gt⟩

/-! ### the coding that the law expects -/
def Bef (s g hi M m p m' p' : Nat) : Prop := LegQ s g hi M m' p' ∧ (m' < m ∨ (m' = m ∧ p' < p))
def So (ns : List Int) (g hi M m p : Nat) : Option Qd → Prop
  | none => ∀ m' p', ¬ Bef (ns.length + g) g hi M m p m' p'
  | some x => (∃ m0 p0, Bef (ns.length + g) g hi M m p m0 p0 ∧ x = qdF ns g m0 p0) ∧ ∀ m' p', Bef (ns.length + g) g hi M m p m' p' → ¬ ltQ (qdF ns g m' p') x
section
variable {ns : List Int} {g hi M m p : Nat} {o : Option Qd} {x : Qd}
theorem bef_succ {s m' p' : Nat} : Bef s g hi M m (p + 1) m' p' ↔ Bef s g hi M m p m' p' ∨ (LegQ s g hi M m p ∧ m' = m ∧ p' = p) := by
  unfold Bef
  constructor
  · rintro ⟨h, h2⟩
    by_cases e : m' = m ∧ p' = p
    · obtain ⟨rfl, rfl⟩ := e
      exact .inr ⟨h, rfl, rfl⟩
    · exact .inl ⟨h, by omega⟩
  · rintro (⟨h, h2⟩ | ⟨h, rfl, rfl⟩)
    · exact ⟨h, by omega⟩
    · exact ⟨h, by omega⟩
theorem So.skip (hl : ¬ LegQ (ns.length + g) g hi M m p) (h : So ns g hi M m p o) : So ns g hi M m (p + 1) o := by
  have e : ∀ m' p', Bef (ns.length + g) g hi M m (p + 1) m' p' ↔ Bef (ns.length + g) g hi M m p m' p' := fun m' p' => by
    rw [bef_succ]
    exact ⟨fun z => z.elim id fun y => absurd y.1 hl, .inl⟩
  cases o with
  | none => exact fun m' p' => by rw [e]; exact h m' p'
  | some x =>
    obtain ⟨⟨m0, p0, h1, h2⟩, h3⟩ := h
    exact ⟨⟨m0, p0, (e _ _).mpr h1, h2⟩, fun m' p' hb => h3 m' p' ((e _ _).mp hb)⟩
theorem So.keep (hl : LegQ (ns.length + g) g hi M m p) (h : So ns g hi M m p (some x)) (hb : ¬ (qdF ns g m p).b < x.b) : So ns g hi M m (p + 1) (some x) := by
  obtain ⟨⟨m0, p0, h1, rfl⟩, h3⟩ := h
  refine ⟨⟨m0, p0, bef_succ.mpr (.inl h1), rfl⟩, fun m' p' h => ?_⟩
  rcases bef_succ.mp h with h | ⟨h, rfl, rfl⟩
  · exact h3 _ _ h
  · have h4 := h1.2
    unfold ltQ qdF
    unfold qdF at hb
    dsimp only at hb ⊢
    omega
theorem So.take (hl : LegQ (ns.length + g) g hi M m p) (h : So ns g hi M m p o) (hb : ∀ y, o = some y → (qdF ns g m p).b < y.b) : So ns g hi M m (p + 1) (some (qdF ns g m p)) := by
  refine ⟨⟨m, p, bef_succ.mpr (.inr ⟨hl, rfl, rfl⟩), rfl⟩, fun m' p' h' => ?_⟩
  rcases bef_succ.mp h' with h' | ⟨h', rfl, rfl⟩
  · cases o with
    | none => exact absurd h' (h _ _)
    | some y =>
      have a := h.2 _ _ h'
      have b := hb y rfl
      unfold ltQ at a ⊢
      omega
  · unfold ltQ
    omega
theorem So.row (h : So ns g hi M m (hi + 1) o) : So ns g hi M (m + 1) 0 o := by
  have e : ∀ m' p', Bef (ns.length + g) g hi M (m + 1) 0 m' p' ↔ Bef (ns.length + g) g hi M m (hi + 1) m' p' := fun m' p' => by
    unfold Bef LegQ
    constructor <;> rintro ⟨⟨a, b, c⟩, d⟩ <;> exact ⟨⟨a, b, c⟩, by omega⟩
  cases o with
  | none => exact fun m' p' => by rw [e]; exact h m' p'
  | some x =>
    obtain ⟨⟨m0, p0, h1, h2⟩, h3⟩ := h
    exact ⟨⟨m0, p0, (e _ _).mpr h1, h2⟩, fun m' p' hb => h3 m' p' ((e _ _).mp hb)⟩
theorem So.zero : So ns g hi M 0 0 none := fun m' p' h => by
  have := h.2
  omega
theorem So.fin (h0 : 0 < ns.length) (hM : 0 < M) (h : So ns g hi M M 0 o) : ∃ x, o = some x ∧ BestQ ns g hi M x := by
  have e : ∀ m' p', LegQ (ns.length + g) g hi M m' p' → Bef (ns.length + g) g hi M M 0 m' p' := fun m' p' h => ⟨h, .inl h.1⟩
  cases o with
  | none => exact absurd (e 0 0 ⟨hM, Nat.zero_le _, legP_zero (by omega)⟩) (h 0 0)
  | some x =>
    obtain ⟨⟨m0, p0, h1, h2⟩, h3⟩ := h
    exact ⟨x, rfl, m0, p0, h1.1, h2, fun m' p' hl => h3 m' p' (e m' p' hl)⟩
end
def BstAt (H : Hp) (v : V) (l : Int) : Option Qd → Prop
  | none => v = .non
  | some x => ∃ (t tc : Addr) (rs : List V), v = .ref t ∧ l = x.b ∧ H t = some (.tup [.int (x.m : Int), .int (x.p : Int), .ref tc]) ∧ H tc = some (.tup rs) ∧ CodAt H rs x.cs
theorem BstAt.tx {H H' : Hp} {v : V} {l : Int} {o : Option Qd} (h : BstAt H v l o) (t : TxH H H') : BstAt H' v l o := by
  cases o with
  | none => exact h
  | some x => obtain ⟨a, tc, rs, h0, h1, h2, h3, h4⟩ := h; exact ⟨a, tc, rs, h0, h1, t _ _ h2, t _ _ h3, h4.tx t⟩
theorem codsF_succ (f : Nat → List Int) (k m : Nat) : codsF f (k + 1) m = codsF f k m ++ [(entF (f k) m).1] := by unfold codsF; rw [List.range_succ, List.map_append]; rfl
theorem totF_succ (f : Nat → List Int) (k m : Nat) : totF f (k + 1) m = totF f k m + (entF (f k) m).2 := by
  unfold totF
  rw [List.range_succ, List.map_append, List.sum_append]
  show 6 + (_ + ((entF (f k) m).2 + 0)) = _
  omega
theorem CodAt.snoc {H : Hp} {rs : List V} {cs : List (Str × Int)} {c : Str × Int} {t : Addr} (h : CodAt H rs cs) (ht : H t = some (.tup [.str c.1, .int c.2])) : CodAt H (rs ++ [.ref t]) (cs ++ [c]) := by
  refine ⟨by rw [List.length_append, List.length_append, h.1]; rfl, fun i c' hc => ?_⟩
  by_cases hi : i < cs.length
  · rw [List.getElem?_append_left hi] at hc
    obtain ⟨t', h1, h2⟩ := h.2 i c' hc
    exact ⟨t', by rw [List.getElem?_append_left (by rw [h.1]; exact hi)]; exact h1, h2⟩
  · have hlt := (List.getElem?_eq_some_iff.mp hc).1
    rw [List.length_append] at hlt
    have hlt : i < cs.length + 1 := hlt
    obtain rfl : i = cs.length := by omega
    rw [List.getElem?_append_right (Nat.le_refl _), Nat.sub_self] at hc
    cases hc
    exact ⟨t, by rw [List.getElem?_append_right (by rw [h.1]; exact Nat.le_refl _), h.1, Nat.sub_self]; rfl, ht⟩
theorem eu_tupOfS {te : TE} {σ : L2.St} {H : Hp} {xs : List V} (h : EvS K te σ H xs) : EvU (tCB (fun xs H Q => ∃ p ys, xs = [V.ref p] ∧ ((SqL K H p ys ∧ ∀ l : Addr, H l = none → Q (V.ref l) (upd H l (.tup ys))) ∨ SqT K H p ys ∧ Q (V.ref p) H)) (tCons te tNil)) σ H xs := fun H1 e Q q =>
  h H1 e _ fun p H2 e2 hp => ⟨p, xs, rfl, .inl ⟨hp, fun l hl => q l _ (fresh_back e2 hl) (e2.trans (Ex.new hl)) upd_same⟩⟩
theorem chk_mem {ns : List Int} {g p k : Nat} {v : Int} (h : v ∈ chk ns g p k) : v ∈ ns := by
  unfold chk cutN at h
  exact List.mem_of_mem_drop (List.mem_of_mem_take h)
theorem wid_33' {ms : List Int} (h : ∀ v ∈ ms, -(2 ^ 31) < v ∧ v < 2 ^ 31) : widI ms ≤ 33 := widI_le.mpr fun n hn => by
  have h := h n hn
  have e : (2 : Int) ^ 33 = 8589934592 := rfl
  unfold foldI
  split <;> omega
theorem q_asgC2L {t1 t2 : TE} {v : V} {xs : List V} {g : TG} {sp : Sp} {dvs : List V} {E : XK} {tz : TS} {D : Ends} {σ : L2.St} {H : Hp} (h1 : EvL t1 σ H xs) (h2 : Ev t2 σ H v) (k : ∀ H1 p, H p = none → Ex H H1 → H1 p = some (.lst xs) → sp ([.ref p, v] ++ dvs) H1 (fun x H2 => g x σ H2 (tz D)) E) : tSeq (tAsg (tCall sp dvs E (tCons t1 (tCons t2 tNil))) g) tz D σ H := h1 H (Ex.refl _) _ fun p H1 hp e1 g1 => h2 H1 e1 _ fun H2 e2 => k H2 p hp (e1.trans e2) (e2 _ _ g1)
theorem q_asgX {te : TE} {S : V → Hp → Prop} {tz : TS} {D : Ends} {σ : L2.St} {H : Hp} {i : Nat} (h : EvX te σ H S) (k : ∀ v H1, Ex H H1 → S v H1 → tz D (σ.set i (some v)) H1) : tSeq (tAsg te (gName i)) tz D σ H := h H (Ex.refl H) _ fun v H1 e hS => k v H1 e hS
theorem ex_tup3 {t1 t2 t3 : TE} {σ : L2.St} {H : Hp} {v1 v2 : V} {xs : List V} {S : V → Hp → Prop} (h1 : Ev t1 σ H v1) (h2 : Ev t2 σ H v2) (h3 : EvU t3 σ H xs) (hS : ∀ t tc H1, Ex H H1 → H1 t = some (.tup [v1, v2, .ref tc]) → H1 tc = some (.tup xs) → S (.ref t) H1) : EvX (tTup (tCons t1 (tCons t2 (tCons t3 tNil)))) σ H S := fun H1 e Q q =>
  h1 H1 e _ fun H2 e2 => h2 H2 (e.trans e2) _ fun H3 e3 => h3 H3 ((e.trans e2).trans e3) _ fun tc H4 htc e4 g4 => ⟨sz_of (show 3 ≤ 100000 by decide), fun t ht => q (.ref t) _ (((e2.trans e3).trans e4).trans (Ex.new ht)) (hS t tc _ (((e.trans e2).trans e3).trans (e4.trans (Ex.new ht))) upd_same ((Ex.new ht) _ _ g4))⟩
def sp_lcod (K : PySem.W.Frag) : Sp := fun vs H Q _ => ∃ (a : Addr) (ns : List Int) (g hi : Nat) (wd : Bool), vs = [.ref a, .int (g : Int), .int (hi : Int), .bl wd] ∧ SqL K H a (ns.map V.int) ∧ 0 < ns.length ∧ ns.length + g ≤ 1000 ∧ hi ≤ 15 ∧ (∀ v ∈ ns, -(2 ^ 31) < v ∧ v < 2 ^ 31) ∧ ∀ v H' x, Ex H H' → BestQ ns g hi (if wd = true then 2 else 1) x → Dp K H' v (bcD x) → Q v H'
theorem ok_law_coding (T : TX K mg) : FnOk P w K mg base CX0 4 T.a_law_coding T.d_law_coding ["values", "degree", "most_parts", "both_methods"] (sp_lcod K) := by
  refine T.F_law_coding.ok sc_law_coding (fun vs H Q E h => by obtain ⟨a, ns, g, hi, wd, rfl, _⟩ := h; rfl) (fun cdv A outer s0 H vs Q E hr h => ?_)
  obtain ⟨a, ns, g, hi, wd, rfl, hA, hnl, hs, hhi, hb31, q⟩ := h
  refine ⟨_, (pss_cons (ps_set (i := 4) sc_law_coding.nd rfl (Or.inl rfl) (pe_op op_add (pe_callB (r := rLenS K) call_len_seq (by rfl) T.m_len PySem.boot_len (pa_cons (pv 0) pa_nil)) (pv 1)))
      (pss_cons (ps_set (i := 5) sc_law_coding.nd rfl (Or.inl rfl) pe_non)
      (pss_cons (ps_set (i := 6) sc_law_coding.nd rfl (Or.inl rfl) pe_int)
      (pss_cons (ps_for PassesOwn.never rfl (pi_range1 (by rfl) T.m_range (pa_cons (pe_op op_add pe_int (pe_callTy call_int1 (by rfl) T.m_int PyProof.Rows.boot_int (pa_cons (pv 3) pa_nil))) pa_nil)) (pg_name (i := 7) sc_law_coding.nd rfl (Or.inl rfl)) (pss_one (ps_for PassesOwn.never rfl (pi_range1 (by rfl) T.m_range (pa_cons (pe_op op_add (pv 2) pe_int) pa_nil)) (pg_name (i := 8) sc_law_coding.nd rfl (Or.inl rfl)) (pss_cons (ps_set (i := 9) sc_law_coding.nd rfl (Or.inl rfl) (pe_op op_shl pe_int (pv 8)))
          (pss_one (ps_if (PW.pt (pw_and (pt_cmpR op_eq (pe_op op_mul (pe_op op_fdivW (pv 4) (pv 9)) (pv 9)) (pv 4) (nomark _)) (pw_and1 (pt_cmpR op_gt (pe_op op_fdivW (pv 4) (pv 9)) (pv 1) (nomark _))))) (pss_cons (ps_set (i := 10) sc_law_coding.nd rfl (Or.inl rfl) pe_int)
            (pss_cons (ps_set (i := 11) sc_law_coding.nd rfl (Or.inl rfl) (pe_lst pa_nil))
            (pss_cons (ps_set (i := 12) sc_law_coding.nd rfl (Or.inl rfl) pe_int)
            (pss_cons (ps_for PassesOwn.never rfl (pi_range1 (by rfl) T.m_range (pa_cons (pv 9) pa_nil)) (pg_name (i := 13) sc_law_coding.nd rfl (Or.inl rfl)) (pss_cons (ps_set (i := 14) sc_law_coding.nd rfl (Or.inl rfl) (pe_op op_sub (pe_op op_fdivW (pv 4) (pv 9)) (pe_op op_mul (pv 1) (pe_callTy call_int1 (by rfl) T.m_int PyProof.Rows.boot_int (pa_cons (pe_cmpR op_eq (pv 13) pe_int (nomark _)) pa_nil)))))
              (pss_cons (ps_asg (pe_call (ok_law_entry T) (hr.mono (by decide)) (by rfl) T.g_law_entry T.F_law_entry.kp T.b_law_entry .nil pass0 (pa_cons (pe_slice (r := rSlL K) sl_list (pv 0) (po_some (pv 12)) (po_some (pe_op op_add (pv 12) (pv 14)))) (pa_cons (pv 7) pa_nil))) (pg_tup rfl (pgs_cons (pg_name (i := 15) sc_law_coding.nd rfl (Or.inl rfl)) (pgs_cons (pg_name (i := 16) sc_law_coding.nd rfl (Or.inl rfl)) pgs_nil))))
              (pss_cons (ps_set (i := 12) sc_law_coding.nd rfl (Or.inl rfl) (pe_op op_add (pv 12) (pv 14)))
              (pss_cons (ps_set (i := 10) sc_law_coding.nd rfl (Or.inl rfl) (pe_op op_add (pv 10) (pv 16)))
              (pss_one (ps_expr (pe_bm PySem.F.plainAttrs_list PySem.F.slot_list_append PySem.F.type_list_append mt_append (pv 11) (pa_cons (pv 15) pa_nil)))))))))
            (pss_one (ps_if (PW.pt (pw_or (pt_cmpR op_isN1 (pv 5) pe_non (nomark _)) (pw_or1 (pt_cmpR op_lt (pv 10) (pv 6) (nomark _))))) (pss_cons (ps_set (i := 5) sc_law_coding.nd rfl (Or.inl rfl) (pe_tup (pa_cons (pv 7) (pa_cons (pv 8) (pa_cons (pe_callTy call_tuple_of (by rfl) T.m_tuple PyProof.Rows.boot_tuple (pa_cons (pv 11) pa_nil)) pa_nil)))))
              (pss_one (ps_set (i := 6) sc_law_coding.nd rfl (Or.inl rfl) (pv 10)))) pss_nil)))))) pss_nil))))))
      (pss_one (ps_ret (pe_tup (pa_cons (pv 5) (pa_cons (pv 6) pa_nil))))))))), ?_⟩
  refine q_asg (v := .int ((ns.length + g : Nat) : Int)) (Ev.is (ev_I0 (g := fun i j => .int (i + j)) (ev_lenS (Ev.s (ev_var rfl) hA)) (ev_var rfl)) (congrArg V.int (by rw [List.length_map]; omega))) fun H1 e1 => ?_
  obtain ⟨s, hsd⟩ : ∃ s, s = ns.length + g := ⟨_, rfl⟩
  rw [← hsd]
  refine q_asg (v := .non) ev_c fun H2 e2 => ?_
  refine q_asg (v := .int 0) ev_c fun H3 e3 => ?_
  have e13 := e1.trans (e2.trans e3)
  obtain ⟨M, hM⟩ : ∃ M, M = if wd = true then 2 else 1 := ⟨_, rfl⟩
  rw [← hM] at q
  have hM12 : M = 1 ∨ M = 2 := by split at hM <;> omega
  refine q_forR1 (n := (M : Int)) (ea_cons (Ev.is (ev_I0 (g := fun i j => .int (i + j)) ev_c (ev_intB (ev_var rfl))) (congrArg V.int (by rw [hM]; split <;> rfl))) ea_nil) (by omega) (fun m σ' H' => ∃ (vb : V) (l : Int) (o : Option Qd) (z7 z8 z9 z10 z11 z12 z13 z14 z15 z16 : Option V), σ' = [some (.ref a), some (.int (g : Int)), some (.int (hi : Int)), some (.bl wd), some (.int (s : Int)), some vb, some (.int l), z7, z8, z9, z10, z11, z12, z13, z14, z15, z16] ∧ Ex H H' ∧ BstAt H' vb l o ∧ So ns g hi M m 0 o) (fun H4 e4 => ⟨.non, 0, none, none, none, none, none, none, none, none, none, none, none, rfl, e13.trans e4, rfl, So.zero⟩) ?_ ?_
  · rintro m σ' H4 hm ⟨vb, l, o, z7, z8, z9, z10, z11, z12, z13, z14, z15, z16, rfl, ex, hB, hO⟩
    have hm' : m < M := by omega
    refine s_forR1 (n := ((hi + 1 : Nat) : Int)) (ea_cons (Ev.is (ev_I0 (g := fun i j => .int (i + j)) (ev_var rfl) ev_c) (congrArg V.int (by omega))) ea_nil) (by omega) (fun p σ' H' => ∃ (vb : V) (l : Int) (o : Option Qd) (z8 z9 z10 z11 z12 z13 z14 z15 z16 : Option V), σ' = [some (.ref a), some (.int (g : Int)), some (.int (hi : Int)), some (.bl wd), some (.int (s : Int)), some vb, some (.int l), some (.int (m : Int)), z8, z9, z10, z11, z12, z13, z14, z15, z16] ∧ Ex H H' ∧ BstAt H' vb l o ∧ So ns g hi M m p o) (fun H5 e5 => ⟨vb, l, o, z8, z9, z10, z11, z12, z13, z14, z15, z16, rfl, ex.trans e5, hB.tx (TxH.ex e5), hO⟩) ?_ ?_
    · clear hO hB ex z8 z9 z10 z11 z12 z13 z14 z15 z16 vb l o
      rintro p σ' H5 hp ⟨vb, l, o, z8, z9, z10, z11, z12, z13, z14, z15, z16, rfl, ex, hB, hO⟩
      have hp16 : p ≤ 15 := by omega
      have hpp : 0 < 2 ^ p := Nat.two_pow_pos p
      have hp0 : (0 : Int) ≤ ((2 ^ p : Nat) : Int) := Int.natCast_nonneg _
      have hp15 : ((2 ^ p : Nat) : Int) ≤ 32768 := Int.ofNat_le.mpr (Nat.pow_le_pow_right (n := 2) (j := 15) (by decide) hp16)
      have hlog : (((2 ^ p : Nat)) : Int).natAbs.log2 < 9000 := by rw [Int.natAbs_natCast, Nat.log2_two_pow]; omega
      refine q_asg (v := .int ((2 ^ p : Nat) : Int)) (Ev.is (ev_I ev_c (ev_var rfl) (show CPow 1 (p : Int) from ⟨by omega, by omega, by decide⟩)) (congrArg V.int (by rw [Int.toNat_natCast, Int.one_mul, p2c]))) fun H6 e6 => ?_
      have hdv : ∀ {σ : L2.St} {H' : Hp}, σ[4]? = some (some (.int (s : Int))) → σ[9]? = some (some (.int ((2 ^ p : Nat) : Int))) → Ev (tOp (rI CDivW fun i j => .int (i / j)) (tVar 4) (tVar 9)) σ H' (.int ((s / 2 ^ p : Nat) : Int)) := fun h4 h9 => Ev.is (ev_I (ev_var h4) (ev_var h9) ⟨by omega, hlog⟩) (congrArg V.int (Int.natCast_ediv _ _).symm)
      refine s_when (b := decide (LegP s g p)) (et_is (et_and (et_test (ev_eq (ev_I (hdv rfl rfl) (ev_var rfl) (.inr (by generalize ((2 ^ p : Nat) : Int) = y at *; omega))) (ev_var rfl) rfl)) fun _ => et_test (ev_I0 (hdv rfl rfl) (ev_var rfl))) ?_) (fun hl H7 e7 => ?_) fun hl H7 e7 => ?_
      · have e : decide (LegP s g p) = (decide (s % 2 ^ p = 0) && decide (g < s / 2 ^ p)) := by rw [Bool.eq_iff_iff, decide_eq_true_iff, Bool.and_eq_true, decide_eq_true_iff, decide_eq_true_iff]; exact Iff.rfl
        rw [e]
        congr 1
        · refine decide_eq_decide.mpr ?_
          have h1 := Nat.div_add_mod s (2 ^ p)
          rw [Nat.mul_comm] at h1
          rw [V.int.injEq, ← Int.natCast_mul]
          generalize s / 2 ^ p * 2 ^ p = y at *
          omega
        · exact decide_eq_decide.mpr (by omega)
      · have hl := of_decide_eq_true hl
        have hlq : LegQ (ns.length + g) g hi M m p := ⟨hm', by omega, by rw [← hsd]; exact hl⟩
        have hp2 : 2 ^ p ≤ 1000 := by
          have := hl.2
          have h2 : 2 ^ p ≤ s := Nat.le_of_not_lt fun z => by rw [Nat.div_eq_of_lt z] at this; omega
          omega
        obtain ⟨W, hW⟩ : ∃ W, s / 2 ^ p = W := ⟨_, rfl⟩
        rw [hW] at hdv
        have hgW : g < W := hW ▸ hl.2
        have hck : ∀ k, chk ns g p k = cutN ns (k * W - g) ((k + 1) * W - g) := fun k => by unfold chk; rw [← hsd, hW]
        refine q_asg (v := .int 6) ev_c fun H8 e8 => ?_
        refine q_asgL (xs := []) (el_lst ea_nil (by decide)) fun en B hen e9 ge => ?_
        refine q_asg (v := .int 0) ev_c fun H10 e10 => ?_
        have ex8 := ex.trans (e6.trans (e7.trans e8))
        have henH : H en = none := fresh_back ex8 hen
        refine q_forR1 (n := ((2 ^ p : Nat) : Int)) (ea_cons (ev_var rfl) ea_nil) (by omega) (fun k σ' H' => ∃ (rs : List V) (z13 z14 z15 z16 : Option V), σ' = [some (.ref a), some (.int (g : Int)), some (.int (hi : Int)), some (.bl wd), some (.int (s : Int)), some vb, some (.int l), some (.int (m : Int)), some (.int (p : Int)), some (.int ((2 ^ p : Nat) : Int)), some (.int (totF (chk ns g p) k m)), some (.ref en), some (.int ((k * W - g : Nat) : Int)), z13, z14, z15, z16] ∧ Ex H H' ∧ H' en = some (.lst rs) ∧ CodAt H' rs (codsF (chk ns g p) k m) ∧ BstAt H' vb l o) (fun H11 e11 => ⟨[], z13, z14, z15, z16, by rw [Nat.zero_mul, Nat.zero_sub]; rfl, ex8.trans (e9.trans (e10.trans e11)), (e10.trans e11) _ _ ge, ⟨rfl, fun i c hc => by cases hc⟩, hB.tx (TxH.ex ((e6.trans (e7.trans e8)).trans (e9.trans (e10.trans e11))))⟩) ?_ ?_
        · clear hB ex8 ge hen z13 z14 z15 z16 z10 z11 z12 z8 z9 ex
          rintro k σ' H11 hk ⟨rs, z13, z14, z15, z16, rfl, ex, gE, hC, hB⟩
          have hrl : rs.length = k := by rw [hC.1]; unfold codsF; rw [List.length_map, List.length_range]
          have hlen : ((W : Int) - (g : Int) * (if decide (V.int (k : Int) = V.int 0) = true then 1 else 0)) = (((k + 1) * W - g : Nat) : Int) - ((k * W - g : Nat) : Int) := by
            rw [Nat.add_mul k 1 W, Nat.one_mul]
            cases k with
            | zero =>
              rw [Nat.zero_mul, if_pos (by rfl)]
              omega
            | succ k =>
              rw [if_neg (by simp; omega), Nat.add_mul k 1 W, Nat.one_mul]
              omega
          refine q_asg (v := .int ((((k + 1) * W - g : Nat) : Int) - ((k * W - g : Nat) : Int))) (Ev.is (ev_I0 (g := fun i j => .int (i - j)) (hdv rfl rfl) (ev_I (ev_var rfl) (ev_intB (ev_eq (ev_var rfl) ev_c rfl)) (by show CMul _ _; unfold CMul; split <;> omega))) (congrArg V.int hlen)) fun H12 e12 => ?_
          refine q_asgC2L (xs := (chk ns g p k).map V.int) (v := .int (m : Int)) (EvL.is (el_mid (ns := ns) (i := k * W - g) (j := (k + 1) * W - g) (Ev.s (ev_var rfl) (ex_l (ex.trans e12) hA)) (ev_var rfl) (Ev.is (ev_I0 (g := fun i j => .int (i + j)) (ev_var rfl) (ev_var rfl)) (congrArg V.int (by omega)))) (by rw [hck]; rfl)) (ev_var rfl) fun H13 pc hpc e13 gpc => ⟨pc, chk ns g p k, m, rfl, sq_of gpc, Nat.le_trans (chk_len ..) (by omega), by omega, wid_33' fun v hv => hb31 v (chk_mem hv), fun v H14 e14 hv => ?_⟩
          obtain ⟨t, t2, rfl, gt, gt2⟩ := hv
          refine ⟨t, _, rfl, st_of gt, rfl, .ref t2, [_], rfl, _, [], rfl, rfl, ?_⟩
          refine q_asg (v := .int (((k + 1) * W - g : Nat) : Int)) (Ev.is (ev_I0 (g := fun i j => .int (i + j)) (ev_var rfl) (ev_var rfl)) (congrArg V.int (by omega))) fun H15 e15 => ?_
          refine q_asg (v := .int (totF (chk ns g p) (k + 1) m)) (Ev.is (ev_I0 (g := fun i j => .int (i + j)) (ev_var rfl) (ev_var rfl)) (congrArg V.int (totF_succ ..).symm)) fun H16 e16 => ?_
          have e1116 := e12.trans (e13.trans (e14.trans (e15.trans e16)))
          refine s_app (v := .ref t2) (e1116 _ _ gE) (ev_var rfl) (ev_var rfl) (by omega) fun H17 e17 => ?_
          have e1117 := e1116.trans e17
          have hT : TxH H17 (upd H17 en (.lst (rs ++ [.ref t2]))) := TxH.upd (e1117 _ _ gE)
          refine ⟨rs ++ [.ref t2], _, _, _, _, rfl, Ex.mut (ex.trans e1117) henH, upd_same, ?_, (hB.tx (TxH.ex e1117)).tx hT⟩
          rw [codsF_succ]
          exact CodAt.snoc ((hC.tx (TxH.ex e1117)).tx hT) (hT _ _ ((e15.trans (e16.trans e17)) _ _ gt2))
        · clear hB ex8 ge hen z13 z14 z15 z16 z10 z11 z12 z8 z9 ex
          rintro σ' H11 ⟨rs, z13, z14, z15, z16, rfl, ex, gE, hC, hB⟩
          rw [Int.toNat_natCast] at hC ⊢
          have hq : (qdF ns g m p).b = totF (chk ns g p) (2 ^ p) m := rfl
          refine s_when (b := decide (vb = .non) || decide (totF (chk ns g p) (2 ^ p) m < l)) (et_or (et_test (ev_isN (ev_var rfl))) fun _ => et_test (ev_I0 (ev_var rfl) (ev_var rfl))) (fun hb H12 e12 => ?_) fun hb H12 e12 => ?_
          · refine q_asgX (S := fun v G => BstAt G v (totF (chk ns g p) (2 ^ p) m) (some (qdF ns g m p))) (ex_tup3 (ev_var rfl) (ev_var rfl) (eu_tupOfS (Ev.s (ev_var rfl) (sq_of (e12 _ _ gE)))) fun t tc H1 e gt gtc => ⟨t, tc, rs, rfl, rfl, gt, gtc, hC.tx (TxH.ex (e12.trans e))⟩) fun v H13 e13 hv => ?_
            refine s_asg (v := .int (totF (chk ns g p) (2 ^ p) m)) (ev_var rfl) fun H14 e14 => ⟨v, _, some (qdF ns g m p), some (.int (p : Int)), some (.int ((2 ^ p : Nat) : Int)), some (.int (totF (chk ns g p) (2 ^ p) m)), some (.ref en), some (.int ((2 ^ p * W - g : Nat) : Int)), z13, z14, z15, z16, rfl, ex.trans (e12.trans (e13.trans e14)), hv.tx (TxH.ex e14), So.take hlq hO fun y hy => ?_⟩
            subst hy
            obtain ⟨t, tc, rs', rfl, rfl, -⟩ := hB
            rw [hq]
            simpa using hb
          · cases o with
            | none =>
              have hB : vb = .non := hB
              rw [hB] at hb
              cases hb
            | some x =>
              refine ⟨vb, l, some x, some (.int (p : Int)), some (.int ((2 ^ p : Nat) : Int)), some (.int (totF (chk ns g p) (2 ^ p) m)), some (.ref en), some (.int ((2 ^ p * W - g : Nat) : Int)), z13, z14, z15, z16, rfl, ex.trans e12, hB.tx (TxH.ex e12), So.keep hlq hO ?_⟩
              obtain ⟨t, tc, rs', rfl, rfl, -⟩ := hB
              rw [hq]
              simpa using hb
      · have hl := of_decide_eq_false hl
        exact ⟨vb, l, o, some (.int (p : Int)), some (.int ((2 ^ p : Nat) : Int)), z10, z11, z12, z13, z14, z15, z16, rfl, ex.trans (e6.trans e7), hB.tx (TxH.ex (e6.trans e7)), So.skip (fun z => hl (by rw [hsd]; exact z.2.2)) hO⟩
    · rintro σ' H5 ⟨vb, l, o, z8, z9, z10, z11, z12, z13, z14, z15, z16, rfl, ex, hB, hO⟩
      rw [Int.toNat_natCast] at hO
      exact ⟨vb, l, o, _, z8, z9, z10, z11, z12, z13, z14, z15, z16, rfl, ex, hB, So.row hO⟩
  · rintro σ' H4 ⟨vb, l, o, z7, z8, z9, z10, z11, z12, z13, z14, z15, z16, rfl, ex, hB, hO⟩
    rw [Int.toNat_natCast] at hO
    obtain ⟨x, rfl, hx⟩ := So.fin hnl (by omega) hO
    obtain ⟨t, tc, rs, rfl, rfl, h1, h2, h3⟩ := hB
    exact s_retD (ed_tup2 (EvD.of (ev_var rfl) (.tup (st_of h1) (.cons (.int _) (.cons (.int _) (.cons (.tup (st_of h2) h3.d) .nil))))) (EvD.of (ev_var rfl) (.int x.b))) fun v H5 e5 hv => q v H5 x (ex.trans e5) hx hv
/-! ### the law -/
def sp_lents : Sp := fun vs H Q _ => ∃ (t : Addr) (rs : List V) (cs : List (Str × Int)), vs = [.ref t] ∧ H t = some (.tup rs) ∧ CodAt H rs cs ∧ RetV (.bl true) H Q
theorem ev_isiS {σ : L2.St} {H : Hp} {ta : TE} {x : Str} (ha : Ev ta σ H (.str x)) : Ev (tCB (rIsi K) (tCons ta (tCons (tC (.ty "str")) tNil))) σ H (.bl true) := ev_isi ha (fun _ _ => .base (.str _)) (T := "str") (by decide +kernel)
theorem ok_law_entries (T : TX K mg) : FnOk P w K mg base CX0 2 T.a_law_entries T.d_law_entries ["entries"] sp_lents := by
  refine T.F_law_entries.ok sc_law_entries (fun vs H Q E h => by obtain ⟨t, rs, cs, rfl, _⟩ := h; rfl) (fun cdv A outer s H vs Q E hr h => ?_)
  obtain ⟨t, rs, cs, rfl, ht, hc, k⟩ := h
  refine ⟨_, (pss_cons (ps_if (pt_not (pt_val (pe_callB (r := rIsi K) call_isi (by rfl) T.m_isinstance PyProof.Rows.boot_isinstance (pa_cons (pv 0) (pa_cons (pe_bltn (v := V.ty "tuple") (by rfl) T.m_tuple PyProof.Rows.boot_tuple rfl) pa_nil))))) (pss_one (ps_ret pe_bl)) pss_nil)
      (pss_cons (ps_for PassesOwn.never rfl (pi_tup (pv 0)) (pg_name (i := 1) sc_law_entries.nd rfl (Or.inl rfl)) (pss_cons (ps_if (PW.pt (pw_or (pt_not (pt_val (pe_callB (r := rIsi K) call_isi (by rfl) T.m_isinstance PyProof.Rows.boot_isinstance (pa_cons (pv 1) (pa_cons (pe_bltn (v := V.ty "tuple") (by rfl) T.m_tuple PyProof.Rows.boot_tuple rfl) pa_nil))))) (pw_or (pt_cmpR op_ne (pe_callB (r := rLenS K) call_len_seq (by rfl) T.m_len PySem.boot_len (pa_cons (pv 1) pa_nil)) pe_int (nomark _)) (pw_or1 (pt_not (pt_val (pe_callB (r := rIsi K) call_isi (by rfl) T.m_isinstance PyProof.Rows.boot_isinstance (pa_cons (pe_ix (r := rIxT K) ix_tup (pv 1) pe_int (fun _ _ => rfl)) (pa_cons (pe_bltn (v := V.ty "str") (by rfl) T.m_str PyProof.Rows.boot_str rfl) pa_nil))))))))) (pss_one (ps_ret pe_bl)) pss_nil)
        (pss_one (ps_if (pt_not (pt_val (pe_call (ok_law_integer T) (hr.mono (by decide)) (by rfl) T.g_law_integer T.F_law_integer.kp T.b_law_integer .nil pass0 (pa_cons (pe_ix (r := rIxT K) ix_tup (pv 1) pe_int (fun _ _ => rfl)) pa_nil)))) (pss_one (ps_ret pe_bl)) pss_nil))))
      (pss_one (ps_ret pe_bl)))), ?_⟩
  refine q_when (b := false) (et_is (et_not (et_B (ev_isiT (K := K) (ev_var rfl) ht))) rfl) (fun hb => by cases hb) fun _ H1 e1 => ?_
  refine q_forT (K := K) (a := t) (ev_var rfl) (st_of (e1 _ _ ht)) (fun i σ' H' => ∃ z1, σ' = [some (.ref t), z1] ∧ Ex H H') (fun H2 e2 => ⟨none, rfl, e1.trans e2⟩) (fun i σ' H' _ h => ?_) ?_ ?_
  · obtain ⟨_, _, ex⟩ := h
    exact st_of (ex _ _ ht)
  · rintro i x σ' H2 hx ⟨z1, rfl, ex⟩
    have hi : i < cs.length := by rw [← hc.1]; exact (List.getElem?_eq_some_iff.mp hx).1
    obtain ⟨u, h1, h2⟩ := hc.2 i cs[i] (List.getElem?_eq_getElem hi)
    rw [hx] at h1
    cases h1
    have g2 := ex _ _ h2
    refine q_when (b := false) (et_is (et_or (a := false) (b := false) (et_is (et_not (et_B (ev_isiT (K := K) (ev_var rfl) g2))) rfl) fun _ => et_or (a := false) (b := false) (et_is (et_test (ev_ne (ev_lenT (K := K) (ev_var rfl) g2) ev_c rfl)) rfl) fun _ => et_is (et_not (et_B (ev_isiS (K := K) (ev_atT (n := 0) (ev_var rfl) (st_of g2) ev_c (at_of (j := 0) rfl rfl))))) rfl) rfl) (fun hb => by cases hb) fun _ H3 e3 => ?_
    refine s_when (b := false) (et_is (et_not (et_B (ev_isint (n := (cs[i]).2) (ev_atT (n := 1) (ev_var rfl) (st_of (e3 _ _ g2)) ev_c (at_of (j := 1) rfl rfl))))) rfl) (fun hb => by cases hb) fun _ H4 e4 => ⟨_, rfl, ex.trans (e3.trans e4)⟩
  · rintro σ' H2 ⟨z1, rfl, ex⟩
    exact s_ret (v := .bl true) ev_c fun H3 e3 => k H3 (ex.trans e3)
theorem canLay_cods : ∀ cs : List (Str × Int), (∀ c ∈ cs, c.1 = "raw" ∨ c.1 = "rice") → PyData.canLayAll0 (cs.map codD) = true
  | [], _ => rfl
  | c :: r, h => by
    have ih := canLay_cods r fun x hx => h x (List.mem_cons_of_mem _ hx)
    have hc := h c (List.mem_cons_self ..)
    obtain ⟨k, n⟩ := c
    dsimp only at hc
    rcases hc with rfl | rfl
    · simp only [List.map_cons, PyData.canLayAll0, ih, codD, PyData.canLay0]
      decide +kernel
    · simp only [List.map_cons, PyData.canLayAll0, ih, codD, PyData.canLay0]
      decide +kernel
theorem codsF_kind (f : Nat → List Int) (n m : Nat) : ∀ c ∈ codsF f n m, c.1 = "raw" ∨ c.1 = "rice" := fun c hc => by
  unfold codsF at hc
  obtain ⟨k, _, rfl⟩ := List.mem_map.mp hc
  unfold entF
  split
  · exact .inl rfl
  · exact .inr rfl
theorem shaped_bc {ns : List Int} {g hi M : Nat} {x : Qd} (h : BestQ ns g hi M x) : SeqAt.shaped (bcD x) = true := by
  obtain ⟨m, p, -, rfl, -⟩ := h
  have h1 := canLay_cods _ (codsF_kind (chk ns g p) (2 ^ p) m)
  have h2 := depth_cods (codsF (chk ns g p) (2 ^ p) m)
  unfold SeqAt.shaped bcD qdF
  dsimp only
  rw [Bool.and_eq_true, decide_eq_true_iff]
  refine ⟨by simp only [PyData.canLay0, PyData.canLayAll0, h1, Bool.and_self], ?_⟩
  simp only [PyData.depth, PyData.depthAll]
  omega
theorem q_asgKN {t tk : TA} {vs zs : List V} {n m i : Nat} {sp : Sp} {gV : List V → List V → List V} {E : XK} {tz : TS} {D : Ends} {σ : L2.St} {H : Hp} (h : EvA t σ H vs) (hz : EvA tk σ H zs) (l1 : vs.length = n) (l2 : zs.length = m) (k : ∀ H1, Ex H H1 → sp (gV vs zs) H1 (fun x H2 => tz D (σ.set i (some x)) H2) E) : tSeq (tAsg (tCallN n m sp gV E t tk) (gName i)) tz D σ H := h H (Ex.refl _) _ fun H1 e1 => hz H1 e1 _ fun H2 e2 => ⟨l1, l2, k H2 (e1.trans e2)⟩
theorem ed_lcod {σ : L2.St} {H : Hp} {t1 t2 t3 t4 : TE} {E : XK} {a : Addr} {ns : List Int} {g hi : Nat} {wd : Bool} {x : Qd} (h1 : Ev t1 σ H (.ref a)) (hS : SqL K H a (ns.map V.int)) (h2 : Ev t2 σ H (.int (g : Int))) (h3 : Ev t3 σ H (.int (hi : Int))) (h4 : Ev t4 σ H (.bl wd)) (hn : 0 < ns.length) (hs : ns.length + g ≤ 1000) (hh : hi ≤ 15) (hb : ∀ v ∈ ns, -(2 ^ 31) < v ∧ v < 2 ^ 31) (hx : BestQ ns g hi (if wd = true then 2 else 1) x) : EvD K (tCall (sp_lcod K) [] E (tCons t1 (tCons t2 (tCons t3 (tCons t4 tNil))))) σ H (bcD x) := fun H1 e Q q =>
  (ea_cons h1 (ea_cons h2 (ea_cons h3 (ea_cons h4 ea_nil)))) H1 e _ fun H2 e2 => ⟨a, ns, g, hi, wd, rfl, ex_l (e.trans e2) hS, hn, hs, hh, hb, fun v H3 y e3 hy hv => q v H3 (e2.trans e3) (by rw [hx.uniq hy]; exact hv)⟩
def sp_law (K : PySem.W.Frag) : Sp := fun vs H Q _ => ∃ (a : Addr) (ns : List Int), vs = [.ref a] ∧ SqL K H a (ns.map V.int) ∧ ns.length ≤ 63 ∧ ∀ H', Q (.bl true) H'
theorem ok_law (T : TX K mg) : FnOk P w K mg base CX0 5 T.a_law T.d_law ["script"] (sp_law K) := by
  refine T.F_law.ok sc_law (fun vs H Q E h => by obtain ⟨a, ns, rfl, _⟩ := h; rfl) (fun cdv A outer s H vs Q E hr h => ?_)
  obtain ⟨a, ns, rfl, hS, hlen, k⟩ := h
  refine ⟨_, (pss_cons (ps_set (i := 1) sc_law.nd rfl (Or.inl rfl) (pe_call (ok_law_cell T) (hr.mono (by decide)) (by rfl) T.g_law_cell T.F_law_cell.kp T.b_law_cell .nil pass0 (pa_cons (pv 0) (pa_cons pe_int pa_nil))))
      (pss_cons (ps_set (i := 2) sc_law.nd rfl (Or.inl rfl) (pe_op op_add pe_int (pe_op op_mod (pe_callTy call_int1 (by rfl) T.m_int PyProof.Rows.boot_int (pa_cons (pv 1) pa_nil)) pe_int)))
      (pss_cut (ps_if (pt_cmpR op_eq (pe_op op_mod (pe_op op_fdivW (pe_callTy call_int1 (by rfl) T.m_int PyProof.Rows.boot_int (pa_cons (pv 1) pa_nil)) pe_int) pe_int) pe_int (nomark _)) (pss_one (ps_set (i := 2) sc_law.nd rfl (Or.inl rfl) (pe_ix (r := rIxL K) ix_list (pe_lst (pa_cons pe_int (pa_cons pe_int (pa_cons pe_int (pa_cons pe_int pa_nil))))) (pe_op op_mod (pv 2) pe_int) (fun _ _ => rfl)))) pss_nil)
      (pss_cons (ps_set (i := 3) sc_law.nd rfl (Or.inl rfl) (pe_op op_mod (pe_callTy call_int1 (by rfl) T.m_int PyProof.Rows.boot_int (pa_cons (pe_call (ok_law_cell T) (hr.mono (by decide)) (by rfl) T.g_law_cell T.F_law_cell.kp T.b_law_cell .nil pass0 (pa_cons (pv 0) (pa_cons pe_int pa_nil))) pa_nil)) (pv 2)))
      (pss_cons (ps_set (i := 4) sc_law.nd rfl (Or.inl rfl) (pe_call (ok_law_residuals T) (hr.mono (by decide)) (by rfl) T.g_law_residuals T.F_law_residuals.kp T.b_law_residuals .nil pass0 (pa_cons (pe_call (ok_law_cell T) (hr.mono (by decide)) (by rfl) T.g_law_cell T.F_law_cell.kp T.b_law_cell .nil pass0 (pa_cons (pv 0) (pa_cons pe_int pa_nil))) (pa_cons (pe_op op_sub (pv 2) (pv 3)) (pa_cons (pe_op op_mod (pe_op op_fdivW (pe_callTy call_int1 (by rfl) T.m_int PyProof.Rows.boot_int (pa_cons (pv 1) pa_nil)) pe_int) pe_int) pa_nil)))))
      (pss_cons (ps_set (i := 5) sc_law.nd rfl (Or.inl rfl) (pe_op op_mod (pe_callTy call_int1 (by rfl) T.m_int PyProof.Rows.boot_int (pa_cons (pe_call (ok_law_cell T) (hr.mono (by decide)) (by rfl) T.g_law_cell T.F_law_cell.kp T.b_law_cell .nil pass0 (pa_cons (pv 0) (pa_cons pe_int pa_nil))) pa_nil)) pe_int))
      (pss_cut (ps_if (pt_cmpR op_eq (pe_op op_mod (pe_op op_fdivW (pe_callTy call_int1 (by rfl) T.m_int PyProof.Rows.boot_int (pa_cons (pe_call (ok_law_cell T) (hr.mono (by decide)) (by rfl) T.g_law_cell T.F_law_cell.kp T.b_law_cell .nil pass0 (pa_cons (pv 0) (pa_cons pe_int pa_nil))) pa_nil)) pe_int) pe_int) pe_int (nomark _)) (pss_one (ps_set (i := 5) sc_law.nd rfl (Or.inl rfl) pe_int)) pss_nil)
      (pss_cons (ps_set (i := 6) sc_law.nd rfl (Or.inl rfl) (pe_cmpR op_eq (pe_op op_mod (pe_callTy call_int1 (by rfl) T.m_int PyProof.Rows.boot_int (pa_cons (pe_call (ok_law_cell T) (hr.mono (by decide)) (by rfl) T.g_law_cell T.F_law_cell.kp T.b_law_cell .nil pass0 (pa_cons (pv 0) (pa_cons pe_int pa_nil))) pa_nil)) pe_int) pe_int (nomark _)))
      (pss_cons (ps_set (i := 7) sc_law.nd rfl (Or.inl rfl) (pe_callTy (r := rListS K) call_list_of (by rfl) T.m_list PyProof.Rows.boot_list (pa_cons (pv 4) pa_nil)))
      (pss_cons (ps_set (i := 8) sc_law.nd rfl (Or.inl rfl) (pe_callN (ok_best_coding T) (hr.mono (by decide)) (by rfl) T.g_best_coding T.F_best_coding.kp T.k2_highest_wide_best_coding pass0 (pa_cons (pv 7) (pa_cons (pv 3) pa_nil)) (pk_cons (pv 5) (pk_cons (pv 6) pk_nil))))
      (pss_cons (ps_if (PW.pt (pw_or (pt_not (pt_val (pe_callB (r := rIsi K) call_isi (by rfl) T.m_isinstance PyProof.Rows.boot_isinstance (pa_cons (pv 8) (pa_cons (pe_bltn (v := V.ty "tuple") (by rfl) T.m_tuple PyProof.Rows.boot_tuple rfl) pa_nil))))) (pw_or (pt_cmpR op_ne (pe_callB (r := rLenS K) call_len_seq (by rfl) T.m_len PySem.boot_len (pa_cons (pv 8) pa_nil)) pe_int (nomark _)) (pw_or1 (pt_cmpR (op_neD (hu64 hr)) (pv 7) (pv 4) (nomark _)))))) (pss_one (ps_ret pe_bl)) pss_nil)
      (pss_cons (ps_set (i := 9) sc_law.nd rfl (Or.inl rfl) (pe_ix (r := rIxT K) ix_tup (pv 8) pe_int (fun _ _ => rfl)))
      (pss_cons (ps_if (PW.pt (pw_or (pt_not (pt_val (pe_callB (r := rIsi K) call_isi (by rfl) T.m_isinstance PyProof.Rows.boot_isinstance (pa_cons (pv 9) (pa_cons (pe_bltn (v := V.ty "tuple") (by rfl) T.m_tuple PyProof.Rows.boot_tuple rfl) pa_nil))))) (pw_or (pt_cmpR op_ne (pe_callB (r := rLenS K) call_len_seq (by rfl) T.m_len PySem.boot_len (pa_cons (pv 9) pa_nil)) pe_int (nomark _)) (pw_or1 (pt_not (pt_val (pe_call (ok_law_entries T) (hr.mono (by decide)) (by rfl) T.g_law_entries T.F_law_entries.kp T.b_law_entries .nil pass0 (pa_cons (pe_ix (r := rIxT K) ix_tup (pv 9) pe_int (fun _ _ => rfl)) pa_nil)))))))) (pss_one (ps_ret pe_bl)) pss_nil)
      (pss_cons (ps_if (PW.pt (pw_or (pt_not (pt_val (pe_call (ok_law_integer T) (hr.mono (by decide)) (by rfl) T.g_law_integer T.F_law_integer.kp T.b_law_integer .nil pass0 (pa_cons (pe_ix (r := rIxT K) ix_tup (pv 9) pe_int (fun _ _ => rfl)) pa_nil)))) (pw_or (pt_not (pt_val (pe_call (ok_law_integer T) (hr.mono (by decide)) (by rfl) T.g_law_integer T.F_law_integer.kp T.b_law_integer .nil pass0 (pa_cons (pe_ix (r := rIxT K) ix_tup (pv 9) pe_int (fun _ _ => rfl)) pa_nil)))) (pw_or1 (pt_not (pt_val (pe_call (ok_law_integer T) (hr.mono (by decide)) (by rfl) T.g_law_integer T.F_law_integer.kp T.b_law_integer .nil pass0 (pa_cons (pe_ix (r := rIxT K) ix_tup (pv 8) pe_int (fun _ _ => rfl)) pa_nil)))))))) (pss_one (ps_ret pe_bl)) pss_nil)
      (pss_one (ps_ret (pe_cmpR (op_eqD (hu64 hr)) (pv 8) (pe_call (ok_law_coding T) (hr.mono (by decide)) (by rfl) T.g_law_coding T.F_law_coding.kp T.b_law_coding .nil pass0 (pa_cons (pv 4) (pa_cons (pv 3) (pa_cons (pv 5) (pa_cons (pv 6) pa_nil))))) (nomark _)))))))))))))))))), ?_⟩
  have cell : ∀ (H' : Hp) (σ : L2.St) (E : XK) (i : Int), σ[0]? = some (some (.ref a)) → Ex H H' → 0 ≤ i → Ev (tCall (sp_cell K) [] E (tCons (tVar 0) (tCons (tC (.int i)) tNil))) σ H' (.int (cellI ns i)) := fun H' σ E i hσ e hi => ev_cell (ev_var hσ) (ex_l e hS) ev_c hi
  refine q_asg (cell H _ _ 0 rfl (Ex.refl _) (by decide)) fun H1 e1 => ?_
  generalize cellI ns 0 = c0
  refine q_asg (v := .int (1 + c0 % 24)) (ev_I0 (g := fun i j => .int (i + j)) ev_c (ev_I (ev_int1 (ev_var rfl)) ev_c (by decide))) fun H2 e2 => ?_
  refine q_cut (M := fun σ' H' => ∃ sz : Nat, σ' = [some (.ref a), some (.int c0), some (.int (sz : Int)), none, none, none, none, none, none, none] ∧ Ex H H' ∧ 1 ≤ sz ∧ sz ≤ 128) ?_ ?_
  · refine s_when (et_test (ev_eq (ev_I (ev_I (ev_int1 (ev_var rfl)) ev_c ⟨by decide, by decide⟩) ev_c (by decide)) ev_c rfl)) (fun _ H3 e3 => ?_) (fun _ H3 e3 => ?_)
    · obtain ⟨b, hb, hb1⟩ : ∃ b : Nat, atI [V.int 32, V.int 48, V.int 64, V.int 128] ((1 + c0 % 24) % 4) = some (V.int (b : Int)) ∧ 1 ≤ b ∧ b ≤ 128 := by
        have h4 : (1 + c0 % 24) % 4 = 0 ∨ (1 + c0 % 24) % 4 = 1 ∨ (1 + c0 % 24) % 4 = 2 ∨ (1 + c0 % 24) % 4 = 3 := by omega
        rcases h4 with e | e | e | e <;> rw [e]
        · exact ⟨32, rfl, by decide⟩
        · exact ⟨48, rfl, by decide⟩
        · exact ⟨64, rfl, by decide⟩
        · exact ⟨128, rfl, by decide⟩
      exact s_asg (v := .int (b : Int)) (ev_ixS (i := 0) (n := (1 + c0 % 24) % 4) (EvR.s (EvL.r (el_lst (ea_cons ev_c (ea_cons ev_c (ea_cons ev_c (ea_cons ev_c ea_nil)))) (by decide)))) (ev_I (ev_var rfl) ev_c (by decide)) hb) fun H4 e4 => ⟨b, rfl, e1.trans (e2.trans (e3.trans e4)), hb1⟩
    · obtain ⟨b, hb⟩ : ∃ b : Nat, 1 + c0 % 24 = (b : Int) := ⟨(1 + c0 % 24).toNat, by omega⟩
      exact ⟨b, by rw [hb]; rfl, e1.trans (e2.trans e3), by omega, by omega⟩
  clear e1 e2
  rintro σ' H1 ⟨sz, rfl, e1, hz1, hz2⟩
  obtain ⟨dg, hdg⟩ : ∃ dg : Nat, cellI ns 2 % (sz : Int) = (dg : Int) := ⟨(cellI ns 2 % (sz : Int)).toNat, by have := Int.emod_nonneg (cellI ns 2) (show (sz : Int) ≠ 0 by omega); omega⟩
  have hdg1 : dg < sz := by have := Int.emod_lt_of_pos (cellI ns 2) (show (0 : Int) < (sz : Int) by omega); omega
  refine q_asg (v := .int (dg : Int)) (Ev.is (ev_I (ev_int1 (cell H1 _ _ 2 rfl e1 (by decide))) (ev_var rfl) (by show (0 : Int) < _; omega)) (congrArg V.int hdg)) fun H2 e2 => ?_
  refine q_asgC (vs := [.int (cellI ns 1), .int ((sz - dg : Nat) : Int), .int (c0 / 24 % 9)]) (ea_cons (cell H2 _ _ 1 rfl (e1.trans e2) (by decide)) (ea_cons (Ev.is (ev_I0 (g := fun i j => .int (i - j)) (ev_var rfl) (ev_var rfl)) (congrArg V.int (by omega))) (ea_cons (ev_I (ev_I (ev_int1 (ev_var rfl)) ev_c ⟨by decide, by decide⟩) ev_c (by decide)) ea_nil))) fun H3 e3 => ⟨cellI ns 1, c0 / 24 % 9, sz - dg, rfl, by omega, by omega, fun ps ms H4 hps e4 g4 hml hmb => ?_⟩
  have e14 := e1.trans (e2.trans (e3.trans e4))
  refine q_asg (v := .int (cellI ns 3 % 8)) (ev_I (ev_int1 (cell H4 _ _ 3 rfl e14 (by decide))) ev_c (by decide)) fun H5 e5 => ?_
  have e15 := e14.trans e5
  have g5 := e5 _ _ g4
  refine q_cut (M := fun σ' H' => ∃ mp : Nat, σ' = [some (.ref a), some (.int c0), some (.int (sz : Int)), some (.int (dg : Int)), some (.ref ps), some (.int (mp : Int)), none, none, none, none] ∧ Ex H5 H' ∧ mp ≤ 15) ?_ ?_
  · refine s_when (et_test (ev_eq (ev_I (ev_I (ev_int1 (cell H5 _ _ 3 rfl e15 (by decide))) ev_c ⟨by decide, by decide⟩) ev_c (by decide)) ev_c rfl)) (fun _ H6 e6 => ?_) (fun _ H6 e6 => ?_)
    · exact s_asg (v := .int 15) ev_c fun H7 e7 => ⟨15, rfl, e6.trans e7, by decide⟩
    · obtain ⟨b, hb⟩ : ∃ b : Nat, cellI ns 3 % 8 = (b : Int) := ⟨(cellI ns 3 % 8).toNat, by omega⟩
      exact ⟨b, by rw [hb]; rfl, e6, by omega⟩
  clear e2 e3 e4 e5 e14 e1
  rintro σ' H6 ⟨mp, rfl, e6, hmp⟩
  have e16 := e15.trans e6
  have g6 := e6 _ _ g5
  obtain ⟨wd, hwd⟩ : ∃ wd, decide (V.int (cellI ns 4 % 2) = V.int 1) = wd := ⟨_, rfl⟩
  refine q_asg (v := .bl wd) (Ev.is (ev_eq (ev_I (ev_int1 (cell H6 _ _ 4 rfl e16 (by decide))) ev_c (by decide)) ev_c rfl) (congrArg V.bl hwd)) fun H7 e7 => ?_
  refine q_asgL (xs := ms.map V.int) (el_of (K := K) (Ev.s (ev_var rfl) (sq_of (e7 _ _ g6)))) fun pg H8 hpg e8 g8 => ?_
  have h0 : 0 < ms.length := by omega
  refine q_asgKN (vs := [.ref pg, .int (dg : Int)]) (zs := [.int (mp : Int), .bl wd]) (ea_cons (ev_var rfl) (ea_cons (ev_var rfl) ea_nil)) (ea_cons (ev_var rfl) (ea_cons (ev_var rfl) ea_nil)) rfl rfl fun H9 e9 => ⟨pg, ms, dg, mp, wd, rfl, sq_of (e9 _ _ g8), h0, by omega, hmp, fun v H10 x e10 hx hv => ?_⟩
  have hsh := shaped_bc hx
  have hvd := hv
  obtain ⟨t, t1, tc, rs, rfl, gt, gt1, gtc, hC⟩ := hv
  have e6_10 := e7.trans (e8.trans (e9.trans e10))
  have g10 := e6_10 _ _ g6
  have gp10 := (e9.trans e10) _ _ g8
  refine q_when (b := false) (et_is (et_or (a := false) (b := false) (et_is (et_not (et_B (ev_isiT (K := K) (ev_var rfl) gt))) rfl) fun _ => et_or (a := false) (b := false) (et_is (et_test (ev_ne (ev_lenT (K := K) (ev_var rfl) gt) ev_c rfl)) rfl) fun _ => et_is (et_test (ev_neI (ns := ms) (ms := ms) (Ev.s (ev_var rfl) (sq_of gp10)) (Ev.s (ev_var rfl) (sq_of g10)))) (by simp)) rfl) (fun hb => by cases hb) fun _ H11 e11 => ?_
  refine q_asg (v := .ref t1) (ev_atT (n := 0) (ev_var rfl) (st_of (e11 _ _ gt)) ev_c (at_of (j := 0) rfl rfl)) fun H12 e12 => ?_
  have e1112 := e11.trans e12
  have gt' := e1112 _ _ gt
  have gt1' := e1112 _ _ gt1
  have gtc' := e1112 _ _ gtc
  have hC' := hC.tx (TxH.ex e1112)
  refine q_when (b := false) (et_is (et_or (a := false) (b := false) (et_is (et_not (et_B (ev_isiT (K := K) (ev_var rfl) gt1'))) rfl) fun _ => et_or (a := false) (b := false) (et_is (et_test (ev_ne (ev_lenT (K := K) (ev_var rfl) gt1') ev_c rfl)) rfl) fun _ => et_is (et_not (et_B (ev_call (z := .bl true) (vs := [.ref tc]) (ea_cons (ev_atT (n := 2) (ev_var rfl) (st_of gt1') ev_c (at_of (j := 2) rfl rfl)) ea_nil) fun G eG Q' q' _ => ⟨tc, rs, x.cs, rfl, eG _ _ gtc', hC'.tx (TxH.ex eG), q'⟩))) rfl) rfl) (fun hb => by cases hb) fun _ H13 e13 => ?_
  have gt1'' := e13 _ _ gt1'
  refine q_when (b := false) (et_is (et_or (a := false) (b := false) (et_is (et_not (et_B (ev_isint (n := (x.m : Int)) (ev_atT (n := 0) (ev_var rfl) (st_of gt1'') ev_c (at_of (j := 0) rfl rfl))))) rfl) fun _ => et_or (a := false) (b := false) (et_is (et_not (et_B (ev_isint (n := (x.p : Int)) (ev_atT (n := 1) (ev_var rfl) (st_of gt1'') ev_c (at_of (j := 1) rfl rfl))))) rfl) fun _ => et_is (et_not (et_B (ev_isint (n := x.b) (ev_atT (n := 1) (ev_var rfl) (st_of (e13 _ _ gt')) ev_c (at_of (j := 1) rfl rfl))))) rfl) rfl) (fun hb => by cases hb) fun _ H14 e14 => ?_
  have e10_14 := e1112.trans (e13.trans e14)
  exact s_ret (v := .bl true) (ev_eqDD (EvD.of (ev_var rfl) (dp_ex e10_14 _ _ hvd.d)) (ed_lcod (ev_var rfl) (sq_of (e10_14 _ _ g10)) (ev_var rfl) (ev_var rfl) (ev_var rfl) h0 (by omega) hmp hmb hx) hsh) fun H15 e15 => k H15

end
set_option maxHeartbeats 0 in
theorem all_mk {l : PySem.W.OpenLaw} {w : World} {K : PySem.W.Frag} {h : Heap} {mg : Str → Option Value} {fa : Addr} {f1 f2 f3 f4 f5 f6 f7 f8 f9 f10 f11 f12 f13 f14 f15 f16 f17 f18 f19 f20 f21 f22 A_PARAMETERS : Addr} (X : K.In h) (G : h.Ns mainGlobals mg) (hfa : mg "law" = some (.ref fa))
    {od1 an1 : Option Addr} {sl1 : Array (Option Value)} {oc1 dc1 pm1 cd1 ct1 : Value} {kV1 : Value} {od2 an2 : Option Addr} {sl2 : Array (Option Value)} {oc2 dc2 pm2 cd2 ct2 : Value} {kV2 : Value} {od3 an3 : Option Addr} {sl3 : Array (Option Value)} {oc3 dc3 pm3 cd3 ct3 : Value} {kV3 : Value} {od4 an4 : Option Addr} {sl4 : Array (Option Value)} {oc4 dc4 pm4 cd4 ct4 : Value} {kV4 : Value} {od5 an5 : Option Addr} {sl5 : Array (Option Value)} {oc5 dc5 pm5 cd5 ct5 : Value} {kV5 : Value} {od6 an6 : Option Addr} {sl6 : Array (Option Value)} {oc6 dc6 pm6 cd6 ct6 : Value} {kV6 : Value} {od7 an7 : Option Addr} {sl7 : Array (Option Value)} {oc7 dc7 pm7 cd7 ct7 : Value} {kV7 : Value} {od8 an8 : Option Addr} {sl8 : Array (Option Value)} {oc8 dc8 pm8 cd8 ct8 : Value} {kV8 : Value} {od9 an9 : Option Addr} {sl9 : Array (Option Value)} {oc9 dc9 pm9 cd9 ct9 : Value} {kV9 : Value} {od10 an10 : Option Addr} {sl10 : Array (Option Value)} {oc10 dc10 pm10 cd10 ct10 : Value} {kV10 : Value} {od11 an11 : Option Addr} {sl11 : Array (Option Value)} {oc11 dc11 pm11 cd11 ct11 : Value} {kV11 : Value} {od12 an12 : Option Addr} {sl12 : Array (Option Value)} {oc12 dc12 pm12 cd12 ct12 : Value} {kV12 : Value} {od13 an13 : Option Addr} {sl13 : Array (Option Value)} {oc13 dc13 pm13 cd13 ct13 : Value} {kV13 : Value} {od14 an14 : Option Addr} {sl14 : Array (Option Value)} {oc14 dc14 pm14 cd14 ct14 : Value} {kV14 : Value} {od15 an15 : Option Addr} {sl15 : Array (Option Value)} {oc15 dc15 pm15 cd15 ct15 : Value} {kV15 : Value} {od16 an16 : Option Addr} {sl16 : Array (Option Value)} {oc16 dc16 pm16 cd16 ct16 : Value} {kV16 : Value} {od17 an17 : Option Addr} {sl17 : Array (Option Value)} {oc17 dc17 pm17 cd17 ct17 : Value} {kV17 : Value} {od18 an18 : Option Addr} {sl18 : Array (Option Value)} {oc18 dc18 pm18 cd18 ct18 : Value} {kV18 : Value} {od19 an19 : Option Addr} {sl19 : Array (Option Value)} {oc19 dc19 pm19 cd19 ct19 : Value} {kV19 : Value} {od20 an20 : Option Addr} {sl20 : Array (Option Value)} {oc20 dc20 pm20 cd20 ct20 : Value} {kV20 : Value} {od21 an21 : Option Addr} {sl21 : Array (Option Value)} {oc21 dc21 pm21 cd21 ct21 : Value} {kV21 : Value} {od22 an22 : Option Addr} {sl22 : Array (Option Value)} {oc22 dc22 pm22 cd22 ct22 : Value} {kV22 : Value} {wPARAMETERS_0 wPARAMETERS_1 : Value} {dxPARAMETERS : Option Addr} {nxPARAMETERS : Nat} {sxPARAMETERS : Array (Option Value)} {u_MOST_RAW_WIDTH : Value} {u_HEAD_BITS : Value}
    (a1 : PySem.W.nsIn K mainGlobals "fold" = some (some (.ref f1)))
    (l1 : K.lookup f1 = some ⟨oc1, od1, .func (PySem.W.fnOf "fold" "fold" (defArgs s_fold) (defBody s_fold) (defScope s_fold) .none kV1 dc1 pm1 an1 cd1 ct1), sl1⟩) (c1 : PySem.W.codeIn K cd1 "fold" = true) (k1 : PySem.W.keepIn K (.ref f1) = true)
    (a2 : PySem.W.nsIn K mainGlobals "legal_partition_order" = some (some (.ref f2)))
    (l2 : K.lookup f2 = some ⟨oc2, od2, .func (PySem.W.fnOf "legal_partition_order" "legal_partition_order" (defArgs s_legal_partition_order) (defBody s_legal_partition_order) (defScope s_legal_partition_order) .none kV2 dc2 pm2 an2 cd2 ct2), sl2⟩) (c2 : PySem.W.codeIn K cd2 "legal_partition_order" = true) (k2 : PySem.W.keepIn K (.ref f2) = true)
    (a3 : PySem.W.nsIn K mainGlobals "partition_sizes" = some (some (.ref f3)))
    (l3 : K.lookup f3 = some ⟨oc3, od3, .func (PySem.W.fnOf "partition_sizes" "partition_sizes" (defArgs s_partition_sizes) (defBody s_partition_sizes) (defScope s_partition_sizes) .none kV3 dc3 pm3 an3 cd3 ct3), sl3⟩) (c3 : PySem.W.codeIn K cd3 "partition_sizes" = true) (k3 : PySem.W.keepIn K (.ref f3) = true)
    (a4 : PySem.W.nsIn K mainGlobals "best_coding" = some (some (.ref f4)))
    (l4 : K.lookup f4 = some ⟨oc4, od4, .func (PySem.W.fnOf "best_coding" "best_coding" (defArgs s_best_coding) (defBody s_best_coding) (defScope s_best_coding) .none kV4 dc4 pm4 an4 cd4 ct4), sl4⟩) (c4 : PySem.W.codeIn K cd4 "best_coding" = true) (k4 : PySem.W.keepIn K (.ref f4) = true)
    (a5 : PySem.W.nsIn K mainGlobals "_width" = some (some (.ref f5)))
    (l5 : K.lookup f5 = some ⟨oc5, od5, .func (PySem.W.fnOf "_width" "_width" (defArgs s_width) (defBody s_width) (defScope s_width) .none kV5 dc5 pm5 an5 cd5 ct5), sl5⟩) (c5 : PySem.W.codeIn K cd5 "_width" = true) (k5 : PySem.W.keepIn K (.ref f5) = true)
    (a6 : PySem.W.nsIn K mainGlobals "_measured" = some (some (.ref f6)))
    (l6 : K.lookup f6 = some ⟨oc6, od6, .func (PySem.W.fnOf "_measured" "_measured" (defArgs s_measured) (defBody s_measured) (defScope s_measured) .none kV6 dc6 pm6 an6 cd6 ct6), sl6⟩) (c6 : PySem.W.codeIn K cd6 "_measured" = true) (k6 : PySem.W.keepIn K (.ref f6) = true)
    (a7 : PySem.W.nsIn K mainGlobals "_measured_parts" = some (some (.ref f7)))
    (l7 : K.lookup f7 = some ⟨oc7, od7, .func (PySem.W.fnOf "_measured_parts" "_measured_parts" (defArgs s_measured_parts) (defBody s_measured_parts) (defScope s_measured_parts) .none kV7 dc7 pm7 an7 cd7 ct7), sl7⟩) (c7 : PySem.W.codeIn K cd7 "_measured_parts" = true) (k7 : PySem.W.keepIn K (.ref f7) = true)
    (a8 : PySem.W.nsIn K mainGlobals "_joined_in_pairs" = some (some (.ref f8)))
    (l8 : K.lookup f8 = some ⟨oc8, od8, .func (PySem.W.fnOf "_joined_in_pairs" "_joined_in_pairs" (defArgs s_joined_in_pairs) (defBody s_joined_in_pairs) (defScope s_joined_in_pairs) .none kV8 dc8 pm8 an8 cd8 ct8), sl8⟩) (c8 : PySem.W.codeIn K cd8 "_joined_in_pairs" = true) (k8 : PySem.W.keepIn K (.ref f8) = true)
    (a9 : PySem.W.nsIn K mainGlobals "_joined" = some (some (.ref f9)))
    (l9 : K.lookup f9 = some ⟨oc9, od9, .func (PySem.W.fnOf "_joined" "_joined" (defArgs s_joined) (defBody s_joined) (defScope s_joined) .none kV9 dc9 pm9 an9 cd9 ct9), sl9⟩) (c9 : PySem.W.codeIn K cd9 "_joined" = true) (k9 : PySem.W.keepIn K (.ref f9) = true)
    (a10 : PySem.W.nsIn K mainGlobals "_entry" = some (some (.ref f10)))
    (l10 : K.lookup f10 = some ⟨oc10, od10, .func (PySem.W.fnOf "_entry" "_entry" (defArgs s_entry) (defBody s_entry) (defScope s_entry) .none kV10 dc10 pm10 an10 cd10 ct10), sl10⟩) (c10 : PySem.W.codeIn K cd10 "_entry" = true) (k10 : PySem.W.keepIn K (.ref f10) = true)
    (a11 : PySem.W.nsIn K mainGlobals "_entries" = some (some (.ref f11)))
    (l11 : K.lookup f11 = some ⟨oc11, od11, .func (PySem.W.fnOf "_entries" "_entries" (defArgs s_entries) (defBody s_entries) (defScope s_entries) .none kV11 dc11 pm11 an11 cd11 ct11), sl11⟩) (c11 : PySem.W.codeIn K cd11 "_entries" = true) (k11 : PySem.W.keepIn K (.ref f11) = true)
    (a12 : PySem.W.nsIn K mainGlobals "_law_cell" = some (some (.ref f12)))
    (l12 : K.lookup f12 = some ⟨oc12, od12, .func (PySem.W.fnOf "_law_cell" "_law_cell" (defArgs s_law_cell) (defBody s_law_cell) (defScope s_law_cell) .none kV12 dc12 pm12 an12 cd12 ct12), sl12⟩) (c12 : PySem.W.codeIn K cd12 "_law_cell" = true) (k12 : PySem.W.keepIn K (.ref f12) = true)
    (a13 : PySem.W.nsIn K mainGlobals "_law_integer" = some (some (.ref f13)))
    (l13 : K.lookup f13 = some ⟨oc13, od13, .func (PySem.W.fnOf "_law_integer" "_law_integer" (defArgs s_law_integer) (defBody s_law_integer) (defScope s_law_integer) .none kV13 dc13 pm13 an13 cd13 ct13), sl13⟩) (c13 : PySem.W.codeIn K cd13 "_law_integer" = true) (k13 : PySem.W.keepIn K (.ref f13) = true)
    (a14 : PySem.W.nsIn K mainGlobals "_law_row" = some (some (.ref f14)))
    (l14 : K.lookup f14 = some ⟨oc14, od14, .func (PySem.W.fnOf "_law_row" "_law_row" (defArgs s_law_row) (defBody s_law_row) (defScope s_law_row) .none kV14 dc14 pm14 an14 cd14 ct14), sl14⟩) (c14 : PySem.W.codeIn K cd14 "_law_row" = true) (k14 : PySem.W.keepIn K (.ref f14) = true)
    (a15 : PySem.W.nsIn K mainGlobals "_law_fold" = some (some (.ref f15)))
    (l15 : K.lookup f15 = some ⟨oc15, od15, .func (PySem.W.fnOf "_law_fold" "_law_fold" (defArgs s_law_fold) (defBody s_law_fold) (defScope s_law_fold) .none kV15 dc15 pm15 an15 cd15 ct15), sl15⟩) (c15 : PySem.W.codeIn K cd15 "_law_fold" = true) (k15 : PySem.W.keepIn K (.ref f15) = true)
    (a16 : PySem.W.nsIn K mainGlobals "_law_rice" = some (some (.ref f16)))
    (l16 : K.lookup f16 = some ⟨oc16, od16, .func (PySem.W.fnOf "_law_rice" "_law_rice" (defArgs s_law_rice) (defBody s_law_rice) (defScope s_law_rice) .none kV16 dc16 pm16 an16 cd16 ct16), sl16⟩) (c16 : PySem.W.codeIn K cd16 "_law_rice" = true) (k16 : PySem.W.keepIn K (.ref f16) = true)
    (a17 : PySem.W.nsIn K mainGlobals "_law_width" = some (some (.ref f17)))
    (l17 : K.lookup f17 = some ⟨oc17, od17, .func (PySem.W.fnOf "_law_width" "_law_width" (defArgs s_law_width) (defBody s_law_width) (defScope s_law_width) .none kV17 dc17 pm17 an17 cd17 ct17), sl17⟩) (c17 : PySem.W.codeIn K cd17 "_law_width" = true) (k17 : PySem.W.keepIn K (.ref f17) = true)
    (a18 : PySem.W.nsIn K mainGlobals "_law_entry" = some (some (.ref f18)))
    (l18 : K.lookup f18 = some ⟨oc18, od18, .func (PySem.W.fnOf "_law_entry" "_law_entry" (defArgs s_law_entry) (defBody s_law_entry) (defScope s_law_entry) .none kV18 dc18 pm18 an18 cd18 ct18), sl18⟩) (c18 : PySem.W.codeIn K cd18 "_law_entry" = true) (k18 : PySem.W.keepIn K (.ref f18) = true)
    (a19 : PySem.W.nsIn K mainGlobals "_law_coding" = some (some (.ref f19)))
    (l19 : K.lookup f19 = some ⟨oc19, od19, .func (PySem.W.fnOf "_law_coding" "_law_coding" (defArgs s_law_coding) (defBody s_law_coding) (defScope s_law_coding) .none kV19 dc19 pm19 an19 cd19 ct19), sl19⟩) (c19 : PySem.W.codeIn K cd19 "_law_coding" = true) (k19 : PySem.W.keepIn K (.ref f19) = true)
    (a20 : PySem.W.nsIn K mainGlobals "_law_residuals" = some (some (.ref f20)))
    (l20 : K.lookup f20 = some ⟨oc20, od20, .func (PySem.W.fnOf "_law_residuals" "_law_residuals" (defArgs s_law_residuals) (defBody s_law_residuals) (defScope s_law_residuals) .none kV20 dc20 pm20 an20 cd20 ct20), sl20⟩) (c20 : PySem.W.codeIn K cd20 "_law_residuals" = true) (k20 : PySem.W.keepIn K (.ref f20) = true)
    (a21 : PySem.W.nsIn K mainGlobals "_law_entries" = some (some (.ref f21)))
    (l21 : K.lookup f21 = some ⟨oc21, od21, .func (PySem.W.fnOf "_law_entries" "_law_entries" (defArgs s_law_entries) (defBody s_law_entries) (defScope s_law_entries) .none kV21 dc21 pm21 an21 cd21 ct21), sl21⟩) (c21 : PySem.W.codeIn K cd21 "_law_entries" = true) (k21 : PySem.W.keepIn K (.ref f21) = true)
    (a22 : PySem.W.nsIn K mainGlobals "law" = some (some (.ref f22)))
    (l22 : K.lookup f22 = some ⟨oc22, od22, .func (PySem.W.fnOf "law" "law" (defArgs s_law) (defBody s_law) (defScope s_law) .none kV22 dc22 pm22 an22 cd22 ct22), sl22⟩) (c22 : PySem.W.codeIn K cd22 "law" = true) (k22 : PySem.W.keepIn K (.ref f22) = true)
    (z_len : PySem.W.nsIn K mainGlobals "len" = some none)
    (z_max : PySem.W.nsIn K mainGlobals "max" = some none)
    (z_range : PySem.W.nsIn K mainGlobals "range" = some none)
    (z_min : PySem.W.nsIn K mainGlobals "min" = some none)
    (z_sum : PySem.W.nsIn K mainGlobals "sum" = some none)
    (z_zip : PySem.W.nsIn K mainGlobals "zip" = some none)
    (z_tuple : PySem.W.nsIn K mainGlobals "tuple" = some none)
    (z_isinstance : PySem.W.nsIn K mainGlobals "isinstance" = some none)
    (z_int : PySem.W.nsIn K mainGlobals "int" = some none)
    (z_bool : PySem.W.nsIn K mainGlobals "bool" = some none)
    (z_abs : PySem.W.nsIn K mainGlobals "abs" = some none)
    (z_all : PySem.W.nsIn K mainGlobals "all" = some none)
    (z_str : PySem.W.nsIn K mainGlobals "str" = some none)
    (z_list : PySem.W.nsIn K mainGlobals "list" = some none)
    (q_PARAMETERS : PySem.W.nsIn K mainGlobals "_PARAMETERS" = some (some (.ref A_PARAMETERS))) (l_PARAMETERS : K.lookup A_PARAMETERS = some ⟨.type "tuple", dxPARAMETERS, .seq (List.toArray [wPARAMETERS_0, wPARAMETERS_1]) nxPARAMETERS, sxPARAMETERS⟩)
    (r_PARAMETERS_0 : RelV (.int 15) wPARAMETERS_0)
    (r_PARAMETERS_1 : RelV (.int 31) wPARAMETERS_1)
    (q_MOST_RAW_WIDTH : PySem.W.nsIn K mainGlobals "_MOST_RAW_WIDTH" = some (some u_MOST_RAW_WIDTH)) (r_MOST_RAW_WIDTH : RelV (.int (31)) u_MOST_RAW_WIDTH)
    (q_HEAD_BITS : PySem.W.nsIn K mainGlobals "_HEAD_BITS" = some (some u_HEAD_BITS)) (r_HEAD_BITS : RelV (.int (6)) u_HEAD_BITS)
    : ∃ fd : FuncData, (∀ (s : Shared) (v : Value), BindsTo s fd ⟨[v], []⟩ [("script", v)]) ∧ ∀ base : Heap, K.In base → base.Ns mainGlobals mg → FnOk l.prog w K mg base CX0 5 fa fd ["script"] (sp_law K) := by
  have e := hfa.symm.trans (PySem.W.mg_of X G a22)
  cases e
  have F1 := fun_mk (st := s_fold) l1 c1 k1
  have b1 := F1.binds (ps := ["n"]) fun _ _ _ _ _ _ us hl => match us, hl with | [_], _ => rfl
  have F2 := fun_mk (st := s_legal_partition_order) l2 c2 k2
  have b2 := F2.binds (ps := ["size", "order", "partition_order"]) fun _ _ _ _ _ _ us hl => match us, hl with | [_, _, _], _ => rfl
  have F3 := fun_mk (st := s_partition_sizes) l3 c3 k3
  have b3 := F3.binds (ps := ["size", "order", "partition_order"]) fun _ _ _ _ _ _ us hl => match us, hl with | [_, _, _], _ => rfl
  have F4 : FunD K "best_coding" "best_coding" (defArgs s_best_coding) (defBody s_best_coding) (defScope s_best_coding) [] [] _ _ := ⟨⟨_, _, _, _, _, _, _, _, _, _, rfl, l4, c4, (.inl ⟨rfl, rfl⟩), (.inl rfl)⟩, k4⟩
  have kb2_highest_wide_4 : KBn K _ ["residuals", "order", "highest", "wide"] 2 ["highest", "wide"] (fun us ws => us ++ ws) (fun us ws => us ++ ws) := fund_kb0 F4 2 ["highest", "wide"] (fun h1 h2 => Vals.append h1 h2) fun kV doc pm an cdv ct us ws hu hw => match us, hu, ws, hw with | [_, _], _, [_, _], _ => rfl
  have F5 := fun_mk (st := s_width) l5 c5 k5
  have b5 := F5.binds (ps := ["folded"]) fun _ _ _ _ _ _ us hl => match us, hl with | [_], _ => rfl
  have F6 := fun_mk (st := s_measured) l6 c6 k6
  have b6 := F6.binds (ps := ["residuals"]) fun _ _ _ _ _ _ us hl => match us, hl with | [_], _ => rfl
  have F7 := fun_mk (st := s_measured_parts) l7 c7 k7
  have b7 := F7.binds (ps := ["residuals", "sizes"]) fun _ _ _ _ _ _ us hl => match us, hl with | [_, _], _ => rfl
  have F8 := fun_mk (st := s_joined_in_pairs) l8 c8 k8
  have b8 := F8.binds (ps := ["parts"]) fun _ _ _ _ _ _ us hl => match us, hl with | [_], _ => rfl
  have F9 := fun_mk (st := s_joined) l9 c9 k9
  have b9 := F9.binds (ps := ["part", "other"]) fun _ _ _ _ _ _ us hl => match us, hl with | [_, _], _ => rfl
  have F10 := fun_mk (st := s_entry) l10 c10 k10
  have b10 := F10.binds (ps := ["part", "method"]) fun _ _ _ _ _ _ us hl => match us, hl with | [_, _], _ => rfl
  have F11 := fun_mk (st := s_entries) l11 c11 k11
  have b11 := F11.binds (ps := ["parts", "method"]) fun _ _ _ _ _ _ us hl => match us, hl with | [_, _], _ => rfl
  have F12 := fun_mk (st := s_law_cell) l12 c12 k12
  have b12 := F12.binds (ps := ["script", "k"]) fun _ _ _ _ _ _ us hl => match us, hl with | [_, _], _ => rfl
  have F13 := fun_mk (st := s_law_integer) l13 c13 k13
  have b13 := F13.binds (ps := ["value"]) fun _ _ _ _ _ _ us hl => match us, hl with | [_], _ => rfl
  have F14 := fun_mk (st := s_law_row) l14 c14 k14
  have b14 := F14.binds (ps := ["cell", "count", "bound"]) fun _ _ _ _ _ _ us hl => match us, hl with | [_, _, _], _ => rfl
  have F15 := fun_mk (st := s_law_fold) l15 c15 k15
  have b15 := F15.binds (ps := ["value"]) fun _ _ _ _ _ _ us hl => match us, hl with | [_], _ => rfl
  have F16 := fun_mk (st := s_law_rice) l16 c16 k16
  have b16 := F16.binds (ps := ["values", "k"]) fun _ _ _ _ _ _ us hl => match us, hl with | [_, _], _ => rfl
  have F17 := fun_mk (st := s_law_width) l17 c17 k17
  have b17 := F17.binds (ps := ["values"]) fun _ _ _ _ _ _ us hl => match us, hl with | [_], _ => rfl
  have F18 := fun_mk (st := s_law_entry) l18 c18 k18
  have b18 := F18.binds (ps := ["values", "method"]) fun _ _ _ _ _ _ us hl => match us, hl with | [_, _], _ => rfl
  have F19 := fun_mk (st := s_law_coding) l19 c19 k19
  have b19 := F19.binds (ps := ["values", "degree", "most_parts", "both_methods"]) fun _ _ _ _ _ _ us hl => match us, hl with | [_, _, _, _], _ => rfl
  have F20 := fun_mk (st := s_law_residuals) l20 c20 k20
  have b20 := F20.binds (ps := ["cell", "count", "shape"]) fun _ _ _ _ _ _ us hl => match us, hl with | [_, _, _], _ => rfl
  have F21 := fun_mk (st := s_law_entries) l21 c21 k21
  have b21 := F21.binds (ps := ["entries"]) fun _ _ _ _ _ _ us hl => match us, hl with | [_], _ => rfl
  have F22 := fun_mk (st := s_law) l22 c22 k22
  have b22 := F22.binds (ps := ["script"]) fun _ _ _ _ _ _ us hl => match us, hl with | [_], _ => rfl
  let T : TX K mg := ⟨f1, _, F1, b1, (PySem.W.mg_of X G a1), f2, _, F2, b2, (PySem.W.mg_of X G a2), f3, _, F3, b3, (PySem.W.mg_of X G a3), f4, _, F4, kb2_highest_wide_4, (PySem.W.mg_of X G a4), f5, _, F5, b5, (PySem.W.mg_of X G a5), f6, _, F6, b6, (PySem.W.mg_of X G a6), f7, _, F7, b7, (PySem.W.mg_of X G a7), f8, _, F8, b8, (PySem.W.mg_of X G a8), f9, _, F9, b9, (PySem.W.mg_of X G a9), f10, _, F10, b10, (PySem.W.mg_of X G a10), f11, _, F11, b11, (PySem.W.mg_of X G a11), f12, _, F12, b12, (PySem.W.mg_of X G a12), f13, _, F13, b13, (PySem.W.mg_of X G a13), f14, _, F14, b14, (PySem.W.mg_of X G a14), f15, _, F15, b15, (PySem.W.mg_of X G a15), f16, _, F16, b16, (PySem.W.mg_of X G a16), f17, _, F17, b17, (PySem.W.mg_of X G a17), f18, _, F18, b18, (PySem.W.mg_of X G a18), f19, _, F19, b19, (PySem.W.mg_of X G a19), f20, _, F20, b20, (PySem.W.mg_of X G a20), f21, _, F21, b21, (PySem.W.mg_of X G a21), fa, _, F22, b22, (PySem.W.mg_of X G a22), (PySem.W.mg_none_of X G z_len), (PySem.W.mg_none_of X G z_max), (PySem.W.mg_none_of X G z_range), (PySem.W.mg_none_of X G z_min), (PySem.W.mg_none_of X G z_sum), (PySem.W.mg_none_of X G z_zip), (PySem.W.mg_none_of X G z_tuple), (PySem.W.mg_none_of X G z_isinstance), (PySem.W.mg_none_of X G z_int), (PySem.W.mg_none_of X G z_bool), (PySem.W.mg_none_of X G z_abs), (PySem.W.mg_none_of X G z_all), (PySem.W.mg_none_of X G z_str), (PySem.W.mg_none_of X G z_list), A_PARAMETERS, (PySem.W.mg_of X G q_PARAMETERS), (fun H => .inr ⟨_, _, _, l_PARAMETERS, rfl, rfl, Nat.le_of_ble_eq_true rfl, (.cons r_PARAMETERS_0 (.cons r_PARAMETERS_1 .nil))⟩), u_MOST_RAW_WIDTH, (PySem.W.mg_of X G q_MOST_RAW_WIDTH), r_MOST_RAW_WIDTH, u_HEAD_BITS, (PySem.W.mg_of X G q_HEAD_BITS), r_HEAD_BITS⟩
  exact ⟨_, fun s v => .of_eq rfl, fun base _ _ => ok_law T⟩
end K65
open PySem PySem.W PyProof.Rows
set_option maxRecDepth 100000 in
set_option maxHeartbeats 0 in
theorem PySem.Challenge.cw_monochord_k65_best_coding_of_residuals_holds : PySem.Challenge.rw_monochord_k65_best_coding_of_residuals.Holds := by
  w_on; o_law; k_head; (case hw => w_witness2)
  k_fill
  refine L2.walk_of (l := PySem.Challenge.rw_monochord_k65_best_coding_of_residuals) (n := 63) (k := 5) (x := "script") (CX := fun _ => L2.CX0) (sp := fun w => K65.sp_law _) rfl (by decide) rfl ⟨rfl, by decide, by decide⟩ (fun w h Y => PySem.W.kIn_of Y) ?F (fun _ _ a ns hl _ hS => ⟨a, ns, rfl, hS, hl, fun _ => rfl⟩) (fun _ _ _ _ _ h => h)
  case F =>
    intro w mg fa h KX G hmg
    refine' K65.all_mk KX G hmg ?a1 ?l1 ?c1 ?k1 ?a2 ?l2 ?c2 ?k2 ?a3 ?l3 ?c3 ?k3 ?a4 ?l4 ?c4 ?k4 ?a5 ?l5 ?c5 ?k5 ?a6 ?l6 ?c6 ?k6 ?a7 ?l7 ?c7 ?k7 ?a8 ?l8 ?c8 ?k8 ?a9 ?l9 ?c9 ?k9 ?a10 ?l10 ?c10 ?k10 ?a11 ?l11 ?c11 ?k11 ?a12 ?l12 ?c12 ?k12 ?a13 ?l13 ?c13 ?k13 ?a14 ?l14 ?c14 ?k14 ?a15 ?l15 ?c15 ?k15 ?a16 ?l16 ?c16 ?k16 ?a17 ?l17 ?c17 ?k17 ?a18 ?l18 ?c18 ?k18 ?a19 ?l19 ?c19 ?k19 ?a20 ?l20 ?c20 ?k20 ?a21 ?l21 ?c21 ?k21 ?a22 ?l22 ?c22 ?k22 ?z_len ?z_max ?z_range ?z_min ?z_sum ?z_zip ?z_tuple ?z_isinstance ?z_int ?z_bool ?z_abs ?z_all ?z_str ?z_list ?q_PARAMETERS ?l_PARAMETERS ?r_PARAMETERS_0 ?r_PARAMETERS_1 ?q_MOST_RAW_WIDTH ?r_MOST_RAW_WIDTH ?q_HEAD_BITS ?r_HEAD_BITS
    (case a1 => k_is)
    (case l1 => k_is)
    (case c1 => k_is)
    (case k1 => k_is)
    (case a2 => k_is)
    (case l2 => k_is)
    (case c2 => k_is)
    (case k2 => k_is)
    (case a3 => k_is)
    (case l3 => k_is)
    (case c3 => k_is)
    (case k3 => k_is)
    (case a4 => k_is)
    (case l4 => k_is)
    (case c4 => k_is)
    (case k4 => k_is)
    (case a5 => k_is)
    (case l5 => k_is)
    (case c5 => k_is)
    (case k5 => k_is)
    (case a6 => k_is)
    (case l6 => k_is)
    (case c6 => k_is)
    (case k6 => k_is)
    (case a7 => k_is)
    (case l7 => k_is)
    (case c7 => k_is)
    (case k7 => k_is)
    (case a8 => k_is)
    (case l8 => k_is)
    (case c8 => k_is)
    (case k8 => k_is)
    (case a9 => k_is)
    (case l9 => k_is)
    (case c9 => k_is)
    (case k9 => k_is)
    (case a10 => k_is)
    (case l10 => k_is)
    (case c10 => k_is)
    (case k10 => k_is)
    (case a11 => k_is)
    (case l11 => k_is)
    (case c11 => k_is)
    (case k11 => k_is)
    (case a12 => k_is)
    (case l12 => k_is)
    (case c12 => k_is)
    (case k12 => k_is)
    (case a13 => k_is)
    (case l13 => k_is)
    (case c13 => k_is)
    (case k13 => k_is)
    (case a14 => k_is)
    (case l14 => k_is)
    (case c14 => k_is)
    (case k14 => k_is)
    (case a15 => k_is)
    (case l15 => k_is)
    (case c15 => k_is)
    (case k15 => k_is)
    (case a16 => k_is)
    (case l16 => k_is)
    (case c16 => k_is)
    (case k16 => k_is)
    (case a17 => k_is)
    (case l17 => k_is)
    (case c17 => k_is)
    (case k17 => k_is)
    (case a18 => k_is)
    (case l18 => k_is)
    (case c18 => k_is)
    (case k18 => k_is)
    (case a19 => k_is)
    (case l19 => k_is)
    (case c19 => k_is)
    (case k19 => k_is)
    (case a20 => k_is)
    (case l20 => k_is)
    (case c20 => k_is)
    (case k20 => k_is)
    (case a21 => k_is)
    (case l21 => k_is)
    (case c21 => k_is)
    (case k21 => k_is)
    (case a22 => k_is)
    (case l22 => k_is)
    (case c22 => k_is)
    (case k22 => k_is)
    (case z_len => k_is)
    (case z_max => k_is)
    (case z_range => k_is)
    (case z_min => k_is)
    (case z_sum => k_is)
    (case z_zip => k_is)
    (case z_tuple => k_is)
    (case z_isinstance => k_is)
    (case z_int => k_is)
    (case z_bool => k_is)
    (case z_abs => k_is)
    (case z_all => k_is)
    (case z_str => k_is)
    (case z_list => k_is)
    (case q_PARAMETERS => k_is)
    (case l_PARAMETERS => k_is)
    (case r_PARAMETERS_0 => first | rfl | exact ⟨_, rfl⟩)
    (case r_PARAMETERS_1 => first | rfl | exact ⟨_, rfl⟩)
    (case q_MOST_RAW_WIDTH => k_is)
    (case r_MOST_RAW_WIDTH => first | rfl | exact ⟨_, rfl⟩)
    (case q_HEAD_BITS => k_is)
    (case r_HEAD_BITS => first | rfl | exact ⟨_, rfl⟩)
