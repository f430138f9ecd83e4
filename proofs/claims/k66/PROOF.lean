import PyProof.Rows.All
import Wide.All
import OpenK.AllK
import Wide.FinOn
import HandS.ForMost
import HandS.Steps
import HandS.Evl
import HandS.IsInst
import HandS.Wide
import HandS.WideBits
import HandS.Defaults
import HandS.Style
import HandS.SortKw
import HandS.Zip
import HandS.Walk
import HandS.Text
import KE.GoesMore
import HandS.TupLe
import HandS.TupAny
import KE.DataMinMax
import KE.DatumOrd
import PyProof.P3Eq
import PySem.Challenge.RW_monochord_k66_best_coding_written_and_re
set_option Elab.async false
set_option linter.all false
set_option maxRecDepth 100000
set_option maxHeartbeats 4000000
namespace K66
open PySem PySem.Spec PyProof.Rows L2 Evl
def topS (i : Nat) : Stmt := PySem.Challenge.pw_monochord_k66_best_coding_written_and_re.main.body.getD i (.Pass ⟨0, 0, 0, 0⟩)
abbrev s_fold : Stmt := topS 8
theorem sc_fold : FnScope ["n"] ["n"] (defScope s_fold) := ⟨rfl, rfl, rfl, by decide +kernel, rfl, by decide +kernel, by decide +kernel⟩
abbrev s_unfold : Stmt := topS 9
theorem sc_unfold : FnScope ["u"] ["u"] (defScope s_unfold) := ⟨rfl, rfl, rfl, by decide +kernel, rfl, by decide +kernel, by decide +kernel⟩
abbrev s_write_code : Stmt := topS 10
theorem sc_write_code : FnScope ["writer", "k", "n", "folded"] ["writer", "k", "n"] (defScope s_write_code) := ⟨rfl, rfl, rfl, by decide +kernel, rfl, by decide +kernel, by decide +kernel⟩
abbrev s_read_code : Stmt := topS 11
theorem sc_read_code : FnScope ["reader", "k", "high"] ["reader", "k"] (defScope s_read_code) := ⟨rfl, rfl, rfl, by decide +kernel, rfl, by decide +kernel, by decide +kernel⟩
abbrev s_legal_partition_order : Stmt := topS 14
theorem sc_legal_partition_order : FnScope ["size", "order", "partition_order", "count"] ["size", "order", "partition_order"] (defScope s_legal_partition_order) := ⟨rfl, rfl, rfl, by decide +kernel, rfl, by decide +kernel, by decide +kernel⟩
abbrev s_partition_sizes : Stmt := topS 15
theorem sc_partition_sizes : FnScope ["size", "order", "partition_order", "whole"] ["size", "order", "partition_order"] (defScope s_partition_sizes) := ⟨rfl, rfl, rfl, by decide +kernel, rfl, by decide +kernel, by decide +kernel⟩
abbrev s_write_residuals : Stmt := topS 16
theorem sc_write_residuals : FnScope ["writer", "plan", "residuals", "order", "method", "partition_order", "codings", "coding", "part"] ["writer", "plan", "residuals", "order"] (defScope s_write_residuals) := ⟨rfl, rfl, rfl, by decide +kernel, rfl, by decide +kernel, by decide +kernel⟩
abbrev s_read_residuals : Stmt := topS 17
theorem sc_read_residuals : FnScope ["reader", "size", "order", "method", "partition_order", "codings", "residuals", "count", "coding"] ["reader", "size", "order"] (defScope s_read_residuals) := ⟨rfl, rfl, rfl, by decide +kernel, rfl, by decide +kernel, by decide +kernel⟩
abbrev s_parts : Stmt := topS 18
theorem sc_parts : FnScope ["residuals", "order", "partition_order", "parts", "start", "count"] ["residuals", "order", "partition_order"] (defScope s_parts) := ⟨rfl, rfl, rfl, by decide +kernel, rfl, by decide +kernel, by decide +kernel⟩
abbrev s_coding_width : Stmt := topS 19
theorem sc_coding_width : FnScope ["method"] ["method"] (defScope s_coding_width) := ⟨rfl, rfl, rfl, by decide +kernel, rfl, by decide +kernel, by decide +kernel⟩
abbrev s_raw_mark : Stmt := topS 20
theorem sc_raw_mark : FnScope ["method"] ["method"] (defScope s_raw_mark) := ⟨rfl, rfl, rfl, by decide +kernel, rfl, by decide +kernel, by decide +kernel⟩
abbrev s_write_coding : Stmt := topS 21
theorem sc_write_coding : FnScope ["writer", "method", "coding", "kind", "number"] ["writer", "method", "coding"] (defScope s_write_coding) := ⟨rfl, rfl, rfl, by decide +kernel, rfl, by decide +kernel, by decide +kernel⟩
abbrev s_write_part : Stmt := topS 22
theorem sc_write_part : FnScope ["writer", "coding", "part", "kind", "number", "residual"] ["writer", "coding", "part"] (defScope s_write_part) := ⟨rfl, rfl, rfl, by decide +kernel, rfl, by decide +kernel, by decide +kernel⟩
abbrev s_read_method : Stmt := topS 23
theorem sc_read_method : FnScope ["reader", "place", "method"] ["reader"] (defScope s_read_method) := ⟨rfl, rfl, rfl, by decide +kernel, rfl, by decide +kernel, by decide +kernel⟩
abbrev s_read_partition_order : Stmt := topS 24
theorem sc_read_partition_order : FnScope ["reader", "size", "order", "place", "partition_order"] ["reader", "size", "order"] (defScope s_read_partition_order) := ⟨rfl, rfl, rfl, by decide +kernel, rfl, by decide +kernel, by decide +kernel⟩
abbrev s_read_coding : Stmt := topS 25
theorem sc_read_coding : FnScope ["reader", "method", "number"] ["reader", "method"] (defScope s_read_coding) := ⟨rfl, rfl, rfl, by decide +kernel, rfl, by decide +kernel, by decide +kernel⟩
abbrev s_read_part : Stmt := topS 26
theorem sc_read_part : FnScope ["reader", "coding", "count", "kind", "number", "_"] ["reader", "coding", "count"] (defScope s_read_part) := ⟨rfl, rfl, rfl, by decide +kernel, rfl, by decide +kernel, by decide +kernel⟩
abbrev s_read_residual : Stmt := topS 27
theorem sc_read_residual : FnScope ["reader", "k", "place", "residual"] ["reader", "k"] (defScope s_read_residual) := ⟨rfl, rfl, rfl, by decide +kernel, rfl, by decide +kernel, by decide +kernel⟩
abbrev s_best_coding : Stmt := topS 32
theorem sc_best_coding : FnScope ["residuals", "order", "highest", "wide", "size", "top", "methods", "candidates", "parts", "partition_order", "method", "codings", "bits", "p"] ["residuals", "order", "highest", "wide"] (defScope s_best_coding) := ⟨rfl, rfl, rfl, by decide +kernel, rfl, by decide +kernel, by decide +kernel⟩
abbrev s_width : Stmt := topS 33
theorem sc_width : FnScope ["folded"] ["folded"] (defScope s_width) := ⟨rfl, rfl, rfl, by decide +kernel, rfl, by decide +kernel, by decide +kernel⟩
abbrev s_measured : Stmt := topS 34
theorem sc_measured : FnScope ["residuals", "folded", "width", "sums", "k", "residual", "value"] ["residuals"] (defScope s_measured) := ⟨rfl, rfl, rfl, by decide +kernel, rfl, by decide +kernel, by decide +kernel⟩
abbrev s_measured_parts : Stmt := topS 35
theorem sc_measured_parts : FnScope ["residuals", "sizes", "parts", "start", "size"] ["residuals", "sizes"] (defScope s_measured_parts) := ⟨rfl, rfl, rfl, by decide +kernel, rfl, by decide +kernel, by decide +kernel⟩
abbrev s_joined_in_pairs : Stmt := topS 36
theorem sc_joined_in_pairs : FnScope ["parts", "at"] ["parts"] (defScope s_joined_in_pairs) := ⟨rfl, rfl, rfl, by decide +kernel, rfl, by decide +kernel, by decide +kernel⟩
abbrev s_joined : Stmt := topS 37
theorem sc_joined : FnScope ["part", "other", "a", "b"] ["part", "other"] (defScope s_joined) := ⟨rfl, rfl, rfl, by decide +kernel, rfl, by decide +kernel, by decide +kernel⟩
abbrev s_entry : Stmt := topS 38
theorem sc_entry : FnScope ["part", "method", "count", "sums", "width", "field", "k", "bits", "raw_bits"] ["part", "method"] (defScope s_entry) := ⟨rfl, rfl, rfl, by decide +kernel, rfl, by decide +kernel, by decide +kernel⟩
abbrev s_entries : Stmt := topS 39
theorem sc_entries : FnScope ["parts", "method", "entries", "codings", "part", "coding", "_", "bits"] ["parts", "method"] (defScope s_entries) := ⟨rfl, rfl, rfl, by decide +kernel, rfl, by decide +kernel, by decide +kernel⟩
abbrev s_BitWriter_init : Stmt := inClass (topS 42) 0
theorem sc_BitWriter_init : FnScope ["self"] ["self"] (defScope s_BitWriter_init) := ⟨rfl, rfl, rfl, by decide +kernel, rfl, by decide +kernel, by decide +kernel⟩
abbrev s_BitWriter_write : Stmt := inClass (topS 42) 1
theorem sc_BitWriter_write : FnScope ["self", "width", "value", "held", "held_bits"] ["self", "width", "value"] (defScope s_BitWriter_write) := ⟨rfl, rfl, rfl, by decide +kernel, rfl, by decide +kernel, by decide +kernel⟩
abbrev s_BitWriter_write_signed : Stmt := inClass (topS 42) 2
theorem sc_BitWriter_write_signed : FnScope ["self", "width", "value"] ["self", "width", "value"] (defScope s_BitWriter_write_signed) := ⟨rfl, rfl, rfl, by decide +kernel, rfl, by decide +kernel, by decide +kernel⟩
abbrev s_BitWriter_write_unary : Stmt := inClass (topS 42) 3
theorem sc_BitWriter_write_unary : FnScope ["self", "count", "zeros"] ["self", "count"] (defScope s_BitWriter_write_unary) := ⟨rfl, rfl, rfl, by decide +kernel, rfl, by decide +kernel, by decide +kernel⟩
abbrev s_BitWriter_pad : Stmt := inClass (topS 42) 4
theorem sc_BitWriter_pad : FnScope ["self"] ["self"] (defScope s_BitWriter_pad) := ⟨rfl, rfl, rfl, by decide +kernel, rfl, by decide +kernel, by decide +kernel⟩
abbrev s_BitWriter_byte_list : Stmt := inClass (topS 42) 6
theorem sc_BitWriter_byte_list : FnScope ["self"] ["self"] (defScope s_BitWriter_byte_list) := ⟨rfl, rfl, rfl, by decide +kernel, rfl, by decide +kernel, by decide +kernel⟩
abbrev s_BitWriter_bits_written : Stmt := inClass (topS 42) 7
theorem sc_BitWriter_bits_written : FnScope ["self"] ["self"] (defScope s_BitWriter_bits_written) := ⟨rfl, rfl, rfl, by decide +kernel, rfl, by decide +kernel, by decide +kernel⟩
abbrev s_BitReader_init : Stmt := inClass (topS 43) 0
theorem sc_BitReader_init : FnScope ["self", "data", "at"] ["self", "data", "at"] (defScope s_BitReader_init) := ⟨rfl, rfl, rfl, by decide +kernel, rfl, by decide +kernel, by decide +kernel⟩
abbrev s_BitReader_read : Stmt := inClass (topS 43) 1
theorem sc_BitReader_read : FnScope ["self", "width", "data", "start", "stop", "last", "value", "byte"] ["self", "width"] (defScope s_BitReader_read) := ⟨rfl, rfl, rfl, by decide +kernel, rfl, by decide +kernel, by decide +kernel⟩
abbrev s_BitReader_read_signed : Stmt := inClass (topS 43) 2
theorem sc_BitReader_read_signed : FnScope ["self", "width", "value"] ["self", "width"] (defScope s_BitReader_read_signed) := ⟨rfl, rfl, rfl, by decide +kernel, rfl, by decide +kernel, by decide +kernel⟩
abbrev s_BitReader_read_unary : Stmt := inClass (topS 43) 3
theorem sc_BitReader_read_unary : FnScope ["self", "data", "place", "ahead", "one", "count"] ["self"] (defScope s_BitReader_read_unary) := ⟨rfl, rfl, rfl, by decide +kernel, rfl, by decide +kernel, by decide +kernel⟩
abbrev s_BitReader_rest_of_byte : Stmt := inClass (topS 43) 7
theorem sc_BitReader_rest_of_byte : FnScope ["self", "place"] ["self"] (defScope s_BitReader_rest_of_byte) := ⟨rfl, rfl, rfl, by decide +kernel, rfl, by decide +kernel, by decide +kernel⟩
abbrev s_BitReader_byte_place : Stmt := inClass (topS 43) 9
theorem sc_BitReader_byte_place : FnScope ["self"] ["self"] (defScope s_BitReader_byte_place) := ⟨rfl, rfl, rfl, by decide +kernel, rfl, by decide +kernel, by decide +kernel⟩
abbrev s_law_cell : Stmt := topS 45
theorem sc_law_cell : FnScope ["script", "k"] ["script", "k"] (defScope s_law_cell) := ⟨rfl, rfl, rfl, by decide +kernel, rfl, by decide +kernel, by decide +kernel⟩
abbrev s_law_integer : Stmt := topS 46
theorem sc_law_integer : FnScope ["value"] ["value"] (defScope s_law_integer) := ⟨rfl, rfl, rfl, by decide +kernel, rfl, by decide +kernel, by decide +kernel⟩
abbrev s_law_integers : Stmt := topS 47
theorem sc_law_integers : FnScope ["values", "value"] ["values"] (defScope s_law_integers) := ⟨rfl, rfl, rfl, by decide +kernel, rfl, by decide +kernel, by decide +kernel⟩
abbrev s_law_row : Stmt := topS 48
theorem sc_law_row : FnScope ["cell", "count", "bound", "rest", "mixed", "row", "k"] ["cell", "count", "bound"] (defScope s_law_row) := ⟨rfl, rfl, rfl, by decide +kernel, rfl, by decide +kernel, by decide +kernel⟩
abbrev s_law_residuals : Stmt := topS 49
theorem sc_law_residuals : FnScope ["cell", "count", "shape", "bound", "row", "k", "x"] ["cell", "count", "shape"] (defScope s_law_residuals) := ⟨rfl, rfl, rfl, by decide +kernel, rfl, by decide +kernel, by decide +kernel⟩
abbrev s_law : Stmt := topS 50
theorem sc_law : FnScope ["script", "first", "size", "degree", "values", "both_methods", "ahead", "actual", "coding", "writer", "reader", "back"] ["script"] (defScope s_law) := ⟨rfl, rfl, rfl, by decide +kernel, rfl, by decide +kernel, by decide +kernel⟩
theorem hu64 {A : Around} {k : Nat} (hr : Room k A) : A.units + 64 < cLine := hr.units
/-! ### short words for readings -/
theorem ret_eq {v w : V} {H H' : Hp} {Q : VK} (k : RetV v H Q) (ex : Ex H H') (e : w = v) : Q w H' := e ▸ k H' ex
/-- isinstance(x, T), T a built-in class -/
theorem ev_isi {K : PySem.W.Frag} {σ : L2.St} {H : Hp} {ta : TE} {x : V} {t : String} {T : String} {b : Bool} (ha : Ev ta σ H x) (ht : ∀ H1, Ex H H1 → TyX K H1 x (.type t)) (hk : kitB t T = some b) :
    Ev (tCB (rIsi K) (tCons ta (tCons (tC (.ty T)) tNil))) σ H (.bl b) :=
  ev_cb (ea_cons ha (ea_cons ev_c ea_nil)) fun H1 e Q q => ⟨x, .ty T, _, _, b, rfl, .ty T, ht H1 e, kit_ty hk, q H1 (Ex.refl H1)⟩
theorem isi_int {K : PySem.W.Frag} {H : Hp} {i : Int} : ∀ H1, Ex H H1 → TyX K H1 (V.int i) (.type "int") := fun _ _ => .base (.int _)
theorem isi_bl {K : PySem.W.Frag} {H : Hp} {b : Bool} : ∀ H1, Ex H H1 → TyX K H1 (V.bl b) (.type "bool") := fun _ _ => .base (.bl _)
theorem isi_non {K : PySem.W.Frag} {H : Hp} : ∀ H1, Ex H H1 → TyX K H1 V.non (.type "NoneType") := fun _ _ => .base .non
theorem isi_lst {K : PySem.W.Frag} {H : Hp} {a : Addr} {xs : List V} (h : H a = some (.lst xs)) : ∀ H1, Ex H H1 → TyX K H1 (V.ref a) (.type "list") := fun _ e => .base (.lst (e _ _ h))
theorem isi_tup {K : PySem.W.Frag} {H : Hp} {a : Addr} {xs : List V} (h : H a = some (.tup xs)) : ∀ H1, Ex H H1 → TyX K H1 (V.ref a) (.type "tuple") := fun _ e => .base (.tup (e _ _ h))
theorem kit_ii : kitB "int" "int" = some true := by decide +kernel
theorem kit_ib : kitB "int" "bool" = some false := by decide +kernel
theorem kit_bb : kitB "bool" "bool" = some true := by decide +kernel
theorem kit_bi : kitB "bool" "int" = some true := by decide +kernel
theorem kit_ll : kitB "list" "list" = some true := by decide +kernel
theorem kit_tt : kitB "tuple" "tuple" = some true := by decide +kernel
theorem ev_isiI {K : PySem.W.Frag} {σ : L2.St} {H : Hp} {ta : TE} {i : Int} (ha : Ev ta σ H (.int i)) : Ev (tCB (rIsi K) (tCons ta (tCons (tC (.ty "int")) tNil))) σ H (.bl true) := ev_isi ha isi_int kit_ii
theorem ev_isiB {K : PySem.W.Frag} {σ : L2.St} {H : Hp} {ta : TE} {i : Int} (ha : Ev ta σ H (.int i)) : Ev (tCB (rIsi K) (tCons ta (tCons (tC (.ty "bool")) tNil))) σ H (.bl false) := ev_isi ha isi_int kit_ib
theorem ev_isiL {K : PySem.W.Frag} {σ : L2.St} {H : Hp} {ta : TE} {a : Addr} {xs : List V} (ha : Ev ta σ H (.ref a)) (h : H a = some (.lst xs)) : Ev (tCB (rIsi K) (tCons ta (tCons (tC (.ty "list")) tNil))) σ H (.bl true) := ev_isi ha (isi_lst h) kit_ll
theorem ev_isiBB {K : PySem.W.Frag} {σ : L2.St} {H : Hp} {ta : TE} {b : Bool} (ha : Ev ta σ H (.bl b)) : Ev (tCB (rIsi K) (tCons ta (tCons (tC (.ty "bool")) tNil))) σ H (.bl true) := ev_isi ha isi_bl kit_bb
theorem ev_chain {σ : L2.St} {H : Hp} {ta tb tc : TE} {g g' : Int → Int → Bool} {a b c : Int} (ha : Ev ta σ H (.int a)) (hb : Ev tb σ H (.int b)) (hc : Ev tc σ H (.int c)) :
    Ev (tChain (rI0 fun i j => .bl (g i j)) (rI0 fun i j => .bl (g' i j)) ta tb tc) σ H (.bl (g a b && g' b c)) := fun H1 e Q q =>
  ha H1 e _ fun H2 e2 => hb H2 (e.trans e2) _ fun H3 e3 => ⟨a, b, rfl, rfl, g a b, rfl, by
    cases hg : g a b with
    | true =>
      rw [if_pos rfl]
      rw [hg, Bool.true_and] at q
      exact hc H3 ((e.trans e2).trans e3) _ fun H4 e4 => ⟨b, c, rfl, rfl, q H4 ((e2.trans e3).trans e4)⟩
    | false =>
      rw [if_neg (by decide)]
      rw [hg, Bool.false_and] at q
      exact q H3 (e2.trans e3)⟩
theorem ev_isN {σ : L2.St} {H : Hp} {ta : TE} {x : V} (ha : Ev ta σ H x) : Ev (tOp rIsN ta (tC .non)) σ H (.bl (decide (x = .non))) := fun H1 e Q q => ha H1 e _ fun H2 e2 => ⟨rfl, q H2 e2⟩
theorem ev_notN {σ : L2.St} {H : Hp} {ta : TE} {x : V} (ha : Ev ta σ H x) : Ev (tOp rNotN ta (tC .non)) σ H (.bl (!decide (x = .non))) := fun H1 e Q q => ha H1 e _ fun H2 e2 => ⟨rfl, q H2 e2⟩
theorem ev_min2 {σ : L2.St} {H : Hp} {ta tb : TE} {i j : Int} (ha : Ev ta σ H (.int i)) (hb : Ev tb σ H (.int j)) :
    Ev (tCB (fun xs H Q => ∃ i j, xs = [.int i, .int j] ∧ Q (.int (if j < i then j else i)) H) (tCons ta (tCons tb tNil))) σ H (.int (if j < i then j else i)) :=
  ev_cb (ea_cons ha (ea_cons hb ea_nil)) fun H1 _ _ q => ⟨i, j, rfl, q H1 (Ex.refl H1)⟩
theorem ev_negI {σ : L2.St} {H : Hp} {ta : TE} {i : Int} (ha : Ev ta σ H (.int i)) : Ev (tUn (rU fun i => .int (-i)) ta) σ H (.int (-i)) := ev_un ha ru_neg
theorem ev_I0 {σ : L2.St} {H : Hp} {ta tb : TE} {g : Int → Int → V} {i j : Int} (ha : Ev ta σ H (.int i)) (hb : Ev tb σ H (.int j)) : Ev (tOp (rI0 g) ta tb) σ H (g i j) := ev_op ha hb rv_I0
theorem ev_I {σ : L2.St} {H : Hp} {ta tb : TE} {C : Int → Int → Prop} {g : Int → Int → V} {i j : Int} (ha : Ev ta σ H (.int i)) (hb : Ev tb σ H (.int j)) (hc : C i j) : Ev (tOp (rI C g) ta tb) σ H (g i j) := ev_op ha hb (rv_I hc)
theorem ev_eq {σ : L2.St} {H : Hp} {ta tb : TE} {x y : V} (ha : Ev ta σ H x) (hb : Ev tb σ H y) (hs : scal x y = true) : Ev (tOp rEq ta tb) σ H (.bl (decide (x = y))) := ev_op ha hb (rv_eq hs)
theorem ev_ne {σ : L2.St} {H : Hp} {ta tb : TE} {x y : V} (ha : Ev ta σ H x) (hb : Ev tb σ H y) (hs : scal x y = true) : Ev (tOp rNe ta tb) σ H (.bl (!decide (x = y))) := ev_op ha hb (rv_ne hs)
theorem et_B' {σ : L2.St} {H : Hp} {te : TE} {x : V} {b : Bool} (h : Ev te σ H x) (e : x = .bl b) : EvT (tB te) σ H b := et_B (e ▸ h)
theorem dec_lt {a b : Nat} : decide ((a : Int) < (b : Int)) = decide (a < b) := by
  by_cases h : a < b
  · rw [decide_eq_true h, decide_eq_true (by omega)]
  · rw [decide_eq_false h, decide_eq_false (by omega)]
theorem int_at {ns : List Int} {i : Nat} {x : V} (hx : (ns.map V.int)[i]? = some x) : ∃ n, ns[i]? = some n ∧ i < ns.length ∧ x = V.int n := by
  rw [List.getElem?_map] at hx
  cases en : ns[i]? with
  | none => rw [en] at hx; cases hx
  | some n => rw [en] at hx; exact ⟨n, rfl, (List.getElem?_eq_some_iff.mp en).1, (Option.some.inj hx).symm⟩
theorem at_int {ns : List Int} {i : Nat} {n : Int} (h : ns[i]? = some n) : (ns.map V.int)[i]? = some (V.int n) := by rw [List.getElem?_map, h]; rfl
local macro_rules | `(tactic| walk_at "side") => `(tactic| first
  | omega | (show CMul _ _; unfold CMul; omega) | (show CDiv _ _; unfold CDiv; omega) | (show CPow _ _; unfold CPow; omega) | (show (_ : Int) < _; omega) | (show (_ : Int) ≤ _; omega) | decide)
local macro_rules | `(tactic| walk_at "ev") => `(tactic| first
  | exact ev_var rfl
  | exact ev_c
  | (refine' ev_I0 ?h1 ?h2; (case h1 => walk_at "ev"); (case h2 => walk_at "ev"))
  | (refine' ev_negI ?h1; (case h1 => walk_at "ev"))
  | (refine' ev_I ?h1 ?h2 ?hc; (case h1 => walk_at "ev"); (case h2 => walk_at "ev"); (case hc => walk_at "side"))
  | (refine' ev_eq ?h1 ?h2 ?hc; (case h1 => walk_at "ev"); (case h2 => walk_at "ev"); (case hc => rfl))
  | (refine' ev_ne ?h1 ?h2 ?hc; (case h1 => walk_at "ev"); (case h2 => walk_at "ev"); (case hc => rfl))
  | (refine' ev_max2 ?h1 ?h2; (case h1 => walk_at "ev"); (case h2 => walk_at "ev"))
  | (refine' ev_min2 ?h1 ?h2; (case h1 => walk_at "ev"); (case h2 => walk_at "ev"))
  | (refine' ev_chain ?h1 ?h2 ?h3; (case h1 => walk_at "ev"); (case h2 => walk_at "ev"); (case h3 => walk_at "ev"))
  | (refine' ev_isN ?h1; (case h1 => walk_at "ev"))
  | (refine' ev_notN ?h1; (case h1 => walk_at "ev"))
  | (refine' ev_isiI ?h1; (case h1 => walk_at "ev"))
  | (refine' ev_isiB ?h1; (case h1 => walk_at "ev"))
  | (refine' ev_isiBB ?h1; (case h1 => walk_at "ev"))
  | (refine' ev_andV ?h1 (fun _ => ?h2); (case h1 => walk_at "ev"); (case h2 => walk_at "ev"))
  | (refine' ev_orV ?h1 (fun _ => ?h2); (case h1 => walk_at "ev"); (case h2 => walk_at "ev"))
  | (refine' ev_notV ?h1; (case h1 => walk_at "ev"))
  | walk_at "evmore")
local macro_rules | `(tactic| walk_at "et") => `(tactic| first
  | (refine' et_test ?h1; (case h1 => walk_at "ev"))
  | (refine' et_B ?h1; (case h1 => walk_at "ev"))
  | (refine' et_not ?h1; (case h1 => walk_at "et"))
  | (refine' et_and ?h1 (fun _ => ?h2); (case h1 => walk_at "et"); (case h2 => walk_at "et"))
  | (refine' et_or ?h1 (fun _ => ?h2); (case h1 => walk_at "et"); (case h2 => walk_at "et")))
local macro_rules | `(tactic| walk_at "ea") => `(tactic| first
  | exact ea_nil
  | (refine' ea_cons ?h1 ?h2; (case h1 => walk_at "ev"); (case h2 => walk_at "ea")))
local macro_rules | `(tactic| walk_at "when") => `(tactic| (refine' q_when ?h ?h1 ?h2; (case h => walk_at "et")))
local macro_rules | `(tactic| walk_at "whenS") => `(tactic| (refine' s_when ?h ?h1 ?h2; (case h => walk_at "et")))
local macro_rules | `(tactic| walk_at "if") => `(tactic| (refine' q_if ?h ?h1 ?h2; (case h => walk_at "et")))
local macro_rules | `(tactic| walk_at "ifS") => `(tactic| (refine' s_if ?h ?h1 ?h2; (case h => walk_at "et")))
local macro_rules | `(tactic| walk_at "ret") => `(tactic| (refine' s_ret ?h ?h1; (case h => walk_at "ev")))
local macro_rules | `(tactic| walk_at "asg") => `(tactic| (refine' q_asg ?h ?h1; (case h => walk_at "ev")))
local macro_rules | `(tactic| walk_at "asgS") => `(tactic| (refine' s_asg ?h ?h1; (case h => walk_at "ev")))

/-! ### lists, existing or new -/
def EvR (te : TE) (σ : L2.St) (H : Hp) (xs : List V) : Prop := ∀ H1, Ex H H1 → ∀ Q : VK, (∀ p H2, Ex H1 H2 → H2 p = some (.lst xs) → Q (.ref p) H2) → te σ H1 Q
def EvS (K : PySem.W.Frag) (te : TE) (σ : L2.St) (H : Hp) (xs : List V) : Prop := ∀ H1, Ex H H1 → ∀ Q : VK, (∀ p H2, Ex H1 H2 → SqL K H2 p xs → Q (.ref p) H2) → te σ H1 Q
section
variable {K : PySem.W.Frag} {σ : L2.St} {H H' : Hp} {ta tb te : TE} {xs ys : List V} {a : Addr}
theorem EvL.r (h : EvL te σ H xs) : EvR te σ H xs := fun H1 e Q q => h H1 e Q fun p H2 _ e2 h2 => q p H2 e2 h2
theorem Ev.r (h : Ev te σ H (.ref a)) (hx : H a = some (.lst xs)) : EvR te σ H xs := fun H1 e Q q => h H1 e Q fun H2 e2 => q a H2 e2 (e2 _ _ (e _ _ hx))
theorem EvR.s (h : EvR te σ H xs) : EvS K te σ H xs := fun H1 e Q q => h H1 e Q fun p H2 e2 h2 => q p H2 e2 (sq_of h2)
theorem Ev.s (h : Ev te σ H (.ref a)) (hx : SqL K H a xs) : EvS K te σ H xs := fun H1 e Q q => h H1 e Q fun H2 e2 => q a H2 e2 (ex_l e2 (ex_l e hx))
theorem EvR.mono (e : Ex H H') (h : EvR te σ H xs) : EvR te σ H' xs := fun H1 a Q q => h H1 (e.trans a) Q q
theorem EvS.mono (e : Ex H H') (h : EvS K te σ H xs) : EvS K te σ H' xs := fun H1 a Q q => h H1 (e.trans a) Q q
theorem EvL.is (h : EvL te σ H xs) (e : xs = ys) : EvL te σ H ys := e ▸ h
theorem EvR.is (h : EvR te σ H xs) (e : xs = ys) : EvR te σ H ys := e ▸ h
theorem el_cat (ha : EvR ta σ H xs) (hb : EvR tb σ H ys) (hl : xs.length + ys.length ≤ 100000) : EvL (tOp rCat ta tb) σ H (xs ++ ys) := fun H1 e Q q =>
  ha H1 e _ fun p H2 e2 h2 => hb H2 (e.trans e2) _ fun r H3 e3 h3 => ⟨p, r, xs, ys, rfl, rfl, e3 _ _ h2, h3, sz_of hl, fun l hl => q l _ (fresh_back (e2.trans e3) hl) ((e2.trans e3).trans (Ex.new hl)) upd_same⟩
theorem el_rep {k : Int} (ha : EvR ta σ H xs) (hb : Ev tb σ H (.int k)) (hk : -(2 ^ 63) ≤ k ∧ k < 2 ^ 63) (hl : xs.length * k.toNat ≤ 100000) : EvL (tOp rRep ta tb) σ H (List.replicate k.toNat xs).flatten := fun H1 e Q q =>
  ha H1 e _ fun p H2 e2 h2 => hb H2 (e.trans e2) _ fun H3 e3 => ⟨p, k, xs, rfl, rfl, e3 _ _ h2, hk.1, hk.2, sz_of hl, fun l hl => q l _ (fresh_back (e2.trans e3) hl) ((e2.trans e3).trans (Ex.new hl)) upd_same⟩
theorem rep_one {x : V} (n : Nat) : (List.replicate n [x]).flatten = List.replicate n x := by
  induction n with
  | zero => rfl
  | succ n ih => rw [List.replicate_succ, List.replicate_succ, List.flatten_cons, ih]; rfl
theorem el_of {te : TE} (h : EvS K te σ H xs) : EvL (tCB (rListS K) (tCons te tNil)) σ H xs := fun H1 e Q q =>
  h H1 e _ fun p H2 e2 h2 => ⟨p, xs, rfl, .inl h2, fun l hl => q l _ (fresh_back e2 hl) (e2.trans (Ex.new hl)) upd_same⟩
theorem ev_lenS (h : EvS K te σ H xs) : Ev (tCB (rLenS K) (tCons te tNil)) σ H (.int (xs.length : Int)) := fun H1 e Q q =>
  h H1 e _ fun p H2 e2 h2 => ⟨p, xs, rfl, .inl h2, q H2 e2⟩
theorem ev_sum {ns : List Int} (h : EvS K te σ H (ns.map V.int)) : Ev (tCB (rSum K) (tCons te tNil)) σ H (.int ns.sum) := fun H1 e Q q =>
  h H1 e _ fun p H2 e2 h2 => ⟨p, ns, rfl, h2, q H2 e2⟩
theorem dp_ints {K : PySem.W.Frag} {H : Hp} : ∀ ns : List Int, DpAll K H (ns.map V.int) (ns.map PyData.int)
  | [] => .nil
  | n :: r => .cons (.int n) (dp_ints r)
theorem eqv_ints : ∀ ns ms : List Int, PyData.eqvAll (ns.map PyData.int) (ms.map PyData.int) = decide (ns = ms)
  | [], [] => by simp [PyData.eqvAll]
  | [], _ :: _ => by simp [PyData.eqvAll]
  | _ :: _, [] => by simp [PyData.eqvAll]
  | n :: r, m :: t => by
    show (PyData.eqv (.int n) (.int m) && PyData.eqvAll (r.map PyData.int) (t.map PyData.int)) = _
    rw [eqv_ints r t]
    show ((n == m) && decide (r = t)) = _
    by_cases h1 : n = m <;> by_cases h2 : r = t <;> simp [h1, h2]
theorem canLay_ints : ∀ ns : List Int, PyData.canLayAll0 (ns.map PyData.int) = true
  | [] => by simp [PyData.canLayAll0]
  | n :: r => by
    show PyData.canLayAll0 (PyData.int n :: r.map PyData.int) = true
    rw [PyData.canLayAll0, canLay_ints r]
    simp [PyData.canLay0]
theorem depth_ints : ∀ ns : List Int, PyData.depthAll (ns.map PyData.int) ≤ 1
  | [] => by simp [PyData.depthAll]
  | n :: r => by
    show PyData.depthAll (PyData.int n :: r.map PyData.int) ≤ 1
    have := depth_ints r
    simp only [PyData.depthAll, PyData.depth]
    omega
theorem shaped_ints (ns : List Int) : SeqAt.shaped (.list (ns.map PyData.int)) = true := by
  unfold SeqAt.shaped
  have h1 := canLay_ints ns
  have h2 := depth_ints ns
  have h3 : PyData.depth (.list (ns.map PyData.int)) ≤ 64 := by
    rw [PyData.depth]
    omega
  rw [decide_eq_true h3, Bool.and_true]
  simpa only [PyData.canLay0] using h1
theorem ev_eqI {ns ms : List Int} (ha : EvS K ta σ H (ns.map V.int)) (hb : EvS K tb σ H (ms.map V.int)) : Ev (tOp (rEqD K) ta tb) σ H (.bl (decide (ns = ms))) := fun H1 e Q q =>
  ha H1 e _ fun p H2 e2 h2 => hb H2 (e.trans e2) _ fun r H3 e3 h3 => ⟨.list (ns.map PyData.int), .list (ms.map PyData.int), .lst (ex_l e3 h2) (dp_ints ns), .lst h3 (dp_ints ms), shaped_ints ns, shaped_ints ms, by
    show Q (.bl (PyData.eqvAll (ns.map PyData.int) (ms.map PyData.int))) H3
    rw [eqv_ints]
    exact q H3 (e2.trans e3)⟩
theorem ev_neI {ns ms : List Int} (ha : EvS K ta σ H (ns.map V.int)) (hb : EvS K tb σ H (ms.map V.int)) : Ev (tOp (rNeD K) ta tb) σ H (.bl (!decide (ns = ms))) := fun H1 e Q q =>
  ha H1 e _ fun p H2 e2 h2 => hb H2 (e.trans e2) _ fun r H3 e3 h3 => ⟨.list (ns.map PyData.int), .list (ms.map PyData.int), .lst (ex_l e3 h2) (dp_ints ns), .lst h3 (dp_ints ms), shaped_ints ns, shaped_ints ms, by
    show Q (.bl (!PyData.eqvAll (ns.map PyData.int) (ms.map PyData.int))) H3
    rw [eqv_ints]
    exact q H3 (e2.trans e3)⟩
theorem ev_ixS {i : Nat} {n : Int} {tl ti : TE} {v : V} (h : EvS K tl σ H xs) (hi : Ev ti σ H (.int n)) (ha : atI xs n = some v) : Ev (tOp (rIxL K) tl ti) σ H v := fun H1 e Q q =>
  h H1 e _ fun p H2 e2 h2 => hi H2 (e.trans e2) _ fun H3 e3 => ⟨p, xs, n, v, rfl, rfl, ex_l e3 h2, ha, q H3 (e2.trans e3)⟩
theorem el_slS {tl th : TO} {lo hi : Option Int} (h : EvS K te σ H xs) (h1 : EvO tl σ H lo) (h2 : EvO th σ H hi) : EvL (tSl (rSlL K) te tl th) σ H (cutV xs lo hi) := fun H1 e _ q =>
  h H1 e _ fun a H2 e2 hs => h1 H2 (e.trans e2) _ fun H3 e3 => h2 H3 ((e.trans e2).trans e3) _ fun H4 e4 =>
    ⟨a, xs, rfl, ex_l (e3.trans e4) hs, fun p hp => q p _ (fresh_back ((e2.trans e3).trans e4) hp) (((e2.trans e3).trans e4).trans (Ex.new hp)) upd_same⟩
theorem ev_at {n : Int} {tl ti : TE} {v : V} (h : EvS K tl σ H xs) (hi : Ev ti σ H (.int n)) (ha : atI xs n = some v) : Ev (tOp (rIxL K) tl ti) σ H v := ev_ixS (i := 0) h hi ha
theorem cut_to (xs : List V) (i : Nat) : cutV xs none (some (i : Int)) = xs.take i := by
  unfold cutV
  rw [HT.sIx_none, HT.sIx_nat, List.drop_zero, Nat.sub_zero]
  by_cases h : i ≤ xs.length
  · rw [Nat.min_eq_left h]
  · rw [Nat.min_eq_right (by omega), List.take_of_length_le (Nat.le_refl _), List.take_of_length_le (by omega)]
theorem cut_from (xs : List V) (i : Nat) : cutV xs (some (i : Int)) none = xs.drop i := by
  unfold cutV
  rw [HT.sIx_none, HT.sIx_nat]
  by_cases h : i ≤ xs.length
  · rw [Nat.min_eq_left h, List.take_of_length_le (by rw [List.length_drop]; omega)]
  · rw [Nat.min_eq_right (by omega), List.drop_of_length_le (Nat.le_refl _), List.drop_of_length_le (show xs.length ≤ i by omega), List.take_nil]
theorem cut_mid (xs : List V) (i j : Nat) : cutV xs (some (i : Int)) (some (j : Int)) = (xs.drop i).take (j - i) := by
  unfold cutV
  rw [HT.sIx_nat, HT.sIx_nat]
  by_cases h : i ≤ xs.length
  · rw [Nat.min_eq_left h]
    by_cases h2 : j ≤ xs.length
    · rw [Nat.min_eq_left h2]
    · rw [Nat.min_eq_right (by omega), List.take_of_length_le (by rw [List.length_drop]; omega), List.take_of_length_le (by rw [List.length_drop]; omega)]
  · rw [Nat.min_eq_right (by omega : xs.length ≤ i), List.drop_of_length_le (Nat.le_refl _), List.drop_of_length_le (show xs.length ≤ i by omega)]
    simp
theorem el_to {th : TE} {ns : List Int} {i : Nat} (h : EvS K te σ H (ns.map V.int)) (h2 : Ev th σ H (.int i)) : EvL (tSl (rSlL K) te tNoPart (tPart th)) σ H ((ns.take i).map V.int) :=
  EvL.is (el_slS h eo_none (eo_some h2)) (by rw [List.map_take]; exact cut_to _ i)
theorem el_from {th : TE} {ns : List Int} {i : Nat} (h : EvS K te σ H (ns.map V.int)) (h2 : Ev th σ H (.int i)) : EvL (tSl (rSlL K) te (tPart th) tNoPart) σ H ((ns.drop i).map V.int) :=
  EvL.is (el_slS h (eo_some h2) eo_none) (by rw [List.map_drop]; exact cut_from _ i)
theorem el_mid {t1 t2 : TE} {ns : List Int} {i j : Nat} (h : EvS K te σ H (ns.map V.int)) (h1 : Ev t1 σ H (.int i)) (h2 : Ev t2 σ H (.int j)) : EvL (tSl (rSlL K) te (tPart t1) (tPart t2)) σ H (((ns.drop i).take (j - i)).map V.int) :=
  EvL.is (el_slS h (eo_some h1) (eo_some h2)) (by rw [List.map_take, List.map_drop]; exact cut_mid _ i j)
section
variable {D : Ends} {tz : TS} {sp : Sp} {dvs vs : List V} {E : XK} {tA : TA}
/-- x = f(..), whatever f promises -/
theorem q_asgC {i : Nat} (h : EvA tA σ H vs) (k : ∀ H1, Ex H H1 → sp (vs ++ dvs) H1 (fun x H2 => tz D (σ.set i (some x)) H2) E) : tSeq (tAsg (tCall sp dvs E tA) (gName i)) tz D σ H := h H (Ex.refl H) _ fun H1 e => k H1 e
theorem s_asgC {i : Nat} (h : EvA tA σ H vs) (k : ∀ H1, Ex H H1 → sp (vs ++ dvs) H1 (fun x H2 => D.nx (σ.set i (some x)) H2) E) : tAsg (tCall sp dvs E tA) (gName i) D σ H := h H (Ex.refl H) _ fun H1 e => k H1 e
theorem q_dropC (h : EvA tA σ H vs) (k : ∀ H1, Ex H H1 → sp (vs ++ dvs) H1 (fun _ H2 => tz D σ H2) E) : tSeq (tDrop (tCall sp dvs E tA)) tz D σ H := h H (Ex.refl H) _ fun H1 e => k H1 e
theorem s_retC (h : EvA tA σ H vs) (k : ∀ H1, Ex H H1 → sp (vs ++ dvs) H1 D.rt E) : tRet (tCall sp dvs E tA) D σ H := h H (Ex.refl H) _ fun H1 e => k H1 e
end
theorem gl_get {ns : List Int} {i : Nat} (h : i < ns.length) : ns[i]? = some (ns.getD i 0) := by
  rw [List.getD_eq_getElem?_getD, List.getElem?_eq_getElem h]
  rfl
theorem q_asgRaw {te : TE} {i : Nat} {D : Ends} {tz : TS} (P : V → Hp → Prop) (h : ∀ Q : VK, (∀ x H2, P x H2 → Q x H2) → te σ H Q) (k : ∀ x H2, P x H2 → tz D (σ.set i (some x)) H2) : tSeq (tAsg te (gName i)) tz D σ H := h _ k
/-- a, b = a pair -/
theorem q_asgT {te : TE} {i j : Nat} {D : Ends} {tz : TS} (P : V → V → Hp → Prop) (h : ∀ Q : VK, (∀ t x y H2, P x y H2 → SqT K H2 t [x, y] → Q (.ref t) H2) → te σ H Q) (k : ∀ x y H2, P x y H2 → tz D ((σ.set i (some x)).set j (some y)) H2) :
    tSeq (tAsg te (gTup K 2 (gCons (gName i) (gCons (gName j) gNil)))) tz D σ H := h _ fun t x y H2 hP hT => ⟨t, [x, y], rfl, hT, rfl, x, [y], rfl, y, [], rfl, rfl, k x y H2 hP⟩
/-- the law's cell -/
def cellI (ns : List Int) (k : Int) : Int := ns.getD k.toNat 0
theorem cellI_in {ns : List Int} {k : Int} (h0 : 0 ≤ k) (h : k < ns.length) : ns[k.toNat]? = some (cellI ns k) := by
  unfold cellI
  rw [List.getD_eq_getElem?_getD, List.getElem?_eq_getElem (by omega)]
  rfl
theorem cellI_out {ns : List Int} {k : Int} (h : ¬ k < ns.length) : cellI ns k = 0 := by
  unfold cellI
  rw [List.getD_eq_getElem?_getD, List.getElem?_eq_none (by omega)]
  rfl
end
theorem Ex.get {H H' : Hp} {a : Addr} {o : HO} (e : Ex H H') (h : H a = some o) : H' a = some o := e a o h
local macro_rules | `(tactic| walk_at "hp") => `(tactic| first
  | assumption
  | exact upd_same
  | (refine' Ex.get (by assumption) ?h1; (case h1 => walk_at "hp")))
local macro_rules | `(tactic| walk_at "ex") => `(tactic| first
  | assumption
  | exact Ex.refl _
  | (refine' Ex.trans ?h1 (by assumption); (case h1 => walk_at "ex")))
local macro_rules | `(tactic| walk_at "sq") => `(tactic| first
  | assumption
  | (refine' sq_of ?h1; (case h1 => walk_at "hp"))
  | (refine' ex_l (by assumption) ?h1; (case h1 => walk_at "sq")))
local macro_rules | `(tactic| walk_at "evs") => `(tactic| first
  | (refine' Ev.s ?h1 ?h2; (case h1 => exact ev_var rfl); (case h2 => walk_at "sq"))
  | (refine' EvR.s ?h1; (case h1 => walk_at "evr")))
local macro_rules | `(tactic| walk_at "evr") => `(tactic| first
  | (refine' Ev.r ?h1 ?h2; (case h1 => exact ev_var rfl); (case h2 => walk_at "hp"))
  | (refine' EvL.r ?h1; (case h1 => walk_at "el")))
local macro_rules | `(tactic| walk_at "eo") => `(tactic| first
  | exact eo_none
  | (refine' eo_some ?h1; (case h1 => walk_at "ev")))
local macro_rules | `(tactic| walk_at "el") => `(tactic| first
  | (refine' el_lst ?h1 ?h2; (case h1 => walk_at "ea"); (case h2 => exact Nat.le_of_ble_eq_true rfl))
  | (refine' el_cat ?h1 ?h2 ?h3; (case h1 => walk_at "evr"); (case h2 => walk_at "evr"); (case h3 => walk_at "len"))
  | (refine' el_rep ?h1 ?h2 ?h3 ?h4; (case h1 => walk_at "evr"); (case h2 => walk_at "ev"); (case h3 => walk_at "side2"); (case h4 => walk_at "len"))
  | (refine' el_of ?h1; (case h1 => walk_at "evs"))
  | (refine' el_to ?h1 ?h2; (case h1 => walk_at "evs"); (case h2 => walk_at "ev"))
  | (refine' el_from ?h1 ?h2; (case h1 => walk_at "evs"); (case h2 => walk_at "ev"))
  | (refine' el_mid ?h1 ?h2 ?h3; (case h1 => walk_at "evs"); (case h2 => walk_at "ev"); (case h3 => walk_at "ev"))
  | (refine' el_slS ?h1 ?h2 ?h3; (case h1 => walk_at "evs"); (case h2 => walk_at "eo"); (case h3 => walk_at "eo"))
  | walk_at "elmore")
local macro_rules | `(tactic| walk_at "evmore") => `(tactic| first
  | (refine' ev_lenS ?h1; (case h1 => walk_at "evs"))
  | (refine' ev_sum ?h1; (case h1 => walk_at "evs"))
  | (refine' ev_eqI ?h1 ?h2; (case h1 => walk_at "evs"); (case h2 => walk_at "evs"))
  | (refine' ev_neI ?h1 ?h2; (case h1 => walk_at "evs"); (case h2 => walk_at "evs"))
  | (refine' ev_at ?h1 ?h2 ?h3; (case h1 => walk_at "evs"); (case h2 => walk_at "ev"); (case h3 => walk_at "at"))
  | (refine' ev_isiL ?h1 ?h2; (case h1 => walk_at "ev"); (case h2 => walk_at "hp"))
  | walk_at "evown")
local macro_rules | `(tactic| walk_at "at") => `(tactic| first
  | exact at_of rfl (at_int (by assumption))
  | exact at_of rfl (by assumption))
local macro_rules | `(tactic| walk_at "asgL") => `(tactic| (refine' q_asgL ?h ?h1; (case h => walk_at "el")))
local macro_rules | `(tactic| walk_at "retL") => `(tactic| (refine' s_retL ?h ?h1; (case h => walk_at "el")))

/-- a walk's reading said in other words -/
theorem PI.k {X : Cx} {tg e : Expr} {wi wi' : TI} (h : PI X tg e wi) (q : wi = wi') : PI X tg e wi' := q ▸ h
/-! ### comprehensions whose items are said in a list -/
theorem et_yes {σ : L2.St} {H : Hp} : EvT tYes σ H true := fun H1 _ _ q => q H1 (Ex.refl H1)
section
variable {K : PySem.W.Frag} {σ : L2.St} {H : Hp} {t1 t2 te : TE} {xs ys zs : List V} {vs : List Nat}
theorem take_snoc {zs : List V} {i : Nat} {z : V} (h : zs[i]? = some z) : zs.take (i + 1) = zs.take i ++ [z] := by
  rw [List.take_add_one, h]
  rfl
theorem el_lcZ {j1 j2 : Nat} (zs : List V) (h1 : EvS K t1 σ H xs) (h2 : EvS K t2 σ H ys) (hz : zs.length = min xs.length ys.length) (hb : zs.length ≤ 50000)
    (hw : ∀ x y, wipe (((wipe σ vs).set j1 (some x)).set j2 (some y)) vs = wipe σ vs)
    (he : ∀ (i : Nat) (x y : V) H1, Ex H H1 → xs[i]? = some x → ys[i]? = some y → ∃ z, zs[i]? = some z ∧ Ev te (((wipe σ vs).set j1 (some x)).set j2 (some y)) H1 z) :
    EvL (tLc (iZip K (tCons t1 (tCons t2 tNil))) (gTup K 2 (gCons (gName j1) (gCons (gName j2) gNil))) tYes te vs) σ H zs := fun H0 e Q q =>
  h1 H0 e _ fun p H1 e1 hp => h2 H1 (e.trans e1) _ fun r H2 e2 hr => ⟨p, r, xs, ys, rfl, ex_l e2 hp, hr, fun D hD =>
    ⟨fun i m H' => m = zs.length - i ∧ i ≤ zs.length ∧ Ex H2 H' ∧ H' D = some (.lst (zs.take i)), ⟨zs.length, rfl, Nat.zero_le _, Ex.new hD, upd_same⟩, by
      rintro i m H' ⟨rfl, hi, ex, hd⟩
      have qx : SqL K H' p xs := ex_l (e2.trans ex) hp
      have qy : SqL K H' r ys := ex_l ex hr
      by_cases hlt : i < zs.length
      · have hx : xs[i]? = some xs[i] := List.getElem?_eq_getElem (by omega)
        have hy : ys[i]? = some ys[i] := List.getElem?_eq_getElem (by omega)
        refine .inr ⟨⟨xs, ys, _, _, qx, qy, hx, hy⟩, fun H3 => i + 1 ≤ zs.length ∧ Ex H2 H3 ∧ H3 D = some (.lst (zs.take (i + 1))), fun H3 h3 => ⟨zs.length - (i + 1), by omega, rfl, h3⟩, fun v H3 hv => ?_⟩
        obtain ⟨T, x, y, rfl, hT, rfl, f1, f2⟩ := hv
        have ex3 : Ex H' (upd H' T (.tup [x, y])) := Ex.new hT
        obtain ⟨z, hz1, hz2⟩ := he i x y (upd H' T (.tup [x, y])) ((((e.trans e1).trans e2).trans ex).trans ex3) (f1 _ qx) (f2 _ qy)
        refine ⟨T, [x, y], rfl, st_of upd_same, rfl, x, [y], rfl, y, [], rfl, rfl, hw x y, ?_⟩
        refine hz2 _ (Ex.refl _) _ fun H4 e4 => ⟨zs.take i, e4 _ _ (ex3 _ _ hd), sz_lt (by rw [List.length_take]; omega), hlt, ?_, ?_⟩
        · exact Ex.mut ((ex.trans ex3).trans e4) hD
        · rw [upd_same, take_snoc hz1]
      · have ei : i = zs.length := by omega
        refine .inl ⟨⟨xs, ys, qx, qy, by omega⟩, ?_⟩
        rw [ei, List.take_length] at hd
        exact q D H' (fresh_back (e1.trans e2) hD) ((e1.trans e2).trans ex) hd⟩⟩
/-- over a list, each item kept -/
theorem el_lcS {j : Nat} (zs : List V) (h1 : EvS K t1 σ H xs) (hz : zs.length = xs.length) (hb : zs.length ≤ 50000) (hw : ∀ x, wipe ((wipe σ vs).set j (some x)) vs = wipe σ vs)
    (he : ∀ (i : Nat) (x : V) H1, Ex H H1 → xs[i]? = some x → ∃ z, zs[i]? = some z ∧ Ev te ((wipe σ vs).set j (some x)) H1 z) :
    EvL (tLc (iList K t1) (gName j) tYes te vs) σ H zs := fun H0 e Q q =>
  h1 H0 e _ fun p H1 e1 hp => ⟨p, rfl, ⟨xs, hp⟩, fun D hD => lc_list (xs := xs) (fun i H' => Ex H1 H' ∧ H' D = some (.lst (zs.take i))) ⟨Ex.new hD, upd_same⟩ (fun i H' _ h => ex_l h.1 hp)
    (fun i x H' hi h => ⟨hw x, by
      obtain ⟨z, hz1, hz2⟩ := he i x H' ((e.trans e1).trans h.1) hi
      have hl : i < xs.length := (List.getElem?_eq_some_iff.mp hi).1
      refine hz2 H' (Ex.refl _) _ fun H4 e4 => ⟨zs.take i, e4 _ _ h.2, sz_lt (by rw [List.length_take]; omega), Ex.mut (h.1.trans e4) hD, ?_⟩
      rw [upd_same, take_snoc hz1]⟩)
    (fun H' h => q D H' (fresh_back e1 hD) (e1.trans h.1) (by rw [h.2, ← hz, List.take_length]))⟩
/-- over range(n) -/
theorem el_lcR {ta : TA} {n : Int} {j : Nat} (zs : List V) (h1 : EvA ta σ H [.int n]) (hn : -100000 ≤ n) (hz : zs.length = n.toNat) (hb : zs.length ≤ 50000) (hw : ∀ x, wipe ((wipe σ vs).set j (some x)) vs = wipe σ vs)
    (he : ∀ (i : Nat) H1, Ex H H1 → i < zs.length → ∃ z, zs[i]? = some z ∧ Ev te ((wipe σ vs).set j (some (.int (i : Int)))) H1 z) :
    EvL (tLc (iRng1 ta) (gName j) tYes te vs) σ H zs := fun H0 e Q q =>
  h1 H0 e _ fun H1 e1 => ⟨n, rfl, by omega, by omega, fun D hD => lc_range (lo := 0) (n := n.toNat) (fun i H' => Ex H1 H' ∧ H' D = some (.lst (zs.take i))) ⟨Ex.new hD, upd_same⟩
    (fun i H' hi h => by
      have e0 : (0 : Int) + (i : Int) = (i : Int) := Int.zero_add _
      rw [e0]
      obtain ⟨z, hz1, hz2⟩ := he i H' ((e.trans e1).trans h.1) (by omega)
      refine ⟨hw _, hz2 H' (Ex.refl _) _ fun H4 e4 => ⟨zs.take i, e4 _ _ h.2, sz_lt (by rw [List.length_take]; omega), Ex.mut (h.1.trans e4) hD, ?_⟩⟩
      rw [upd_same, take_snoc hz1])
    (fun H' h => q D H' (fresh_back e1 hD) (e1.trans h.1) (by rw [h.2, show n.toNat = zs.length by omega, List.take_length]))⟩
/-- y = [.. for x in f(..)], whatever f promises -/
theorem s_asgLC {sp : Sp} {dvs args : List V} {E : XK} {ta : TA} {g : TG} {tt : TT} {D : Ends} {i : Nat} (h : EvA ta σ H args) (k : ∀ H1, Ex H H1 → sp (args ++ dvs) H1 (fun x H2 => tAsg (tLc (iList K (tC x)) g tt te vs) (gName i) D σ H2) E) :
    tAsg (tLc (iList K (tCall sp dvs E ta)) g tt te vs) (gName i) D σ H := h H (Ex.refl H) _ fun H1 e => k H1 e
theorem q_asgLC {sp : Sp} {dvs args : List V} {E : XK} {ta : TA} {g : TG} {tt : TT} {D : Ends} {i : Nat} {tz : TS} (h : EvA ta σ H args) (k : ∀ H1, Ex H H1 → sp (args ++ dvs) H1 (fun x H2 => tSeq (tAsg (tLc (iList K (tC x)) g tt te vs) (gName i)) tz D σ H2) E) :
    tSeq (tAsg (tLc (iList K (tCall sp dvs E ta)) g tt te vs) (gName i)) tz D σ H := h H (Ex.refl H) _ fun H1 e => k H1 e
theorem s_retLC {sp : Sp} {dvs args : List V} {E : XK} {ta : TA} {g : TG} {tt : TT} {D : Ends} (h : EvA ta σ H args) (k : ∀ H1, Ex H H1 → sp (args ++ dvs) H1 (fun x H2 => tRet (tLc (iList K (tC x)) g tt te vs) D σ H2) E) :
    tRet (tLc (iList K (tCall sp dvs E ta)) g tt te vs) D σ H := h H (Ex.refl H) _ fun H1 e => k H1 e
end

/-! ### calls with keywords, defaults -/
theorem kwAllN {K : PySem.W.Frag} {D : Addr} : ∀ p ∈ ([] : List (Str × V)), ∃ u, PySem.W.nsIn K D p.1 = some (some u) ∧ RelV p.2 u := fun p hp => by cases hp
theorem kwAllC {K : PySem.W.Frag} {D : Addr} {q : Str × V} {l : List (Str × V)} (h : ∃ u, PySem.W.nsIn K D q.1 = some (some u) ∧ RelV q.2 u) (hl : ∀ p ∈ l, ∃ u, PySem.W.nsIn K D p.1 = some (some u) ∧ RelV p.2 u) : ∀ p ∈ q :: l, ∃ u, PySem.W.nsIn K D p.1 = some (some u) ∧ RelV p.2 u := fun p hp => by
  rcases List.mem_cons.mp hp with rfl | hp
  · exact h
  · exact hl p hp
theorem kwAll1 {K : PySem.W.Frag} {D : Addr} {q : Str × V} (h : ∃ u, PySem.W.nsIn K D q.1 = some (some u) ∧ RelV q.2 u) : ∀ p ∈ [q], ∃ u, PySem.W.nsIn K D p.1 = some (some u) ∧ RelV p.2 u := fun p hp => by
  rcases List.mem_cons.mp hp with rfl | hp
  · exact h
  · cases hp
section
variable {K : PySem.W.Frag} {x qual : Str} {params : Arguments} {body : List Stmt} {scope : Scope} {dvs : List V} {kws : List (Str × V)} {f : Addr} {fd : FuncData} {ps : List Str}
/-- f(a, .., k = v, ..), nothing left to a default, no defaults of place -/
theorem fund_kb0 {g : List Value → List Value → List Value} {gV : List V → List V → List V} (F : FunD K x qual params body scope [] kws f fd) (n : Nat) (ks : List Str)
    (hrel : ∀ {vs : List V} {us : List Value} {zs : List V} {ws : List Value}, Vals vs us → Vals zs ws → Vals (gV vs zs) (g us ws))
    (h : ∀ (kV doc pm : Value) (an : Option Addr) (cdv ct : Value) (us ws : List Value), us.length = n → ws.length = ks.length → bindArgs (PySem.W.fnOf x qual params body scope .none kV doc pm an cdv ct) ⟨us, ks.zip ws⟩ = pure (ps.zip (g us ws))) :
    KBn K fd ps n ks g gV := by
  obtain ⟨oc, od, dV, kV, doc, pm, an, cdv, ct, osl, rfl, lk, hcd, hD, hK⟩ := F.ex
  rcases hD with ⟨_, rfl⟩ | ⟨e, _⟩
  · exact ⟨fun s us ws X l1 l2 => .of_eq (h kV doc pm an cdv ct us ws l1 l2), hrel⟩
  · exact absurd rfl e
/-- the same of a def with defaults of place -/
theorem fund_kb1 {g : List Value → List Value → List Value} {gV : List V → List V → List V} (F : FunD K x qual params body scope dvs kws f fd) (hd : dvs ≠ []) (n : Nat) (ks : List Str)
    (hrel : ∀ {vs : List V} {us : List Value} {zs : List V} {ws : List Value}, Vals vs us → Vals zs ws → Vals (gV vs zs) (g us ws))
    (h : ∀ (T : Addr) (kV doc pm : Value) (an : Option Addr) (cdv ct : Value) (us its ws : List Value), us.length = n → its.length = dvs.length → ws.length = ks.length →
      ∃ k, bindArgs (PySem.W.fnOf x qual params body scope (.ref T) kV doc pm an cdv ct) ⟨us, ks.zip ws⟩ = seqItems? (.ref T) >>= k ∧ k (some its.toArray) = pure (ps.zip (g us ws))) :
    KBn K fd ps n ks g gV := by
  obtain ⟨oc, od, dV, kV, doc, pm, an, cdv, ct, osl, rfl, lk, hcd, hD, hK⟩ := F.ex
  rcases hD with ⟨e, _⟩ | ⟨_, T, o, its, m, rfl, lT, oT, rT⟩
  · exact absurd e hd
  · refine ⟨fun s us ws X l1 l2 => ?_, hrel⟩
    obtain ⟨k, e1, e2⟩ := h T kV doc pm an cdv ct us its ws l1 rT.length.symm l2
    refine BindsTo.of_looks fun M => ?_
    rw [e1]
    exact looks_items X lT oT (.of_pure e2)
end

/-! ### data at any depth -/
mutual
theorem dp_ex {K : PySem.W.Frag} {H H' : Hp} (e : Ex H H') : ∀ (d : PyData) (v : V), Dp K H v d → Dp K H' v d
  | .none, _, h => by cases h; exact .non
  | .bool b, _, h => by cases h; exact .bl b
  | .int i, _, h => by cases h; exact .int i
  | .str x, _, h => by cases h; exact .str x
  | .list ds, _, h => by cases h with | lst hs ha => exact .lst (ex_l e hs) (dpa_ex e ds _ ha)
  | .tuple ds, _, h => by cases h with | tup hs ha => exact .tup (ex_t e hs) (dpa_ex e ds _ ha)
  | .dict _, _, h => by cases h
theorem dpa_ex {K : PySem.W.Frag} {H H' : Hp} (e : Ex H H') : ∀ (ds : List PyData) (vs : List V), DpAll K H vs ds → DpAll K H' vs ds
  | [], _, h => by cases h; exact .nil
  | d :: ds, _, h => by cases h with | cons h1 h2 => exact .cons (dp_ex e d _ h1) (dpa_ex e ds _ h2)
end
def EvD (K : PySem.W.Frag) (te : TE) (σ : L2.St) (H : Hp) (d : PyData) : Prop := ∀ H1, Ex H H1 → ∀ Q : VK, (∀ v H2, Ex H1 H2 → Dp K H2 v d → Q v H2) → te σ H1 Q
section
variable {K : PySem.W.Frag} {σ : L2.St} {H : Hp} {te ta tb t1 t2 t3 : TE} {d d1 d2 d3 : PyData} {v : V}
theorem EvD.of (h : Ev te σ H v) (hd : Dp K H v d) : EvD K te σ H d := fun H1 e Q q => h H1 e _ fun H2 e2 => q v H2 e2 (dp_ex (e.trans e2) d v hd)
theorem EvS.toD {ns : List Int} (h : EvS K te σ H (ns.map V.int)) : EvD K te σ H (.list (ns.map .int)) := fun H1 e Q q => h H1 e _ fun p H2 e2 hp => q (.ref p) H2 e2 (.lst hp (dp_ints ns))
theorem ed_tup2 (h1 : EvD K t1 σ H d1) (h2 : EvD K t2 σ H d2) : EvD K (tTup (tCons t1 (tCons t2 tNil))) σ H (.tuple [d1, d2]) := fun H1 e Q q => h1 H1 e _ fun v H2 e2 hv => h2 H2 (e.trans e2) _ fun u H3 e3 hu =>
  ⟨sz_of (show 2 ≤ 100000 by decide), fun p hp => q (.ref p) _ ((e2.trans e3).trans (Ex.new hp)) (.tup (st_of upd_same) (.cons (dp_ex (e3.trans (Ex.new hp)) _ _ hv) (.cons (dp_ex (Ex.new hp) _ _ hu) .nil)))⟩
theorem ev_eqDD (h1 : EvD K ta σ H d) (h2 : EvD K tb σ H d) (hs : SeqAt.shaped d = true) : Ev (tOp (rEqD K) ta tb) σ H (.bl true) := fun H1 e Q q => h1 H1 e _ fun v H2 e2 hv => h2 H2 (e.trans e2) _ fun u H3 e3 hu =>
  ⟨d, d, dp_ex e3 d v hv, hu, hs, hs, by rw [SeqAt.eqv_refl d (SeqAt.canLay_of_shaped hs)]; exact q H3 (e2.trans e3)⟩
theorem ev_neDD (h1 : EvD K ta σ H d) (h2 : EvD K tb σ H d) (hs : SeqAt.shaped d = true) : Ev (tOp (rNeD K) ta tb) σ H (.bl false) := fun H1 e Q q => h1 H1 e _ fun v H2 e2 hv => h2 H2 (e.trans e2) _ fun u H3 e3 hu =>
  ⟨d, d, dp_ex e3 d v hv, hu, hs, hs, by rw [SeqAt.eqv_refl d (SeqAt.canLay_of_shaped hs)]; exact q H3 (e2.trans e3)⟩
end
theorem shaped_pair (ns ms : List Int) : SeqAt.shaped (.tuple [.list (ns.map .int), .list (ms.map .int)]) = true := by
  unfold SeqAt.shaped
  have h1 := canLay_ints ns
  have h2 := depth_ints ns
  have h3 := canLay_ints ms
  have h4 := depth_ints ms
  rw [Bool.and_eq_true, decide_eq_true_iff]
  refine ⟨by simp only [PyData.canLay0, PyData.canLayAll0, h1, h3, Bool.and_self], ?_⟩
  simp only [PyData.depth, PyData.depthAll]
  omega

/-! ### max(xs, default=d), bit_length -/
def maxI (d : Int) : List Int → Int
  | [] => d
  | n :: r => r.foldl max n
def rMaxDef (K : PySem.W.Frag) : List V → List V → Hp → VK → Prop := fun vs zs H Q => ∃ (a : Addr) (ns : List Int) (d : Int), vs = [.ref a] ∧ zs = [.int d] ∧ SqL K H a (ns.map V.int) ∧ Q (.int (maxI d ns)) H
theorem alike_ints (ns : List Int) : PySem.W.AlikeAll (ns.map PyData.int) := by
  refine ⟨fun x hx y hy => ?_, fun x hx => ?_⟩
  · obtain ⟨n, _, rfl⟩ := List.mem_map.mp hx
    obtain ⟨m, _, rfl⟩ := List.mem_map.mp hy
    rfl
  · obtain ⟨n, _, rfl⟩ := List.mem_map.mp hx
    intro h
    cases h
theorem cr_maxDef {X : Cx} (hu : X.A.units + 64 < cLine) (hc : X.calm = true := by rfl) : CallRK X (.builtin "max") [Str.ofString "default"] (rMaxDef X.K) := by
  intro pins s σ H vs zs us ws Q I r rz h
  obtain ⟨a, ns, d, rfl, rfl, hs, q⟩ := h
  obtain rfl := Vals.ref1 r
  obtain ⟨w1, rfl, e1⟩ := vals1 rz
  obtain ⟨its, rv, hl, _⟩ := I.list hs
  obtain ⟨as, hr⟩ := Dp.readsAll I (ns.map PyData.int) _ its (dp_ints ns) rv
  have hd := depth_ints ns
  refine PySem.W.max_list_default (xs := ns.map PyData.int) (I.ok.hd hc) hl.isList (by simpa using hr) (alike_ints ns) (by omega) (fun h0 h' tk hk => ?_) fun y ys i v h' tk bs he hv hrd hk => ?_
  · cases ns with
    | nil => exact ⟨.int d, H, I.kept hk, e1, q⟩
    | cons x r => cases h0
  · cases ns with
    | nil => cases he
    | cons x r =>
      injection he with h1 h2
      subst h1 h2
      rw [PySem.W.maxD_ints] at hrd
      cases hrd
      exact ⟨.int _, H, I.kept hk, ⟨_, rfl⟩, q⟩
theorem ev_maxD {K : PySem.W.Frag} {σ : L2.St} {H : Hp} {t td : TE} {ns : List Int} {d : Int} (h : EvS K t σ H (ns.map V.int)) (hd : Ev td σ H (.int d)) : Ev (tCKw (rMaxDef K) (tCons t tNil) (tCons td tNil)) σ H (.int (maxI d ns)) := fun H1 e Q q =>
  h H1 e _ fun p H2 e2 hp => hd H2 (e.trans e2) _ fun H3 e3 => ⟨p, ns, d, rfl, rfl, ex_l e3 hp, q H3 (e2.trans e3)⟩
theorem ev_bits {σ : L2.St} {H : Hp} {to : TE} {i : Int} (h : Ev to σ H (.int i)) : Ev (tBits to) σ H (.int ((Builtin.Int.intBits i : Nat) : Int)) := fun H1 e Q q => h H1 e _ fun H2 e2 => ⟨i, rfl, q H2 e2⟩

theorem foldl_max : ∀ (ns : List Int) (d : Int), (ns.foldl max d = d ∨ ns.foldl max d ∈ ns) ∧ d ≤ ns.foldl max d ∧ ∀ n ∈ ns, n ≤ ns.foldl max d
  | [], d => ⟨.inl rfl, Int.le_refl _, fun n hn => by cases hn⟩
  | x :: r, d => by
    obtain ⟨h1, h2, h3⟩ := foldl_max r (max d x)
    show (r.foldl max (max d x) = d ∨ r.foldl max (max d x) ∈ x :: r) ∧ d ≤ r.foldl max (max d x) ∧ ∀ n ∈ x :: r, n ≤ r.foldl max (max d x)
    refine ⟨?_, by omega, fun n hn => ?_⟩
    · rcases h1 with h | h
      · rw [h]
        by_cases hd : d ≤ x
        · exact .inr (by rw [Int.max_eq_right hd]; exact List.mem_cons_self ..)
        · exact .inl (by omega)
      · exact .inr (List.mem_cons_of_mem _ h)
    · rcases List.mem_cons.mp hn with rfl | hn
      · omega
      · exact h3 n hn

/-! ### min of a list of pairs of numbers -/
def pairD (q : Int × Int) : PyData := .tuple [.int q.1, .int q.2]
def minP (p : Int × Int) (ps : List (Int × Int)) : Int × Int := ps.foldl (fun a y => if y.1 < a.1 ∨ (y.1 = a.1 ∧ y.2 < a.2) then y else a) p
theorem minD_pairs (p : Int × Int) (ps : List (Int × Int)) : PySem.W.minD (pairD p) (ps.map pairD) = pairD (minP p ps) := by
  have h := PySem.W.minD_map (α := Int × Int) p ps
  have e : PySem.W.minOf p ps = minP p ps := by
    unfold PySem.W.minOf minP
    congr 1
    funext a y
    show (if (if y.1 = a.1 then decide (y.2 < a.2) else decide (y.1 < a.1)) = true then y else a) = _
    by_cases h : y.1 = a.1
    · rw [if_pos h]
      by_cases h2 : y.2 < a.2
      · rw [if_pos (decide_eq_true h2), if_pos (.inr ⟨h, h2⟩)]
      · rw [if_neg (by rw [decide_eq_false h2]; decide), if_neg (fun z => z.elim (fun z => by omega) fun z => h2 z.2)]
    · rw [if_neg h]
      by_cases h2 : y.1 < a.1
      · rw [if_pos (decide_eq_true h2), if_pos (.inl h2)]
      · rw [if_neg (by rw [decide_eq_false h2]; decide), if_neg (fun z => z.elim h2 fun z => h z.1)]
  rw [e] at h
  exact h
def rMinP (K : PySem.W.Frag) : List V → Hp → VK → Prop := fun vs H Q => ∃ (a : Addr) (xs : List V) (p : Int × Int) (ps : List (Int × Int)), vs = [.ref a] ∧ SqL K H a xs ∧ DpAll K H xs ((p :: ps).map pairD) ∧ ∀ v, Dp K H v (pairD (minP p ps)) → Q v H
theorem depth_pairs : ∀ ps : List (Int × Int), PyData.depthAll (ps.map pairD) ≤ 3
  | [] => by simp [PyData.depthAll]
  | f :: r => by
    show PyData.depthAll (pairD f :: r.map pairD) ≤ 3
    have := depth_pairs r
    simp only [pairD, PyData.depthAll, PyData.depth] at *
    omega
theorem dpAll_at {K : PySem.W.Frag} {H : Hp} : ∀ {xs : List V} {ds : List PyData}, DpAll K H xs ds → ∀ (i : Nat) (x : V), xs[i]? = some x → ∃ d, ds[i]? = some d ∧ Dp K H x d
  | [], _, _, i, x, hx => by simp at hx
  | y :: xs, ds, h, i, x, hx => by
    cases h with
    | cons h1 h2 =>
      cases i with
      | zero => cases hx; exact ⟨_, rfl, h1⟩
      | succ i => exact dpAll_at h2 i x hx
theorem cr_minP {X : Cx} (hu : X.A.units + 64 < cLine) (hc : X.calm = true) : CallR X (.builtin "min") (rMinP X.K) := by
  intro pins s σ H vs us Q I r h
  obtain ⟨a, xs, p, ps, rfl, hs, hd, q⟩ := h
  obtain ⟨its, rv, hl, _⟩ := I.list hs
  rw [Vals.ref1 r]
  obtain ⟨as, hr⟩ := Dp.readsAll I _ _ its hd rv
  have hdep := depth_pairs (p :: ps)
  refine PySem.W.min_list_data (x := pairD p) (xs := ps.map pairD) (I.ok.hd hc) hl.isList (by simpa using hr) (PySem.W.alikeAll_datum (α := Int × Int) (p :: ps)) (by rw [List.map_cons] at hdep; omega) fun i v h' tk bs hv hrd hk => ?_
  have hv2 : its[i]? = some v := by simpa using hv
  have hlen := rv.length
  have hi := (List.getElem?_eq_some_iff.mp hv2).1
  have hx : xs[i]? = some xs[i] := List.getElem?_eq_getElem (by omega)
  obtain ⟨u, hu1, hu2⟩ := Vals.get rv hx
  rw [hv2] at hu1
  cases hu1
  obtain ⟨d, hd1, hd2⟩ := dpAll_at hd i _ hx
  have I2 : Inv X pins σ H { s with heap := h', toks := tk } := I.kept hk
  obtain ⟨bs2, hrd2⟩ := Dp.reads I2 d _ _ hd2 hu2
  have he := (Reads.unique hrd2 _ _ hrd).1
  rw [minD_pairs] at he
  rw [he] at hd2
  exact ⟨_, H, I2, hu2, q _ hd2⟩

/-! ### min of a list of quadruples (bits, method, order, codings) -/
structure Qd where
  b : Int
  m : Nat
  p : Nat
  cs : List (Str × Int)
def codD (c : Str × Int) : PyData := .tuple [.str c.1, .int c.2]
def quadD (x : Qd) : PyData := .tuple [.int x.b, .int (x.m : Int), .int (x.p : Int), .tuple (x.cs.map codD)]
def ltQ (x y : Qd) : Prop := x.b < y.b ∨ (x.b = y.b ∧ (x.m < y.m ∨ (x.m = y.m ∧ x.p < y.p)))
instance (x y : Qd) : Decidable (ltQ x y) := inferInstanceAs (Decidable (_ ∨ _))
def difQ (x y : Qd) : Prop := ¬ (x.m = y.m ∧ x.p = y.p)
theorem toks_q (x : Qd) : PySem.W.keyToks (quadD x) = .inl 1 :: .inl x.b :: .inl 1 :: .inl (x.m : Int) :: .inl 1 :: .inl (x.p : Int) :: .inl 1 :: (PySem.W.keyToks (.tuple (x.cs.map codD)) ++ [.inl 0]) := rfl
theorem lex_eq {a : Int} {r t : List (Int ⊕ List Nat)} : PyProof.Rows.lexLt PyProof.Rows.itemOrd (.inl a :: r) (.inl a :: t) = PyProof.Rows.lexLt PyProof.Rows.itemOrd r t := by
  show (decide (a < a) || !decide (a < a) && PyProof.Rows.lexLt PyProof.Rows.itemOrd r t) = _
  rw [decide_eq_false (by omega)]
  rfl
theorem lex_ne {a b : Int} {r t : List (Int ⊕ List Nat)} (h : a ≠ b) : PyProof.Rows.lexLt PyProof.Rows.itemOrd (.inl a :: r) (.inl b :: t) = decide (a < b) := by
  show (decide (a < b) || !decide (b < a) && PyProof.Rows.lexLt PyProof.Rows.itemOrd r t) = _
  by_cases h1 : a < b
  · rw [decide_eq_true h1]
    rfl
  · rw [decide_eq_false h1, decide_eq_true (show b < a by omega)]
    rfl
theorem lt_q {x y : Qd} (h : difQ x y) : PySem.W.dataLt (quadD x) (quadD y) = decide (ltQ x y) := by
  unfold difQ at h
  unfold PySem.W.dataLt
  rw [toks_q, toks_q, lex_eq]
  by_cases h1 : x.b = y.b
  · rw [h1, lex_eq, lex_eq]
    by_cases h2 : x.m = y.m
    · rw [h2, lex_eq, lex_eq, lex_ne (by omega)]
      unfold ltQ
      exact decide_eq_decide.mpr (by omega)
    · rw [lex_ne (by omega)]
      unfold ltQ
      exact decide_eq_decide.mpr (by omega)
  · rw [lex_ne h1]
    unfold ltQ
    exact decide_eq_decide.mpr (by omega)
theorem minD_q : ∀ (qs : List Qd) (q : Qd), (q :: qs).Pairwise difQ → ∃ z, z ∈ q :: qs ∧ (∀ y ∈ q :: qs, ¬ ltQ y z) ∧ PySem.W.minD (quadD q) (qs.map quadD) = quadD z
  | [], q, _ => ⟨q, List.mem_singleton.mpr rfl, fun y hy => by rw [List.mem_singleton.mp hy]; unfold ltQ; omega, rfl⟩
  | y :: r, q, h => by
    obtain ⟨h1, h2⟩ := List.pairwise_cons.mp h
    obtain ⟨h3, h4⟩ := List.pairwise_cons.mp h2
    have hd : difQ y q := fun z => h1 y (List.mem_cons_self ..) ⟨z.1.symm, z.2.symm⟩
    have hst : PySem.W.minD (quadD q) ((y :: r).map quadD) = PySem.W.minD (if PySem.W.dataLt (quadD y) (quadD q) = true then quadD y else quadD q) (r.map quadD) := rfl
    rw [hst, lt_q hd]
    by_cases hl : ltQ y q
    · rw [if_pos (decide_eq_true hl)]
      obtain ⟨z, hz, hm, he⟩ := minD_q r y h2
      refine ⟨z, List.mem_cons_of_mem _ hz, fun u hu => ?_, he⟩
      rcases List.mem_cons.mp hu with rfl | hu
      · have := hm y (List.mem_cons_self ..)
        unfold ltQ at *
        omega
      · exact hm u hu
    · rw [if_neg (by rw [decide_eq_false hl]; decide)]
      obtain ⟨z, hz, hm, he⟩ := minD_q r q (List.pairwise_cons.mpr ⟨fun u hu => h1 u (List.mem_cons_of_mem _ hu), h4⟩)
      refine ⟨z, ?_, fun u hu => ?_, he⟩
      · rcases List.mem_cons.mp hz with rfl | hz
        · exact List.mem_cons_self ..
        · exact List.mem_cons_of_mem _ (List.mem_cons_of_mem _ hz)
      · rcases List.mem_cons.mp hu with rfl | hu
        · exact hm _ (List.mem_cons_self ..)
        · rcases List.mem_cons.mp hu with rfl | hu
          · have := hm q (List.mem_cons_self ..)
            unfold ltQ at *
            omega
          · exact hm u (List.mem_cons_of_mem _ hu)
theorem alike_cods : ∀ xs ys : List (Str × Int), PySem.W.alikeAll (xs.map codD) (ys.map codD) = true
  | [], _ => rfl
  | _ :: _, [] => rfl
  | _ :: xs, _ :: ys => by
    show (true && PySem.W.alikeAll (xs.map codD) (ys.map codD)) = true
    rw [alike_cods xs ys]
    rfl
theorem alike_q (x y : Qd) : PySem.W.alike (quadD x) (quadD y) = true := by
  show (true && (true && (true && (PySem.W.alikeAll (x.cs.map codD) (y.cs.map codD) && true)))) = true
  rw [alike_cods]
  rfl
theorem depth_cods : ∀ cs : List (Str × Int), PyData.depthAll (cs.map codD) ≤ 2
  | [] => by simp [PyData.depthAll]
  | c :: r => by
    show PyData.depthAll (codD c :: r.map codD) ≤ 2
    have := depth_cods r
    simp only [codD, PyData.depthAll, PyData.depth] at *
    omega
theorem depth_qs : ∀ qs : List Qd, PyData.depthAll (qs.map quadD) ≤ 5
  | [] => by simp [PyData.depthAll]
  | c :: r => by
    show PyData.depthAll (quadD c :: r.map quadD) ≤ 5
    have := depth_qs r
    have := depth_cods c.cs
    simp only [quadD, PyData.depthAll, PyData.depth] at *
    omega
def rMinQ (K : PySem.W.Frag) : List V → Hp → VK → Prop := fun vs H Q => ∃ (a : Addr) (xs : List V) (q : Qd) (qs : List Qd), vs = [.ref a] ∧ SqL K H a xs ∧ DpAll K H xs ((q :: qs).map quadD) ∧ (q :: qs).Pairwise difQ ∧ ∀ (i : Nat) v y, xs[i]? = some v → (q :: qs)[i]? = some y → (∀ u ∈ q :: qs, ¬ ltQ u y) → Q v H
theorem cr_minQ {X : Cx} (hu : X.A.units + 64 < cLine) (hc : X.calm = true) : CallR X (.builtin "min") (rMinQ X.K) := by
  intro pins s σ H vs us Q I r h
  obtain ⟨a, xs, p, ps, rfl, hs, hd, hp, q⟩ := h
  obtain ⟨its, rv, hl, _⟩ := I.list hs
  rw [Vals.ref1 r]
  obtain ⟨as, hr⟩ := Dp.readsAll I _ _ its hd rv
  have hdep := depth_qs (p :: ps)
  refine PySem.W.min_list_data (x := quadD p) (xs := ps.map quadD) (I.ok.hd hc) hl.isList (by simpa using hr) ⟨fun x hx y hy => ?_, fun x hx => ?_⟩ (by rw [List.map_cons] at hdep; omega) fun i v h' tk bs hv hrd hk => ?_
  · rw [← List.map_cons] at hx hy
    obtain ⟨x', _, rfl⟩ := List.mem_map.mp hx
    obtain ⟨y', _, rfl⟩ := List.mem_map.mp hy
    exact alike_q x' y'
  · rw [← List.map_cons] at hx
    obtain ⟨x', _, rfl⟩ := List.mem_map.mp hx
    intro z
    cases z
  have hv2 : its[i]? = some v := by simpa using hv
  have hlen := rv.length
  have hi := (List.getElem?_eq_some_iff.mp hv2).1
  have hx : xs[i]? = some xs[i] := List.getElem?_eq_getElem (by omega)
  obtain ⟨u, hu1, hu2⟩ := Vals.get rv hx
  rw [hv2] at hu1
  cases hu1
  obtain ⟨d, hd1, hd2⟩ := dpAll_at hd i _ hx
  have I2 : Inv X pins σ H { s with heap := h', toks := tk } := I.kept hk
  obtain ⟨bs2, hrd2⟩ := Dp.reads I2 d _ _ hd2 hu2
  have he := (Reads.unique hrd2 _ _ hrd).1
  obtain ⟨z, hz, hm, hq⟩ := minD_q ps p hp
  rw [hq] at he
  rw [List.getElem?_map] at hd1
  obtain ⟨y, hy, rfl⟩ := Option.map_eq_some_iff.mp hd1
  refine ⟨_, H, I2, hu2, q i _ y hx hy fun u hu => ?_⟩
  have h1 := hm u hu
  unfold quadD at he
  injection he with he
  injection he with e1 he
  injection he with e2 he
  injection he with e3 he
  injection e1 with e1
  injection e2 with e2
  injection e3 with e3
  unfold ltQ at h1 ⊢
  omega

/-- what the top has left -/
structure TX (K : PySem.W.Frag) (mg : Str → Option Value) where
  a_fold : Addr
  d_fold : FuncData
  F_fold : Fun K "fold" "fold" s_fold a_fold d_fold
  b_fold : Binds K d_fold ["n"] []
  g_fold : mg "fold" = some (.ref a_fold)
  a_unfold : Addr
  d_unfold : FuncData
  F_unfold : Fun K "unfold" "unfold" s_unfold a_unfold d_unfold
  b_unfold : Binds K d_unfold ["u"] []
  g_unfold : mg "unfold" = some (.ref a_unfold)
  a_write_code : Addr
  d_write_code : FuncData
  F_write_code : Fun K "write_code" "write_code" s_write_code a_write_code d_write_code
  b_write_code : Binds K d_write_code ["writer", "k", "n"] []
  g_write_code : mg "write_code" = some (.ref a_write_code)
  a_read_code : Addr
  d_read_code : FuncData
  F_read_code : Fun K "read_code" "read_code" s_read_code a_read_code d_read_code
  b_read_code : Binds K d_read_code ["reader", "k"] []
  g_read_code : mg "read_code" = some (.ref a_read_code)
  a_legal_partition_order : Addr
  d_legal_partition_order : FuncData
  F_legal_partition_order : Fun K "legal_partition_order" "legal_partition_order" s_legal_partition_order a_legal_partition_order d_legal_partition_order
  b_legal_partition_order : Binds K d_legal_partition_order ["size", "order", "partition_order"] []
  g_legal_partition_order : mg "legal_partition_order" = some (.ref a_legal_partition_order)
  a_partition_sizes : Addr
  d_partition_sizes : FuncData
  F_partition_sizes : Fun K "partition_sizes" "partition_sizes" s_partition_sizes a_partition_sizes d_partition_sizes
  b_partition_sizes : Binds K d_partition_sizes ["size", "order", "partition_order"] []
  g_partition_sizes : mg "partition_sizes" = some (.ref a_partition_sizes)
  a_write_residuals : Addr
  d_write_residuals : FuncData
  F_write_residuals : Fun K "write_residuals" "write_residuals" s_write_residuals a_write_residuals d_write_residuals
  b_write_residuals : Binds K d_write_residuals ["writer", "plan", "residuals", "order"] []
  g_write_residuals : mg "write_residuals" = some (.ref a_write_residuals)
  a_read_residuals : Addr
  d_read_residuals : FuncData
  F_read_residuals : Fun K "read_residuals" "read_residuals" s_read_residuals a_read_residuals d_read_residuals
  b_read_residuals : Binds K d_read_residuals ["reader", "size", "order"] []
  g_read_residuals : mg "read_residuals" = some (.ref a_read_residuals)
  a_parts : Addr
  d_parts : FuncData
  F_parts : Fun K "_parts" "_parts" s_parts a_parts d_parts
  b_parts : Binds K d_parts ["residuals", "order", "partition_order"] []
  g_parts : mg "_parts" = some (.ref a_parts)
  a_coding_width : Addr
  d_coding_width : FuncData
  F_coding_width : Fun K "_coding_width" "_coding_width" s_coding_width a_coding_width d_coding_width
  b_coding_width : Binds K d_coding_width ["method"] []
  g_coding_width : mg "_coding_width" = some (.ref a_coding_width)
  a_raw_mark : Addr
  d_raw_mark : FuncData
  F_raw_mark : Fun K "_raw_mark" "_raw_mark" s_raw_mark a_raw_mark d_raw_mark
  b_raw_mark : Binds K d_raw_mark ["method"] []
  g_raw_mark : mg "_raw_mark" = some (.ref a_raw_mark)
  a_write_coding : Addr
  d_write_coding : FuncData
  F_write_coding : Fun K "_write_coding" "_write_coding" s_write_coding a_write_coding d_write_coding
  b_write_coding : Binds K d_write_coding ["writer", "method", "coding"] []
  g_write_coding : mg "_write_coding" = some (.ref a_write_coding)
  a_write_part : Addr
  d_write_part : FuncData
  F_write_part : Fun K "_write_part" "_write_part" s_write_part a_write_part d_write_part
  b_write_part : Binds K d_write_part ["writer", "coding", "part"] []
  g_write_part : mg "_write_part" = some (.ref a_write_part)
  a_read_method : Addr
  d_read_method : FuncData
  F_read_method : Fun K "_read_method" "_read_method" s_read_method a_read_method d_read_method
  b_read_method : Binds K d_read_method ["reader"] []
  g_read_method : mg "_read_method" = some (.ref a_read_method)
  a_read_partition_order : Addr
  d_read_partition_order : FuncData
  F_read_partition_order : Fun K "_read_partition_order" "_read_partition_order" s_read_partition_order a_read_partition_order d_read_partition_order
  b_read_partition_order : Binds K d_read_partition_order ["reader", "size", "order"] []
  g_read_partition_order : mg "_read_partition_order" = some (.ref a_read_partition_order)
  a_read_coding : Addr
  d_read_coding : FuncData
  F_read_coding : Fun K "_read_coding" "_read_coding" s_read_coding a_read_coding d_read_coding
  b_read_coding : Binds K d_read_coding ["reader", "method"] []
  g_read_coding : mg "_read_coding" = some (.ref a_read_coding)
  a_read_part : Addr
  d_read_part : FuncData
  F_read_part : Fun K "_read_part" "_read_part" s_read_part a_read_part d_read_part
  b_read_part : Binds K d_read_part ["reader", "coding", "count"] []
  g_read_part : mg "_read_part" = some (.ref a_read_part)
  a_read_residual : Addr
  d_read_residual : FuncData
  F_read_residual : Fun K "_read_residual" "_read_residual" s_read_residual a_read_residual d_read_residual
  b_read_residual : Binds K d_read_residual ["reader", "k"] []
  g_read_residual : mg "_read_residual" = some (.ref a_read_residual)
  a_best_coding : Addr
  d_best_coding : FuncData
  F_best_coding : FunD K "best_coding" "best_coding" (defArgs s_best_coding) (defBody s_best_coding) (defScope s_best_coding) [] [] a_best_coding d_best_coding
  k2_highest_wide_best_coding : KBn K d_best_coding ["residuals", "order", "highest", "wide"] 2 ["highest", "wide"] (fun us ws => us ++ ws) (fun us ws => us ++ ws)
  g_best_coding : mg "best_coding" = some (.ref a_best_coding)
  a_width : Addr
  d_width : FuncData
  F_width : Fun K "_width" "_width" s_width a_width d_width
  b_width : Binds K d_width ["folded"] []
  g_width : mg "_width" = some (.ref a_width)
  a_measured : Addr
  d_measured : FuncData
  F_measured : Fun K "_measured" "_measured" s_measured a_measured d_measured
  b_measured : Binds K d_measured ["residuals"] []
  g_measured : mg "_measured" = some (.ref a_measured)
  a_measured_parts : Addr
  d_measured_parts : FuncData
  F_measured_parts : Fun K "_measured_parts" "_measured_parts" s_measured_parts a_measured_parts d_measured_parts
  b_measured_parts : Binds K d_measured_parts ["residuals", "sizes"] []
  g_measured_parts : mg "_measured_parts" = some (.ref a_measured_parts)
  a_joined_in_pairs : Addr
  d_joined_in_pairs : FuncData
  F_joined_in_pairs : Fun K "_joined_in_pairs" "_joined_in_pairs" s_joined_in_pairs a_joined_in_pairs d_joined_in_pairs
  b_joined_in_pairs : Binds K d_joined_in_pairs ["parts"] []
  g_joined_in_pairs : mg "_joined_in_pairs" = some (.ref a_joined_in_pairs)
  a_joined : Addr
  d_joined : FuncData
  F_joined : Fun K "_joined" "_joined" s_joined a_joined d_joined
  b_joined : Binds K d_joined ["part", "other"] []
  g_joined : mg "_joined" = some (.ref a_joined)
  a_entry : Addr
  d_entry : FuncData
  F_entry : Fun K "_entry" "_entry" s_entry a_entry d_entry
  b_entry : Binds K d_entry ["part", "method"] []
  g_entry : mg "_entry" = some (.ref a_entry)
  a_entries : Addr
  d_entries : FuncData
  F_entries : Fun K "_entries" "_entries" s_entries a_entries d_entries
  b_entries : Binds K d_entries ["parts", "method"] []
  g_entries : mg "_entries" = some (.ref a_entries)
  a_BitWriter_init : Addr
  d_BitWriter_init : FuncData
  F_BitWriter_init : Fun K "__init__" "BitWriter.__init__" s_BitWriter_init a_BitWriter_init d_BitWriter_init
  b_BitWriter_init : Binds K d_BitWriter_init ["self"] []
  a_BitWriter_write : Addr
  d_BitWriter_write : FuncData
  F_BitWriter_write : Fun K "write" "BitWriter.write" s_BitWriter_write a_BitWriter_write d_BitWriter_write
  b_BitWriter_write : Binds K d_BitWriter_write ["self", "width", "value"] []
  a_BitWriter_write_signed : Addr
  d_BitWriter_write_signed : FuncData
  F_BitWriter_write_signed : Fun K "write_signed" "BitWriter.write_signed" s_BitWriter_write_signed a_BitWriter_write_signed d_BitWriter_write_signed
  b_BitWriter_write_signed : Binds K d_BitWriter_write_signed ["self", "width", "value"] []
  a_BitWriter_write_unary : Addr
  d_BitWriter_write_unary : FuncData
  F_BitWriter_write_unary : Fun K "write_unary" "BitWriter.write_unary" s_BitWriter_write_unary a_BitWriter_write_unary d_BitWriter_write_unary
  b_BitWriter_write_unary : Binds K d_BitWriter_write_unary ["self", "count"] []
  a_BitWriter_pad : Addr
  d_BitWriter_pad : FuncData
  F_BitWriter_pad : Fun K "pad" "BitWriter.pad" s_BitWriter_pad a_BitWriter_pad d_BitWriter_pad
  b_BitWriter_pad : Binds K d_BitWriter_pad ["self"] []
  a_BitWriter_byte_list : Addr
  d_BitWriter_byte_list : FuncData
  F_BitWriter_byte_list : Fun K "byte_list" "BitWriter.byte_list" s_BitWriter_byte_list a_BitWriter_byte_list d_BitWriter_byte_list
  b_BitWriter_byte_list : Binds K d_BitWriter_byte_list ["self"] []
  a_BitWriter_bits_written : Addr
  d_BitWriter_bits_written : FuncData
  F_BitWriter_bits_written : Fun K "bits_written" "BitWriter.bits_written" s_BitWriter_bits_written a_BitWriter_bits_written d_BitWriter_bits_written
  b_BitWriter_bits_written : Binds K d_BitWriter_bits_written ["self"] []
  a_BitReader_init : Addr
  d_BitReader_init : FuncData
  F_BitReader_init : FunD K "__init__" "BitReader.__init__" (defArgs s_BitReader_init) (defBody s_BitReader_init) (defScope s_BitReader_init) [V.int 0] [] a_BitReader_init d_BitReader_init
  e2_BitReader_init : List Value
  v2_BitReader_init : Vals [V.int 0] e2_BitReader_init
  b2_BitReader_init : Binds K d_BitReader_init ["self", "data", "at"] e2_BitReader_init
  a_BitReader_read : Addr
  d_BitReader_read : FuncData
  F_BitReader_read : Fun K "read" "BitReader.read" s_BitReader_read a_BitReader_read d_BitReader_read
  b_BitReader_read : Binds K d_BitReader_read ["self", "width"] []
  a_BitReader_read_signed : Addr
  d_BitReader_read_signed : FuncData
  F_BitReader_read_signed : Fun K "read_signed" "BitReader.read_signed" s_BitReader_read_signed a_BitReader_read_signed d_BitReader_read_signed
  b_BitReader_read_signed : Binds K d_BitReader_read_signed ["self", "width"] []
  a_BitReader_read_unary : Addr
  d_BitReader_read_unary : FuncData
  F_BitReader_read_unary : Fun K "read_unary" "BitReader.read_unary" s_BitReader_read_unary a_BitReader_read_unary d_BitReader_read_unary
  b_BitReader_read_unary : Binds K d_BitReader_read_unary ["self"] []
  a_BitReader_rest_of_byte : Addr
  d_BitReader_rest_of_byte : FuncData
  F_BitReader_rest_of_byte : Fun K "_rest_of_byte" "BitReader._rest_of_byte" s_BitReader_rest_of_byte a_BitReader_rest_of_byte d_BitReader_rest_of_byte
  b_BitReader_rest_of_byte : Binds K d_BitReader_rest_of_byte ["self"] []
  a_BitReader_byte_place : Addr
  d_BitReader_byte_place : FuncData
  F_BitReader_byte_place : Fun K "byte_place" "BitReader.byte_place" s_BitReader_byte_place a_BitReader_byte_place d_BitReader_byte_place
  b_BitReader_byte_place : Binds K d_BitReader_byte_place ["self"] []
  a_law_cell : Addr
  d_law_cell : FuncData
  F_law_cell : Fun K "_law_cell" "_law_cell" s_law_cell a_law_cell d_law_cell
  b_law_cell : Binds K d_law_cell ["script", "k"] []
  g_law_cell : mg "_law_cell" = some (.ref a_law_cell)
  a_law_integer : Addr
  d_law_integer : FuncData
  F_law_integer : Fun K "_law_integer" "_law_integer" s_law_integer a_law_integer d_law_integer
  b_law_integer : Binds K d_law_integer ["value"] []
  g_law_integer : mg "_law_integer" = some (.ref a_law_integer)
  a_law_integers : Addr
  d_law_integers : FuncData
  F_law_integers : Fun K "_law_integers" "_law_integers" s_law_integers a_law_integers d_law_integers
  b_law_integers : Binds K d_law_integers ["values"] []
  g_law_integers : mg "_law_integers" = some (.ref a_law_integers)
  a_law_row : Addr
  d_law_row : FuncData
  F_law_row : Fun K "_law_row" "_law_row" s_law_row a_law_row d_law_row
  b_law_row : Binds K d_law_row ["cell", "count", "bound"] []
  g_law_row : mg "_law_row" = some (.ref a_law_row)
  a_law_residuals : Addr
  d_law_residuals : FuncData
  F_law_residuals : Fun K "_law_residuals" "_law_residuals" s_law_residuals a_law_residuals d_law_residuals
  b_law_residuals : Binds K d_law_residuals ["cell", "count", "shape"] []
  g_law_residuals : mg "_law_residuals" = some (.ref a_law_residuals)
  a_law : Addr
  d_law : FuncData
  F_law : Fun K "law" "law" s_law a_law d_law
  b_law : Binds K d_law ["script"] []
  g_law : mg "law" = some (.ref a_law)
  C_BitWriter : Addr
  cl_BitWriter : Cls K C_BitWriter
  g_BitWriter : mg "BitWriter" = some (.ref C_BitWriter)
  M_BitWriter : Mk K C_BitWriter a_BitWriter_init
  me_BitWriter_write : Meth K C_BitWriter "write" a_BitWriter_write
  me_BitWriter_write_signed : Meth K C_BitWriter "write_signed" a_BitWriter_write_signed
  me_BitWriter_write_unary : Meth K C_BitWriter "write_unary" a_BitWriter_write_unary
  me_BitWriter_pad : Meth K C_BitWriter "pad" a_BitWriter_pad
  me_BitWriter_byte_list : Meth K C_BitWriter "byte_list" a_BitWriter_byte_list
  me_BitWriter_bits_written : Meth K C_BitWriter "bits_written" a_BitWriter_bits_written
  n_BitWriter_whole : NoAttr K C_BitWriter "_whole"
  n_BitWriter_held : NoAttr K C_BitWriter "_held"
  n_BitWriter_held_bits : NoAttr K C_BitWriter "_held_bits"
  C_BitReader : Addr
  cl_BitReader : Cls K C_BitReader
  g_BitReader : mg "BitReader" = some (.ref C_BitReader)
  M_BitReader : Mk K C_BitReader a_BitReader_init
  me_BitReader_read : Meth K C_BitReader "read" a_BitReader_read
  me_BitReader_read_signed : Meth K C_BitReader "read_signed" a_BitReader_read_signed
  me_BitReader_read_unary : Meth K C_BitReader "read_unary" a_BitReader_read_unary
  me_BitReader_rest_of_byte : Meth K C_BitReader "_rest_of_byte" a_BitReader_rest_of_byte
  me_BitReader_byte_place : Meth K C_BitReader "byte_place" a_BitReader_byte_place
  n_BitReader_data : NoAttr K C_BitReader "_data"
  n_BitReader_position : NoAttr K C_BitReader "_position"
  m_zip : mg "zip" = none
  m_tuple : mg "tuple" = none
  m_len : mg "len" = none
  m_range : mg "range" = none
  m_max : mg "max" = none
  m_min : mg "min" = none
  m_sum : mg "sum" = none
  m_list : mg "list" = none
  m_isinstance : mg "isinstance" = none
  m_int : mg "int" = none
  m_bool : mg "bool" = none
  m_all : mg "all" = none
  m_abs : mg "abs" = none
  u_BOUND : Value
  c_BOUND : mg "_BOUND" = some u_BOUND
  r_BOUND : RelV (.int (2147483648)) u_BOUND
  A_PARAMETERS : Addr
  c_PARAMETERS : mg "_PARAMETERS" = some (.ref A_PARAMETERS)
  s_PARAMETERS : ∀ H, SqT K H A_PARAMETERS [V.int 15, V.int 31]
  u_MOST_RAW_WIDTH : Value
  c_MOST_RAW_WIDTH : mg "_MOST_RAW_WIDTH" = some u_MOST_RAW_WIDTH
  r_MOST_RAW_WIDTH : RelV (.int (31)) u_MOST_RAW_WIDTH
  u_HEAD_BITS : Value
  c_HEAD_BITS : mg "_HEAD_BITS" = some u_HEAD_BITS
  r_HEAD_BITS : RelV (.int (6)) u_HEAD_BITS
  u_MOST_ZEROS : Value
  c_MOST_ZEROS : mg "_MOST_ZEROS" = some u_MOST_ZEROS
  r_MOST_ZEROS : RelV (.int (56)) u_MOST_ZEROS
section
variable {P : Program} {w : World} {K : PySem.W.Frag} {mg : Str → Option Value} {base : Heap}
def bits8 (b : Nat) : List Bool := (List.range 8).map fun k => b.testBit (7 - k)
/-! ### zip of a tuple and a list -/
def ItM (K : PySem.W.Frag) (a b : Addr) : It where
  go i H := ∃ (xs ys : List V) (x y : V), SqT K H a xs ∧ SqL K H b ys ∧ xs[i]? = some x ∧ ys[i]? = some y
  yld i H v H' := ∃ T x y, v = .ref T ∧ H T = none ∧ H' = upd H T (.tup [x, y]) ∧ (∀ xs, SqT K H a xs → xs[i]? = some x) ∧ ∀ ys, SqL K H b ys → ys[i]? = some y
  stop i H := ∃ xs ys : List V, SqT K H a xs ∧ SqL K H b ys ∧ i ≤ xs.length ∧ i ≤ ys.length ∧ (i = xs.length ∨ i = ys.length)
structure Mx (z TI TO i1 i2 a b : Addr) : Prop where
  sep : ZipSep2 z TI TO i1 i2 [i1, a] [i2, b]
  ai : a ≠ i1
  bi : b ≠ i2
structure MxAt (z TI TO i1 i2 a b : Addr) (i : Nat) (h : Heap) : Prop where
  hz : PySem.IsZip h z TI TO .none
  hI : IsTupOf2 h TI (.ref i1) (.ref i2)
  hO : ∃ x y, IsTupOf2 h TO x y
  h1 : h.IsTupleIter i1 a i
  h2 : h.IsListIter i2 b i
theorem five {z TI TO i1 i2 c : Addr} (h : c ∈ [z, TI, TO, i1, i2]) : c = z ∨ c = TI ∨ c = TO ∨ c = i1 ∨ c = i2 := by simpa using h
theorem off {z TI TO i1 i2 c : Addr} (h : c ∉ [z, TI, TO, i1, i2]) : c ≠ z ∧ c ≠ TI ∧ c ≠ TO ∧ c ≠ i1 ∧ c ≠ i2 := by simpa using h
theorem MxAt.has {z TI TO i1 i2 a b : Addr} {i : Nat} {h : Heap} (m : MxAt z TI TO i1 i2 a b i h) : ∀ c ∈ [z, TI, TO, i1, i2], ∃ o, h.get? c = some o ∧ ∀ v, o.data ≠ .cell v := fun c hc => by
  obtain ⟨m1, m2, ⟨_, _, m3⟩, ⟨o4, e4, _, d4⟩, ⟨o5, e5, _, d5⟩⟩ := m
  rcases five hc with rfl | rfl | rfl | rfl | rfl
  · exact ⟨_, m1, fun v e => nomatch e⟩
  · exact ⟨_, m2, fun v e => nomatch e⟩
  · exact ⟨_, m3, fun v e => nomatch e⟩
  · exact ⟨o4, e4, fun v e => nomatch (d4.symm.trans e)⟩
  · exact ⟨o5, e5, fun v e => nomatch (d5.symm.trans e)⟩
theorem MxAt.keep {z TI TO i1 i2 a b : Addr} {i : Nat} {h h' : Heap} (m : MxAt z TI TO i1 i2 a b i h) (k : ∀ c ∈ [z, TI, TO, i1, i2], ∀ o, h.get? c = some o → h'.get? c = some o) : MxAt z TI TO i1 i2 a b i h' := by
  obtain ⟨m1, m2, ⟨x, y, m3⟩, m4, m5⟩ := m
  exact ⟨k z (by simp) _ m1, k TI (by simp) _ m2, ⟨x, y, k TO (by simp) _ m3⟩, m4.at (k i1 (by simp)), m5.at (k i2 (by simp))⟩
theorem get_of {α : Type} {l : List α} {i : Nat} {x : α} (h : l[i]? = some x) : i < l.length := (List.getElem?_eq_some_iff.mp h).1
theorem turn_zipM {P : Program} {w : World} {K : PySem.W.Frag} {elts : List Expr} {kk : Nat} {tpos : Pos} {a b z TI TO i1 i2 : Addr} (D : Mx z TI TO i1 i2 a b) :
    Turn P w K (.Tuple elts kk tpos) (ItM K a b) [z, TI, TO, i1, i2] z (MxAt z TI TO i1 i2 a b) where
  mem := List.mem_cons_self
  obj := fun _ _ m => m.has
  keep := fun _ _ _ m k => m.keep k
  item := by
    rintro X rfl rfl rfl calm i pins s σ H E I out m ⟨xs, ys, x, y, qx, qy, hx, hy⟩
    obtain ⟨ta, ra, pa, _⟩ := I.tuple qx
    obtain ⟨tb, rb, pb, _⟩ := I.list qy
    have none1 : X.A.in1.handled = none := I.ok.hd calm
    have old := m.has
    obtain ⟨m1, m2, ⟨u0, v0, m3⟩, m4, m5⟩ := m
    have la := get_of hx
    have lb := get_of hy
    have wa := ra.length
    have wb := rb.length
    refine wpAny_pyNext_zipD2_item D.sep (Draws.tuple none1 i1 a D.ai ta.toArray) (Draws.list none1 i2 b D.bi tb.toArray) m1 m2 m3 ⟨m4, pa⟩ ⟨m5, pb.isList⟩ (by simp; omega) (by simp; omega) fun u v h1 tk gu gv n1 n3 n4 n5 nT nsz far => ⟨_, rfl, ?_⟩
    obtain ⟨u', eu, ru⟩ := ra.get hx
    obtain ⟨v', ev, rv⟩ := rb.get hy
    obtain rfl : u' = u := Option.some.inj (eu.symm.trans (by simpa using gu))
    obtain rfl : v' = v := Option.some.inj (ev.symm.trans (by simpa using gv))
    refine wpAny_letOwnedTupleGo_zip (s := { s with heap := h1, toks := tk }) n1 fun h2 z2 sb => ?_
    have far2 : ∀ c o, c ∉ [z, TI, TO, i1, i2] → s.heap.get? c = some o → h2.get? c = some o := fun c o hc e => by
      obtain ⟨c1, _, c3, c4, c5⟩ := off hc
      exact (sb.2 c c1).trans (far c o c1 c3 c4 c5 e)
    have ne : z ≠ s.heap.objs.size := Nat.ne_of_lt (Heap.lt_size m1)
    have tup : IsTupOf2 h2 s.heap.objs.size u' v' := (sb.2 _ ne.symm).trans nT
    have ok2 : ObjOk X.prog X.w (upd H s.heap.objs.size (.tup [x, y])) h2 s.heap.objs.size (.tup [x, y]) := ⟨sz_of (n := 2) (by decide), [u', v'], .cons ru (.cons rv .nil), ⟨_, tup, rfl, _, rfl⟩⟩
    have free := I.hok.fresh (Nat.le_refl s.heap.objs.size)
    refine ⟨.ref s.heap.objs.size, upd H s.heap.objs.size (.tup [x, y]), I.turnedNew (t' := tk) far2 out (Nat.le_refl _) ok2, rfl, ⟨_, x, y, rfl, free, rfl, fun l q => I.tuple_inj qx q ▸ hx, fun l q => I.list_inj qy q ▸ hy⟩, ?_, fun c hc => ?_⟩
    · exact ⟨z2, (sb.2 _ D.sep.TIz).trans (far _ _ D.sep.TIz D.sep.TITO D.sep.TIi1 D.sep.TIi2 m2), ⟨u', v', (sb.2 _ D.sep.TOz).trans n3⟩, n4.1.at fun o e => (sb.2 _ D.sep.zi1.symm).trans e, n5.1.at fun o e => (sb.2 _ D.sep.zi2.symm).trans e⟩
    · obtain ⟨o, e, _⟩ := old c hc
      rw [upd_ne (Nat.ne_of_lt (Heap.lt_size e))]
      exact (out c hc).1
  done := by
    rintro X rfl rfl rfl calm i pins s σ H E I out m ⟨xs, ys, qx, qy, l1, l2, l3⟩
    obtain ⟨ta, ra, pa, _⟩ := I.tuple qx
    obtain ⟨tb, rb, pb, _⟩ := I.list qy
    have none1 : X.A.in1.handled = none := I.ok.hd calm
    obtain ⟨m1, m2, ⟨u0, v0, m3⟩, m4, m5⟩ := m
    have wa := ra.length
    have wb := rb.length
    refine wpAny_pyNext_zipD2_end D.sep (Draws.tuple none1 i1 a D.ai ta.toArray) (Draws.list none1 i2 b D.bi tb.toArray) m1 m2 m3 ⟨m4, pa⟩ ⟨m5, pb.isList⟩ (by simp; omega) (by simp; omega) (by simp; omega) fun h1 tk far => ⟨rfl, ?_⟩
    refine I.turnedL (t' := tk) (ch := [z, TI, TO, i1, i2]) (fun c o hc e => ?_) out
    obtain ⟨c1, _, c3, c4, c5⟩ := off hc
    exact far c o c1 c3 c4 c5 e
  self := fun _ _ _ _ _ m q => wpAny_pyIter_zip m.hz q
theorem sep_new {n a b : Nat} (ha : a < n) (hb : b < n) : (n + 2 ≠ n + 4) ∧ (n + 3 ≠ n + 4) ∧ (n + 2 ≠ n + 3) ∧ (n + 2 ≠ n) ∧ (n + 4 ∉ [n, a]) ∧ (n + 3 ∉ [n, a]) ∧ (n + 2 ≠ n + 1) ∧ (n + 4 ∉ [n + 1, b]) ∧ (n + 3 ∉ [n + 1, b]) ∧ (n ∉ [n + 1, b]) ∧ (n + 1 ∉ [n, a]) ∧ a ≠ n ∧ b ≠ n + 1 := by
  simp only [List.mem_cons, List.not_mem_nil, or_false, not_or]
  omega
theorem mx_new {n a b : Nat} (ha : a < n) (hb : b < n) : Mx (n + 4) (n + 2) (n + 3) n (n + 1) a b := by
  obtain ⟨h1, h2, h3, h4, h5, h6, h7, h8, h9, h10, h11, h12, h13⟩ := sep_new ha hb
  exact ⟨⟨h1, h2, h3, h4, List.mem_cons_self, h5, h6, h7, List.mem_cons_self, h8, h9, h10, h11⟩, h12, h13⟩
def iZipM (K : PySem.W.Frag) (ta : TA) : TI := fun σ H R => ta σ H fun vs H1 => ∃ a b xs ys, vs = [.ref a, .ref b] ∧ SqT K H1 a xs ∧ SqL K H1 b ys ∧ R (ItM K a b) H1
theorem pi_zipM {X : Cx} {e e2 : Expr} {ta : TA} {p pos tpos : Pos} {elts : List Expr} {kk : Nat} (hg : Gl X "zip") (hm : X.mg "zip" = none) (ha : PA X [e, e2] ta)
    (hs : starEach [e, e2] X.env = (false, eval e X.env) :: starEach [e2] X.env := by rfl) (hpl : (backTo pos (starEach [e2] X.env)).any (·.1) = false := by rfl) : PI X (.Tuple elts kk tpos) (.Call (.Name "zip" p) [e, e2] [] pos) (iZipM X.K ta) := by
  refine ⟨fun pins s0 σ H R I0 h0 => Call_ (ld_blt I0 hg hm PyProof.Rows.boot_zip (PyProof.Rows.callWith_type1 (thn (ha.run pos pins s0 σ H _ I0 h0) ?_) hs hpl))⟩
  rintro us s ⟨vs, H1, I, rel, a, b, xs, ys, rfl, qx, qy, q⟩
  obtain ⟨ta', ra, pa, _⟩ := I.tuple qx
  obtain ⟨tb, rb, pb, _⟩ := I.list qy
  rcases rel with _ | ⟨r1, _ | ⟨r2, _ | _⟩⟩
  cases r1
  cases r2
  have alt : a < s.heap.objs.size := by obtain ⟨o, e, _⟩ := id pa; exact Heap.lt_size e
  have blt : b < s.heap.objs.size := pb.lt
  refine zip_begins2 (begins_tuple a ta'.toArray) (begins_list b tb.toArray) pa pb.isList fun h' hz hI hO g1 g2 hsz hk => wpAny_pyIter_zip hz ?_
  refine ⟨_, [s.heap.objs.size + 4, s.heap.objs.size + 2, s.heap.objs.size + 3, s.heap.objs.size, s.heap.objs.size + 1], _, _, H1, rfl, I.kept (t' := s.toks) hk, turn_zipM (a := a) (b := b) (mx_new alt blt), ⟨hz, hI, ⟨_, _, hO⟩, ⟨_, g1, rfl, rfl⟩, ⟨_, g2, rfl, rfl⟩⟩, fun c hc => ?_, q⟩
  have hle : s.heap.objs.size ≤ c := by
    rcases five hc with rfl | rfl | rfl | rfl | rfl
    · exact Nat.le_add_right _ _
    · exact Nat.le_add_right _ _
    · exact Nat.le_add_right _ _
    · exact Nat.le_refl _
    · exact Nat.le_add_right _ _
  exact I.fpOk hle (I.hok.fresh hle)

/-! ### int(x), bits of a number -/
theorem Ev.is {σ : L2.St} {H : Hp} {te : TE} {x y : V} (h : Ev te σ H x) (e : x = y) : Ev te σ H y := e ▸ h
theorem ev_int1 {σ : L2.St} {H : Hp} {te : TE} {i : Int} (h : Ev te σ H (.int i)) : Ev (tCB (fun xs H Q => (∃ i, xs = [V.int i] ∧ Q (V.int i) H) ∨ ∃ k, xs = [V.bl k] ∧ Q (V.int (if k = true then 1 else 0)) H) (tCons te tNil)) σ H (.int i) :=
  ev_cb (ea_cons h ea_nil) fun H1 _ Q q => .inl ⟨i, rfl, q H1 (Ex.refl H1)⟩
theorem q_augR {σ : L2.St} {H : Hp} {te : TE} {D : Ends} {tz : TS} {i : Nat} {g : Int → Int → V} {a b : Int} (h1 : σ[i]? = some (some (.int a))) (h : Ev te σ H (.int b)) (k : ∀ H1, Ex H H1 → tz D (σ.set i (some (g a b))) H1) : tSeq (tAug i te (rI0 g)) tz D σ H :=
  ⟨_, h1, h H (Ex.refl H) _ fun H1 e => ⟨a, b, rfl, rfl, k H1 e⟩⟩
theorem s_augR {σ : L2.St} {H : Hp} {te : TE} {D : Ends} {i : Nat} {g : Int → Int → V} {a b : Int} (h1 : σ[i]? = some (some (.int a))) (h : Ev te σ H (.int b)) (k : ∀ H1, Ex H H1 → D.nx (σ.set i (some (g a b))) H1) : tAug i te (rI0 g) D σ H :=
  ⟨_, h1, h H (Ex.refl H) _ fun H1 e => ⟨a, b, rfl, rfl, k H1 e⟩⟩
theorem ev_atT {K : PySem.W.Frag} {σ : L2.St} {H : Hp} {tl ti : TE} {t : Addr} {xs : List V} {n : Int} {v : V} (h : Ev tl σ H (.ref t)) (hT : SqT K H t xs) (hi : Ev ti σ H (.int n)) (ha : atI xs n = some v) : Ev (tOp (rIxT K) tl ti) σ H v := fun H1 e Q q =>
  h H1 e _ fun H2 e2 => hi H2 (e.trans e2) _ fun H3 e3 => ⟨t, xs, n, v, rfl, rfl, ex_t ((e.trans e2).trans e3) hT, ha, q H3 (e2.trans e3)⟩
local macro_rules | `(tactic| walk_at "side") => `(tactic| first
  | omega
  | (show CDivW _ _; exact ⟨by omega, by decide⟩)
  | (show CDivW _ _; exact wide_div (b := 80) (by omega) (by omega) (by decide) (by decide)))
local macro_rules | `(tactic| walk_at "evown") => `(tactic| (refine' ev_int1 ?h1; (case h1 => walk_at "ev")))
/-- numbers from 0 on, as such -/
def cs (ds : List Nat) : List Int := ds.map fun d : Nat => (d : Int)
theorem cs_of {ns : List Int} {b : Int} (h : ∀ n ∈ ns, 0 ≤ n ∧ n < b) : ∃ ds : List Nat, ns = cs ds ∧ ds.length = ns.length ∧ ∀ d ∈ ds, (d : Int) < b := by
  refine ⟨ns.map Int.toNat, ?_, List.length_map .., fun d hd => ?_⟩
  · unfold cs
    rw [List.map_map]
    conv => lhs; rw [← List.map_id ns]
    refine List.map_congr_left fun n hn => ?_
    have := (h n hn).1
    show n = ((n.toNat : Nat) : Int)
    omega
  · obtain ⟨n, hn, rfl⟩ := List.mem_map.mp hd
    have := h n hn
    omega
theorem cs_len (ds : List Nat) : (cs ds).length = ds.length := List.length_map ..
theorem cs_at {ds : List Nat} {i : Nat} {d : Nat} (h : ds[i]? = some d) : (cs ds)[i]? = some (d : Int) := by unfold cs; rw [List.getElem?_map, h]; rfl
theorem cs_take (ds : List Nat) (i : Nat) : (cs ds).take i = cs (ds.take i) := by unfold cs; rw [List.map_take]
theorem cs_drop (ds : List Nat) (i : Nat) : (cs ds).drop i = cs (ds.drop i) := by unfold cs; rw [List.map_drop]
theorem cs_append (ds es : List Nat) : cs (ds ++ es) = cs ds ++ cs es := List.map_append ..

def sp_cell (K : PySem.W.Frag) : Sp := fun vs H Q _ => ∃ (a : Addr) (ns : List Int) (k : Int), vs = [.ref a, .int k] ∧ SqL K H a (ns.map V.int) ∧ 0 ≤ k ∧ RetV (.int (cellI ns k)) H Q
theorem ok_law_cell (T : TX K mg) : FnOk P w K mg base CX0 1 T.a_law_cell T.d_law_cell ["script", "k"] (sp_cell K) := by
  refine T.F_law_cell.ok sc_law_cell (fun vs H Q E h => by obtain ⟨a, ns, k, rfl, _⟩ := h; rfl) (fun cdv A outer s H vs Q E hr h => ?_)
  obtain ⟨a, ns, k, rfl, hS, hk, q⟩ := h
  refine ⟨_, (pss_cons (ps_if (pt_cmpR op_lt (pv 1) (pe_callB (r := rLenS K) call_len_seq (by rfl) T.m_len PySem.boot_len (pa_cons (pv 0) pa_nil)) (nomark _)) (pss_one (ps_ret (pe_ix (r := rIxL K) ix_list (pv 0) (pv 1) (fun _ _ => rfl)))) pss_nil)
      (pss_one (ps_ret pe_int))), ?_⟩
  have hl := (ev_lenS (K := K) (Ev.s (te := tVar 0) (σ := start ["script", "k"] [.ref a, .int k]) (ev_var rfl) hS))
  refine q_when (et_test (ev_I0 (ev_var rfl) hl)) ?_ ?_
  · intro hb H1 e1
    have hb : k < ns.length := by
      have := of_decide_eq_true hb
      rwa [List.length_map] at this
    refine s_ret (v := .int (cellI ns k)) (ev_ixS (i := 0) (n := k) (Ev.s (ev_var rfl) (ex_l e1 hS)) (ev_var rfl) ?_) fun H2 e2 => q H2 (e1.trans e2)
    exact at_of (j := k.toNat) (by omega) (at_int (cellI_in hk hb))
  · intro hb H1 e1
    have hb : ¬ k < ns.length := by
      have := of_decide_eq_false hb
      rwa [List.length_map] at this
    walk_at "ret"
    intro H2 e2
    exact ret_eq q (e1.trans e2) (by rw [cellI_out hb])
theorem ev_cell {σ : L2.St} {H : Hp} {ta tk : TE} {E : XK} {ns : List Int} {k : Int} {a : Addr} (ha : Ev ta σ H (.ref a)) (hS : SqL K H a (ns.map V.int)) (hk : Ev tk σ H (.int k)) (h0 : 0 ≤ k) : Ev (tCall (sp_cell K) [] E (tCons ta (tCons tk tNil))) σ H (.int (cellI ns k)) :=
  ev_call (ea_cons ha (ea_cons hk ea_nil)) fun H1 e Q q _ => ⟨a, ns, k, rfl, ex_l e hS, h0, q⟩
local macro_rules | `(tactic| walk_at "evown") => `(tactic| (refine' ev_cell ?h1 ?h2 ?h3 ?h4; (case h1 => exact ev_var rfl); (case h2 => walk_at "sq"); (case h3 => walk_at "ev"); (case h4 => walk_at "side")))

/-! ### objects: fields, methods, making -/
section
variable {K : PySem.W.Frag} {σ : L2.St} {H : Hp} {to te tv : TE} {a C : Addr} {dx : Addr} {fs : List (Str × V)} {f m : Str} {v : V} {D : Ends} {tz : TS} {sp : Sp} {dvs vs : List V} {E : XK} {t : TA}
theorem ev_fld (c : Cls K C) (hn : NoAttr K C f) (h : Ev to σ H (.ref a)) (hx : H a = some (.ins C dx fs)) (hl : fs.lookup f = some v) : Ev (tFld K to f) σ H v := fun H1 e Q q => h H1 e _ fun H2 e2 => ⟨a, C, dx, fs, v, rfl, (e.trans e2) _ _ hx, c, hn, hl, q H2 e2⟩
theorem q_fld (c : Cls K C) (hn : NoAttr K C f) (hv : Ev tv σ H v) (h : Ev to σ H (.ref a)) (hx : H a = some (.ins C dx fs)) (hl : fs.length < 1000) (k : ∀ H1, Ex H H1 → tz D σ (upd H1 a (.ins C dx (putF f v fs)))) : tSeq (sFld K to tv f) tz D σ H :=
  hv H (Ex.refl H) _ fun H1 e1 => h H1 e1 _ fun H2 e2 => ⟨a, C, dx, fs, rfl, (e1.trans e2) _ _ hx, c, hn, hl, k H2 (e1.trans e2)⟩
theorem s_fld (c : Cls K C) (hn : NoAttr K C f) (hv : Ev tv σ H v) (h : Ev to σ H (.ref a)) (hx : H a = some (.ins C dx fs)) (hl : fs.length < 1000) (k : ∀ H1, Ex H H1 → D.nx σ (upd H1 a (.ins C dx (putF f v fs)))) : sFld K to tv f D σ H :=
  hv H (Ex.refl H) _ fun H1 e1 => h H1 e1 _ fun H2 e2 => ⟨a, C, dx, fs, rfl, (e1.trans e2) _ _ hx, c, hn, hl, k H2 (e1.trans e2)⟩
theorem q_fldL {xs : List V} (c : Cls K C) (hn : NoAttr K C f) (hv : EvL tv σ H xs) (h : ∀ H1, Ex H H1 → Ev to σ H1 (.ref a)) (hx : H a = some (.ins C dx fs)) (hl : fs.length < 1000) (k : ∀ p H1, H p = none → Ex H H1 → H1 p = some (.lst xs) → tz D σ (upd H1 a (.ins C dx (putF f (.ref p) fs)))) : tSeq (sFld K to tv f) tz D σ H :=
  hv H (Ex.refl H) _ fun p H1 hp e1 g1 => h H1 e1 H1 (Ex.refl H1) _ fun H2 e2 => ⟨a, C, dx, fs, rfl, (e1.trans e2) _ _ hx, c, hn, hl, k p H2 hp (e1.trans e2) (e2 _ _ g1)⟩
/-- o.m(..), whatever m promises -/
theorem mth (h : Ev to σ H (.ref a)) (hx : H a = some (.ins C dx fs)) (hm : fs.lookup m = none) (ha : EvA t σ H vs) {Q : VK} (k : ∀ H1, Ex H H1 → sp (.ref a :: (vs ++ dvs)) H1 Q E) : tMeth C m sp dvs E to t σ H Q :=
  h H (Ex.refl H) _ fun H1 e1 => ⟨a, dx, fs, rfl, e1 _ _ hx, hm, ha H1 e1 _ fun H2 e2 => k H2 (e1.trans e2)⟩
theorem q_dropM (h : Ev to σ H (.ref a)) (hx : H a = some (.ins C dx fs)) (hm : fs.lookup m = none) (ha : EvA t σ H vs) (k : ∀ H1, Ex H H1 → sp (.ref a :: (vs ++ dvs)) H1 (fun _ H2 => tz D σ H2) E) : tSeq (tDrop (tMeth C m sp dvs E to t)) tz D σ H := mth h hx hm ha k
theorem s_dropM (h : Ev to σ H (.ref a)) (hx : H a = some (.ins C dx fs)) (hm : fs.lookup m = none) (ha : EvA t σ H vs) (k : ∀ H1, Ex H H1 → sp (.ref a :: (vs ++ dvs)) H1 (fun _ H2 => D.nx σ H2) E) : tDrop (tMeth C m sp dvs E to t) D σ H := mth h hx hm ha k
theorem q_asgM {i : Nat} (h : Ev to σ H (.ref a)) (hx : H a = some (.ins C dx fs)) (hm : fs.lookup m = none) (ha : EvA t σ H vs) (k : ∀ H1, Ex H H1 → sp (.ref a :: (vs ++ dvs)) H1 (fun x H2 => tz D (σ.set i (some x)) H2) E) : tSeq (tAsg (tMeth C m sp dvs E to t) (gName i)) tz D σ H := mth h hx hm ha k
theorem s_retM (h : Ev to σ H (.ref a)) (hx : H a = some (.ins C dx fs)) (hm : fs.lookup m = none) (ha : EvA t σ H vs) (k : ∀ H1, Ex H H1 → sp (.ref a :: (vs ++ dvs)) H1 D.rt E) : tRet (tMeth C m sp dvs E to t) D σ H := mth h hx hm ha k
/-- a method that changes nothing and gives a value -/
theorem ev_mth (h : Ev to σ H (.ref a)) (hx : H a = some (.ins C dx fs)) (hm : fs.lookup m = none) (ha : EvA t σ H vs) (k : SpV sp (.ref a :: (vs ++ dvs)) H v) : Ev (tMeth C m sp dvs E to t) σ H v := fun H1 e Q q =>
  h H1 e _ fun H2 e2 => ⟨a, dx, fs, rfl, (e.trans e2) _ _ hx, hm, ha H2 (e.trans e2) _ fun H3 e3 => k H3 ((e.trans e2).trans e3) Q (fun H4 e4 => q H4 ((e2.trans e3).trans e4)) E⟩
end
theorem fresh_ne {H : Hp} {p q : Addr} {o : HO} (hp : H p = none) (hq : H q = some o) : q ≠ p := ne_of_none hq hp
theorem bitNot_eq (x : Int) : Builtin.bitNot x = -x - 1 := rfl
theorem bitAnd_maskZ (x : Int) (k : Nat) : Builtin.bitAnd x (2 ^ k - 1) = x % 2 ^ k := by
  by_cases h : 0 ≤ x
  · exact _root_.Bits.bitAnd_mask k h
  · have hp : (1 : Int) ≤ 2 ^ k := by
      have : 0 < 2 ^ k := Nat.two_pow_pos k
      have h2 : ((2 : Int) ^ k) = ((2 ^ k : Nat) : Int) := by rw [Int.natCast_pow]; rfl
      omega
    rw [PyProof.Rows.bitAnd_np h (by omega), Nat.and_comm]
    have h2 : ((2 : Int) ^ k) = ((2 ^ k : Nat) : Int) := by rw [Int.natCast_pow]; rfl
    have h3 : ((2 : Int) ^ k - 1).toNat = 2 ^ k - 1 := by omega
    rw [h3, Nat.and_two_pow_sub_one_eq_mod, bitNot_eq]
    have h4 : ((-x - 1).toNat : Int) = -x - 1 := by omega
    rw [h2, Int.natCast_emod, h4]
    generalize 2 ^ k = m at *
    have hm : (0 : Int) < (m : Int) := by omega
    have e1 := Int.emod_add_mul_ediv x m
    have e2 := Int.emod_add_mul_ediv (-x - 1) m
    have a1 := Int.emod_nonneg x (by omega : (m : Int) ≠ 0)
    have a2 := Int.emod_lt_of_pos x hm
    have b1 := Int.emod_nonneg (-x - 1) (by omega : (m : Int) ≠ 0)
    have b2 := Int.emod_lt_of_pos (-x - 1) hm
    generalize x % (m : Int) = r at *
    generalize (-x - 1) % (m : Int) = s at *
    generalize x / (m : Int) = p at *
    generalize (-x - 1) / (m : Int) = q at *
    -- r + s + 1 is a multiple of m between 1 and 2m - 1
    have e3 : r + s + 1 = m * (-(p + q)) := by
      rw [Int.mul_neg, Int.mul_add]
      omega
    have h5 : -(p + q) = 1 := by
      have c1 : 0 < (m : Int) * (-(p + q)) := by omega
      have c2 : (m : Int) * (-(p + q)) < m * 2 := by omega
      have c3 := Int.pos_of_mul_pos_right (a := (m : Int)) (b := -(p + q)) (by exact c1) hm
      have c4 : -(p + q) < 2 := Int.lt_of_mul_lt_mul_left c2 (by omega)
      omega
    rw [h5, Int.mul_one] at e3
    omega
theorem q_fldaugI {K : PySem.W.Frag} {σ : L2.St} {H : Hp} {to tv : TE} {a C dx : Addr} {fs : List (Str × V)} {f : Str} {i j : Int} {D : Ends} {tz : TS} (c : Cls K C) (hn : NoAttr K C f) (h : Ev to σ H (.ref a)) (hx : H a = some (.ins C dx fs)) (hl : fs.lookup f = some (.int i)) (hv : Ev tv σ H (.int j)) (hz : fs.length < 1000)
    (k : ∀ H1, Ex H H1 → tz D σ (upd H1 a (.ins C dx (putF f (.int (i + j)) fs)))) : tSeq (sFldAug K to tv rAdd f) tz D σ H :=
  h H (Ex.refl H) _ fun H1 e1 => ⟨a, C, dx, fs, .int i, rfl, e1 _ _ hx, c, hn, hl, hv H1 e1 _ fun H2 e2 => ⟨i, j, rfl, rfl, dx, fs, (e1.trans e2) _ _ hx, hz, k H2 (e1.trans e2)⟩⟩
/-- [e for j in range(n)] whose element changes objects -/
theorem tlc_rngM {ta : TA} {te : TE} {vs : List Nat} {n : Int} {j : Nat} {σ : L2.St} {H : Hp} {Q : VK} (h : EvA ta σ H [.int n]) (hn : -100000 ≤ n ∧ n ≤ 100000)
    (k : ∀ H1, Ex H H1 → ∀ Dl, H1 Dl = none → ∃ Pv : Nat → Hp → Prop, Pv 0 (upd H1 Dl (.lst [])) ∧ (∀ (i : Nat) H', i < n.toNat → Pv i H' → wipe ((wipe σ vs).set j (some (.int (i : Int)))) vs = wipe σ vs ∧ te ((wipe σ vs).set j (some (.int (i : Int)))) H' fun y H4 => ∃ acc, H4 Dl = some (.lst acc) ∧ acc.length < sizeLine ∧ Pv (i + 1) (upd H4 Dl (.lst (acc ++ [y])))) ∧ (∀ H', Pv n.toNat H' → Q (.ref Dl) H')) :
    tLc (iRng1 ta) (gName j) tYes te vs σ H Q := h H (Ex.refl H) _ fun H1 e1 => ⟨n, rfl, by omega, by omega, fun Dl hD => by
  obtain ⟨Pv, h0, hs, hd⟩ := k H1 e1 Dl hD
  refine lc_range (lo := 0) (n := n.toNat) Pv h0 (fun i H' hi p => ?_) hd
  rw [Int.zero_add]
  exact hs i H' hi p⟩

theorem pow_cast (k : Nat) : ((2 : Int) ^ k) = ((2 ^ k : Nat) : Int) := by rw [Int.natCast_pow]; rfl
theorem pow_pos2 (i : Nat) : (0 : Int) < 2 ^ i := Int.pow_pos (by decide)
theorem pow_le16 {m : Nat} (h : m ≤ 16) : (2 : Int) ^ m ≤ 65536 := by
  have h1 : 2 ^ m ≤ 2 ^ 16 := Nat.pow_le_pow_right (by decide) h
  have h2 : ((2 : Int) ^ m) = ((2 ^ m : Nat) : Int) := by rw [Int.natCast_pow]; rfl
  omega
/-! ### the program -/
def sp_legal : Sp := fun vs H Q _ => ∃ (s o : Int) (m : Nat), vs = [.int s, .int o, .int m] ∧ m ≤ 16 ∧ RetV (.bl (decide (s % 2 ^ m = 0) && decide (o < s / 2 ^ m))) H Q
theorem ok_legal_partition_order (T : TX K mg) : FnOk P w K mg base CX0 1 T.a_legal_partition_order T.d_legal_partition_order ["size", "order", "partition_order"] sp_legal := by
  refine T.F_legal_partition_order.ok sc_legal_partition_order (fun vs H Q E h => by obtain ⟨s, o, m, rfl, _⟩ := h; rfl) (fun cdv A outer s H vs Q E hr h => ?_)
  obtain ⟨s, o, m, rfl, hm, k⟩ := h
  have h1 := pow_pos2 m
  have h2 := pow_le16 hm
  refine ⟨_, (pss_cons (ps_set (i := 3) sc_legal_partition_order.nd rfl (Or.inl rfl) (pe_op op_shl pe_int (pv 2)))
      (pss_one (ps_ret (pe_and (pe_cmpR op_eq (pe_op op_mod (pv 0) (pv 3)) pe_int (nomark _)) (pe_one (pe_cmpR op_gt (pe_op op_fdiv (pv 0) (pv 3)) (pv 1) (nomark _))))))), ?_⟩
  refine q_asg (v := .int (2 ^ m)) (ev_is (v := .int (1 * 2 ^ (m : Int).toNat)) (by walk_at "ev") (by rw [Int.toNat_natCast, Int.one_mul])) fun H1 e1 => ?_
  walk_at "ret"
  intro H2 e2
  refine ret_eq k (e1.trans e2) ?_
  have e0 : decide (V.int (s % 2 ^ m) = V.int 0) = decide (s % 2 ^ m = 0) := by simp
  rw [e0]
def sp_sizes : Sp := fun vs H Q _ => ∃ (s o : Int) (m : Nat), vs = [.int s, .int o, .int m] ∧ m ≤ 16 ∧ RetL (((s / 2 ^ m - o) :: List.replicate (2 ^ m - 1) (s / 2 ^ m)).map V.int) H Q
theorem ok_partition_sizes (T : TX K mg) : FnOk P w K mg base CX0 1 T.a_partition_sizes T.d_partition_sizes ["size", "order", "partition_order"] sp_sizes := by
  refine T.F_partition_sizes.ok sc_partition_sizes (fun vs H Q E h => by obtain ⟨s, o, m, rfl, _⟩ := h; rfl) (fun cdv A outer s H vs Q E hr h => ?_)
  obtain ⟨s, o, m, rfl, hm, k⟩ := h
  have h1 := pow_pos2 m
  have h2 := pow_le16 hm
  have h3 : ((2 : Int) ^ m - 1).toNat = 2 ^ m - 1 := by
    have : ((2 : Int) ^ m) = ((2 ^ m : Nat) : Int) := by rw [Int.natCast_pow]; rfl
    omega
  have h4 : 2 ^ m ≤ 65536 := by
    have : ((2 : Int) ^ m) = ((2 ^ m : Nat) : Int) := by rw [Int.natCast_pow]; rfl
    omega
  refine ⟨_, (pss_cons (ps_set (i := 3) sc_partition_sizes.nd rfl (Or.inl rfl) (pe_op op_shr (pv 0) (pv 2)))
      (pss_one (ps_ret (pe_op op_cat (pe_lst (pa_cons (pe_op op_sub (pv 3) (pv 1)) pa_nil)) (pe_op op_rep (pe_lst (pa_cons (pv 3) pa_nil)) (pe_op op_sub (pe_op op_shl pe_int (pv 2)) pe_int)))))), ?_⟩
  refine q_asg (v := .int (s / 2 ^ m)) (ev_is (v := .int (s / 2 ^ (m : Int).toNat)) (by walk_at "ev") (by rw [Int.toNat_natCast])) fun H1 e1 => ?_
  refine s_retL (EvL.is (el_cat (xs := [.int (s / 2 ^ m - o)]) (ys := List.replicate (2 ^ m - 1) (.int (s / 2 ^ m))) (EvL.r (el_lst (by walk_at "ea") (Nat.le_of_ble_eq_true rfl))) (EvL.r (EvL.is (el_rep (xs := [.int (s / 2 ^ m)]) (k := 2 ^ m - 1) (EvL.r (el_lst (by walk_at "ea") (Nat.le_of_ble_eq_true rfl))) (ev_is (v := .int (1 * 2 ^ (m : Int).toNat - 1)) (by walk_at "ev") (by rw [Int.toNat_natCast, Int.one_mul])) (by omega) (by rw [h3]; show 1 * (2 ^ m - 1) ≤ 100000; omega)) (by rw [h3, rep_one]))) (by rw [List.length_replicate]; show 1 + _ ≤ 100000; omega)) (by simp)) fun p H2 hp e2 h2 => k.go e1 hp e2 h2
theorem el_sizes {σ : L2.St} {H : Hp} {t1 t2 t3 : TE} {E : XK} {s o : Int} {m : Nat} (h1 : Ev t1 σ H (.int s)) (h2 : Ev t2 σ H (.int o)) (h3 : Ev t3 σ H (.int m)) (hm : m ≤ 16) :
    EvL (tCall sp_sizes [] E (tCons t1 (tCons t2 (tCons t3 tNil)))) σ H (((s / 2 ^ m - o) :: List.replicate (2 ^ m - 1) (s / 2 ^ m)).map V.int) :=
  el_call (ea_cons h1 (ea_cons h2 (ea_cons h3 ea_nil))) fun H1 e Q q _ => ⟨s, o, m, rfl, hm, q⟩
theorem ev_legal {σ : L2.St} {H : Hp} {t1 t2 t3 : TE} {E : XK} {s o : Int} {m : Nat} (h1 : Ev t1 σ H (.int s)) (h2 : Ev t2 σ H (.int o)) (h3 : Ev t3 σ H (.int m)) (hm : m ≤ 16) :
    Ev (tCall sp_legal [] E (tCons t1 (tCons t2 (tCons t3 tNil)))) σ H (.bl (decide (s % 2 ^ m = 0) && decide (o < s / 2 ^ m))) :=
  ev_call (ea_cons h1 (ea_cons h2 (ea_cons h3 ea_nil))) fun H1 e Q q _ => ⟨s, o, m, rfl, hm, q⟩

/-! ### fields of bits -/
def bitsN (n v : Nat) : List Bool := (List.range n).map fun k => v.testBit (n - 1 - k)
theorem bitsN_len (n v : Nat) : (bitsN n v).length = n := by unfold bitsN; rw [List.length_map, List.length_range]
theorem bitsN_at {n v i : Nat} (h : i < n) : (bitsN n v)[i]? = some (v.testBit (n - 1 - i)) := by
  unfold bitsN
  rw [List.getElem?_map, List.getElem?_range h]
  rfl
theorem bitsN_congr {n v u : Nat} (h : ∀ i, i < n → v.testBit i = u.testBit i) : bitsN n v = bitsN n u := by
  unfold bitsN
  exact List.map_congr_left fun k hk => h _ (by have := List.mem_range.mp hk; omega)
theorem bitsN_mod (n v : Nat) : bitsN n (v % 2 ^ n) = bitsN n v := bitsN_congr fun i hi => by rw [Nat.testBit_mod_two_pow, decide_eq_true hi, Bool.true_and]
theorem bitsN_add (n w x : Nat) : bitsN (n + w) x = bitsN n (x / 2 ^ w) ++ bitsN w x := by
  refine List.ext_getElem? fun i => ?_
  by_cases h : i < n
  · rw [List.getElem?_append_left (by rw [bitsN_len]; exact h), bitsN_at h, bitsN_at (by omega), Nat.testBit_div_two_pow, show n - 1 - i + w = n + w - 1 - i by omega]
  · rw [List.getElem?_append_right (by rw [bitsN_len]; omega), bitsN_len]
    by_cases h2 : i - n < w
    · rw [bitsN_at h2, bitsN_at (by omega), show w - 1 - (i - n) = n + w - 1 - i by omega]
    · rw [List.getElem?_eq_none (by rw [bitsN_len]; omega), List.getElem?_eq_none (by rw [bitsN_len]; omega)]
theorem bitsN_cat {n w h v : Nat} (hv : v < 2 ^ w) : bitsN (n + w) (h * 2 ^ w + v) = bitsN n h ++ bitsN w v := by
  rw [bitsN_add]
  congr 1
  · rw [Nat.add_comm, Nat.add_mul_div_right _ _ (Nat.two_pow_pos w), Nat.div_eq_of_lt hv, Nat.zero_add]
  · rw [← bitsN_mod, Nat.add_comm, Nat.add_mul_mod_self_right, bitsN_mod]
theorem bits8_N (b : Nat) : bits8 b = bitsN 8 b := rfl
theorem bitsN_zero (n : Nat) : bitsN n 0 = List.replicate n false := by
  unfold bitsN
  refine List.ext_getElem? fun i => ?_
  rw [List.getElem?_map]
  by_cases h : i < n
  · rw [List.getElem?_range h, List.getElem?_replicate, if_pos h]
    show some (Nat.testBit 0 _) = _
    rw [Nat.zero_testBit]
  · rw [List.getElem?_eq_none (by rw [List.length_range]; omega), List.getElem?_eq_none (by rw [List.length_replicate]; omega)]
    rfl
theorem bits_flat_len (ws : List Nat) : (ws.flatMap bits8).length = 8 * ws.length := by
  induction ws with
  | nil => rfl
  | cons d r ih =>
    rw [List.flatMap_cons, List.length_append, ih, List.length_cons]
    show 8 + _ = _
    omega

/-! ### lists of bits, as numbers -/
def b2 (b : Bool) : Int := if b then 1 else 0
theorem b2_bit (n i : Nat) : Builtin.bitAnd ((n : Int) / 2 ^ i) 1 = b2 (n.testBit i) := by
  have h1 : ((n : Int) / 2 ^ i) = ((n / 2 ^ i : Nat) : Int) := by
    rw [Int.natCast_ediv, Int.natCast_pow]
    rfl
  rw [h1, PyProof.Rows.bitAnd_m1, Nat.testBit_eq_decide_div_mod_eq]
  unfold b2
  by_cases h : n / 2 ^ i % 2 = 1
  · rw [decide_eq_true h, if_pos rfl]
    omega
  · rw [decide_eq_false h, if_neg (by decide)]
    omega
def bI (ms : List Bool) : List Int := ms.map b2
theorem bI_len (ms : List Bool) : (bI ms).length = ms.length := List.length_map ..
theorem bI_append (ms ns : List Bool) : bI (ms ++ ns) = bI ms ++ bI ns := List.map_append ..
theorem bI_at {ms : List Bool} {i : Nat} {b : Bool} (h : ms[i]? = some b) : (bI ms)[i]? = some (b2 b) := by unfold bI; rw [List.getElem?_map, h]; rfl
theorem bI_false (n : Nat) : bI (List.replicate n false) = List.replicate n 0 := by unfold bI; rw [List.map_replicate]; rfl
theorem ev_bit {σ : L2.St} {H : Hp} {t1 t2 : TE} {n i : Nat} {j : Int} (h1 : Ev t1 σ H (.int (n : Int))) (h2 : Ev t2 σ H (.int j)) (hj : j = (i : Int)) : Ev (tOp (rI0 fun i j => .int (Builtin.bitAnd i j)) (tOp (rI (fun _ j => 0 ≤ j) fun i j => .int (i / 2 ^ j.toNat)) t1 t2) (tC (.int 1))) σ H (.int (b2 (n.testBit i))) := by
  subst hj
  exact Ev.is (ev_I0 (ev_I h1 h2 (by show (0 : Int) ≤ _; omega)) ev_c) (congrArg V.int (by rw [Int.toNat_natCast]; exact b2_bit n i))
def valL (ms : List Bool) : Nat := ms.foldl (fun a b => 2 * a + b.toNat) 0
theorem valL_snoc (ms : List Bool) (b : Bool) : valL (ms ++ [b]) = 2 * valL ms + b.toNat := by unfold valL; rw [List.foldl_append]; rfl
theorem valL_8 : ∀ d, d < 256 → valL (bits8 d) = d := by decide +kernel
def padN (n : Nat) : Nat := (8 - n % 8) % 8
theorem b2_nat (b : Bool) : b2 b = (b.toNat : Int) := by cases b <;> rfl

/-! ### BitReader -/
theorem flat_drop : ∀ (ds : List Nat) (a : Nat), (ds.flatMap bits8).drop (8 * a) = (ds.drop a).flatMap bits8
  | [], a => by rw [List.flatMap_nil, List.drop_nil, List.drop_nil, List.flatMap_nil]
  | d :: r, 0 => rfl
  | d :: r, a + 1 => by
    rw [List.flatMap_cons, show 8 * (a + 1) = (bits8 d).length + 8 * a by show _ = 8 + 8 * a; omega, List.drop_append, List.drop_of_length_le (by omega), List.nil_append, show (bits8 d).length + 8 * a - (bits8 d).length = 8 * a by omega]
    exact flat_drop r a
theorem flat_take : ∀ (ds : List Nat) (m : Nat), (ds.flatMap bits8).take (8 * m) = (ds.take m).flatMap bits8
  | [], m => by rw [List.flatMap_nil, List.take_nil, List.take_nil, List.flatMap_nil]
  | d :: r, 0 => rfl
  | d :: r, m + 1 => by
    rw [List.flatMap_cons, show 8 * (m + 1) = (bits8 d).length + 8 * m by show _ = 8 + 8 * m; omega, List.take_append, List.take_of_length_le (by omega), show (bits8 d).length + 8 * m - (bits8 d).length = 8 * m by omega, flat_take r m]
    rfl
def numB (bs : List Nat) : Nat := bs.foldl (fun a b => a * 2 ^ 8 + b) 0
theorem numB_snoc (bs : List Nat) (b : Nat) : numB (bs ++ [b]) = numB bs * 2 ^ 8 + b := by unfold numB; rw [List.foldl_append]; rfl
theorem numB_bits (bs : List Nat) (h : ∀ b ∈ bs, b < 256) : ∀ k, k ≤ bs.length → bitsN (8 * k) (numB (bs.take k)) = (bs.take k).flatMap bits8 ∧ numB (bs.take k) < 2 ^ (8 * k)
  | 0, _ => ⟨rfl, by rw [List.take_zero]; decide⟩
  | k + 1, hk => by
    obtain ⟨h1, h2⟩ := numB_bits bs h k (by omega)
    have hb : bs[k]? = some bs[k] := List.getElem?_eq_getElem (by omega)
    have hlt : bs[k] < 2 ^ 8 := h _ (List.getElem_mem (by omega))
    rw [show bs.take (k + 1) = bs.take k ++ [bs[k]] from by rw [List.take_add_one, hb]; rfl, numB_snoc, show 8 * (k + 1) = 8 * k + 8 by omega, bitsN_cat hlt, h1, List.flatMap_append, List.flatMap_cons, List.flatMap_nil, List.append_nil]
    refine ⟨rfl, ?_⟩
    rw [Nat.pow_add]
    have : (numB (bs.take k) + 1) * 2 ^ 8 ≤ 2 ^ (8 * k) * 2 ^ 8 := Nat.mul_le_mul_right _ h2
    rw [Nat.add_mul, Nat.one_mul] at this
    omega
theorem valL_bitsN : ∀ (w v : Nat), valL (bitsN w v) = v % 2 ^ w
  | 0, v => by rw [Nat.pow_zero, Nat.mod_one]; rfl
  | w + 1, v => by
    rw [bitsN_add w 1 v]
    show valL (bitsN w (v / 2 ^ 1) ++ [v.testBit 0]) = _
    have e : v % 2 ^ (w + 1) = v % 2 + 2 * (v / 2 % 2 ^ w) := by rw [Nat.pow_succ, Nat.mul_comm, Nat.mod_mul]
    rw [valL_snoc, valL_bitsN w (v / 2 ^ 1), Nat.pow_one, e, Nat.testBit_zero]
    have := Nat.mod_two_eq_zero_or_one v
    rcases this with h | h
    · rw [h]
      show _ + 0 = _
      omega
    · rw [h]
      show _ + 1 = _
      omega
theorem slice_bits {ds : List Nat} (hd : ∀ d ∈ ds, d < 256) {pos w : Nat} (h : pos + w ≤ 8 * ds.length) : valL (((ds.flatMap bits8).drop pos).take w) = numB ((ds.drop (pos / 8)).take ((pos + w + 7) / 8 - pos / 8)) / 2 ^ (8 * ((pos + w + 7) / 8) - (pos + w)) % 2 ^ w := by
  generalize hm : (pos + w + 7) / 8 - pos / 8 = m
  generalize hk : 8 * ((pos + w + 7) / 8) - (pos + w) = k
  have hsl : ((ds.drop (pos / 8)).take m).length = m := by rw [List.length_take, List.length_drop]; omega
  have hb := (numB_bits ((ds.drop (pos / 8)).take m) (fun b hb => hd b (List.mem_of_mem_drop (List.mem_of_mem_take hb))) m (by omega)).1
  rw [List.take_of_length_le (by omega)] at hb
  rw [← flat_take, ← flat_drop] at hb
  generalize numB ((ds.drop (pos / 8)).take m) = x at *
  have h8 : 8 * m = pos % 8 + (w + k) := by omega
  have hdrop : ((ds.flatMap bits8).drop pos).take w = ((((ds.flatMap bits8).drop (8 * (pos / 8))).take (8 * m)).drop (pos % 8)).take w := by
    rw [List.drop_take, List.take_take, List.drop_drop, show 8 * (pos / 8) + pos % 8 = pos by omega, Nat.min_eq_left (by omega)]
  rw [hdrop, ← hb, h8, bitsN_add, bitsN_add, List.drop_left' (bitsN_len _ _), List.take_left' (bitsN_len _ _), valL_bitsN]
def rF (d : Addr) (pos : Nat) : List (Str × V) := [("_data", .ref d), ("_position", .int (pos : Int))]
def RdAt (C : Addr) (H : Hp) (a d : Addr) (pos : Nat) : Prop := ∃ dx, H a = some (.ins C dx (rF d pos))
def FrA (a : Addr) (H H' : Hp) : Prop := ∀ b o, b ≠ a → H b = some o → H' b = some o
theorem FrA.ex {a : Addr} {H H1 : Hp} (h : Ex H H1) : FrA a H H1 := fun b o _ e => h b o e
theorem FrA.trans {a : Addr} {H H1 H2 : Hp} (h : FrA a H H1) (g : FrA a H1 H2) : FrA a H H2 := fun b o n e => g b o n (h b o n e)
theorem FrA.upd {a : Addr} {H H1 : Hp} {o : HO} (h : FrA a H H1) : FrA a H (upd H1 a o) := fun b p n e => by rw [upd_ne n]; exact h b p n e
theorem RdAt.ex {C a d : Addr} {H H1 : Hp} {pos : Nat} (e : Ex H H1) (h : RdAt C H a d pos) : RdAt C H1 a d pos := by
  obtain ⟨dx, h⟩ := h
  exact ⟨dx, e _ _ h⟩
theorem RdAt.ne {C a d : Addr} {H : Hp} {pos : Nat} {p : Addr} {xs : List V} (h : RdAt C H a d pos) (hp : H p = some (.lst xs)) : p ≠ a := by
  obtain ⟨dx, h⟩ := h
  intro e
  rw [e, h] at hp
  cases hp
def sp_rinit (C : Addr) : Sp := fun vs H Q _ => ∃ (a dx d : Addr) (at_ : Nat), vs = [.ref a, .ref d, .int (at_ : Int)] ∧ H a = some (.ins C dx []) ∧ at_ ≤ 1000000 ∧ ∀ H', FrA a H H' → RdAt C H' a d (8 * at_) → Q .non H'
theorem ok_BitReader_init (T : TX K mg) : FnOk P w K mg base CX0 1 T.a_BitReader_init T.d_BitReader_init ["self", "data", "at"] (sp_rinit T.C_BitReader) := by
  refine T.F_BitReader_init.ok sc_BitReader_init (fun vs H Q E h => by obtain ⟨a, dx, d, t, rfl, _⟩ := h; rfl) (fun cdv A outer s H vs Q E hr h => ?_)
  obtain ⟨a, dx, d, t, rfl, ha, ht, k⟩ := h
  refine ⟨_, PSs.nox (pss_cons (ps_fld (pv 0) (pv 1) rfl)
      (pss_one (ps_fld (pv 0) (pe_op op_mul (pv 2) pe_int) rfl))), ?_⟩
  refine q_fld T.cl_BitReader T.n_BitReader_data (v := .ref d) (ev_var rfl) (ev_var rfl) ha (by decide) fun H1 e1 => ?_
  refine s_fld T.cl_BitReader T.n_BitReader_position (v := .int ((8 * t : Nat) : Int)) (Ev.is (ev_I (ev_var rfl) ev_c (.inr (by decide))) (congrArg V.int (by omega))) (ev_var rfl) upd_same (Nat.le_of_ble_eq_true rfl) fun H2 e2 => ?_
  exact k _ ((FrA.ex e1).upd.trans (FrA.ex e2)).upd ⟨dx, upd_same⟩

def sp_place (C : Addr) (f : Nat → Int) : Sp := fun vs H Q _ => ∃ (a d : Addr) (pos : Nat), vs = [.ref a] ∧ RdAt C H a d pos ∧ RetV (.int (f pos)) H Q
theorem ok_BitReader_byte_place (T : TX K mg) : FnOk P w K mg base CX0 1 T.a_BitReader_byte_place T.d_BitReader_byte_place ["self"] (sp_place T.C_BitReader fun pos => (pos / 8 : Nat)) := by
  refine T.F_BitReader_byte_place.ok sc_BitReader_byte_place (fun vs H Q E h => by obtain ⟨a, d, pos, rfl, _⟩ := h; rfl) (fun cdv A outer s H vs Q E hr h => ?_)
  obtain ⟨a, d, pos, rfl, ⟨dx, ha⟩, k⟩ := h
  refine ⟨_, (pss_one (ps_ret (pe_op op_fdiv (pe_fld (pv 0) rfl) pe_int))), ?_⟩
  exact s_ret (Ev.is (ev_I (ev_fld T.cl_BitReader T.n_BitReader_position (v := .int (pos : Int)) (ev_var rfl) ha rfl) ev_c ⟨by decide, by decide⟩) (congrArg V.int (by show _ = ((pos / 8 : Nat) : Int); omega))) fun H1 e1 => k H1 e1
theorem ev_place {σ : L2.St} {H : Hp} {to : TE} {E : XK} {C a d : Addr} {pos : Nat} {m : Str} {f : Nat → Int} (h : Ev to σ H (.ref a)) (hR : RdAt C H a d pos) (hm : (rF d pos).lookup m = none) : Ev (tMeth C m (sp_place C f) [] E to tNil) σ H (.int (f pos)) := by
  obtain ⟨dx, ha⟩ := id hR
  exact ev_mth h ha hm ea_nil fun H1 e Q q _ => ⟨a, d, pos, rfl, hR.ex e, q⟩

def sp_readN (C : Addr) : Sp := fun vs H Q _ => ∃ (a d : Addr) (ds : List Nat) (pos wd : Nat), vs = [.ref a, .int (wd : Int)] ∧ RdAt C H a d pos ∧ H d = some (.lst ((cs ds).map V.int)) ∧ (∀ b ∈ ds, b < 256) ∧ wd ≤ 64 ∧ ds.length ≤ 100000 ∧ pos + wd ≤ 8 * ds.length ∧
  ∀ H', FrA a H H' → RdAt C H' a d (pos + wd) → Q (.int ((valL (((ds.flatMap bits8).drop pos).take wd) : Nat) : Int)) H'
theorem q_forSr {σ : L2.St} {H : Hp} {D : Ends} {tu tz : TS} {tl : TE} {g : TG} {xs : List V} (h : EvS K tl σ H xs) (k : ∀ p H1, Ex H H1 → SqL K H1 p xs → tSeq (tFor (iList K (tC (.ref p))) g tu) tz D σ H1) : tSeq (tFor (iList K tl) g tu) tz D σ H := h H (Ex.refl H) _ fun p H1 e hp => k p H1 e hp
theorem ok_BitReader_read (T : TX K mg) : FnOk P w K mg base CX0 1 T.a_BitReader_read T.d_BitReader_read ["self", "width"] (sp_readN T.C_BitReader) := by
  refine T.F_BitReader_read.ok sc_BitReader_read (fun vs H Q E h => by obtain ⟨a, d, ds, pos, wd, rfl, _⟩ := h; rfl) (fun cdv A outer s H vs Q E hr h => ?_)
  obtain ⟨a, d, ds, pos, wd, rfl, ⟨dx, ha⟩, hd, hds, hw, hlen, hp, k⟩ := h
  refine ⟨_, (pss_cons (ps_set (i := 2) sc_BitReader_read.nd rfl (Or.inl rfl) (pe_fld (pv 0) rfl))
      (pss_cons (ps_set (i := 3) sc_BitReader_read.nd rfl (Or.inl rfl) (pe_fld (pv 0) rfl))
      (pss_cons (ps_set (i := 4) sc_BitReader_read.nd rfl (Or.inl rfl) (pe_op op_add (pv 3) (pv 1)))
      (pss_cons (ps_if (pt_cmpR op_gt (pv 4) (pe_op op_mul (pe_callB (r := rLenS K) call_len_seq (by rfl) T.m_len PySem.boot_len (pa_cons (pv 2) pa_nil)) pe_int) (nomark _)) (pss_one ps_never) pss_nil)
      (pss_cons (ps_set (i := 5) sc_BitReader_read.nd rfl (Or.inl rfl) (pe_op op_fdiv (pe_op op_add (pv 4) pe_int) pe_int))
      (pss_cons (ps_set (i := 6) sc_BitReader_read.nd rfl (Or.inl rfl) pe_int)
      (pss_cons (ps_for PassesOwn.never rfl (pi_list (pe_slice (r := rSlL K) sl_list (pv 2) (po_some (pe_op op_fdiv (pv 3) pe_int)) (po_some (pv 5)))) (pg_name (i := 7) sc_BitReader_read.nd rfl (Or.inl rfl)) (pss_one (ps_set (i := 6) sc_BitReader_read.nd rfl (Or.inl rfl) (pe_op op_or (pe_op op_shl (pv 6) pe_int) (pv 7)))))
      (pss_cons (ps_fld (pv 0) (pv 4) rfl)
      (pss_one (ps_ret (pe_op op_and (pe_op op_shr (pv 6) (pe_op op_sub (pe_op op_mul (pv 5) pe_int) (pv 4))) (pe_op op_sub (pe_op op_shl pe_int (pv 1)) pe_int)))))))))))), ?_⟩
  refine q_asg (ev_fld T.cl_BitReader T.n_BitReader_data (v := .ref d) (ev_var rfl) ha rfl) fun H1 e1 => ?_
  refine q_asg (ev_fld T.cl_BitReader T.n_BitReader_position (v := .int (pos : Int)) (ev_var rfl) (e1 _ _ ha) rfl) fun H2 e2 => ?_
  refine q_asg (v := .int ((pos + wd : Nat) : Int)) (Ev.is (ev_I0 (ev_var rfl) (ev_var rfl)) (congrArg V.int (by omega))) fun H3 e3 => ?_
  have ex3 := (e1.trans e2).trans e3
  have hlv : ∀ {H1 : Hp}, Ex H H1 → Ev (tCB (rLenS K) (tCons (tVar 2) tNil)) [some (.ref a), some (.int (wd : Int)), some (.ref d), some (.int (pos : Int)), some (.int ((pos + wd : Nat) : Int)), none, none, none] H1 (.int (ds.length : Int)) := fun e => Ev.is (ev_lenS (Ev.s (ev_var rfl) (sq_of (e _ _ hd)))) (by rw [List.length_map, cs_len])
  refine q_when (b := decide (8 * ds.length < pos + wd)) (et_test (Ev.is (ev_I0 (ev_var rfl) (ev_I (hlv ex3) ev_c (.inr (by decide)))) (congrArg V.bl (decide_eq_decide.mpr (by show (_ : Int) < _ ↔ _; omega))))) (fun hb H4 e4 => ?_) (fun hb H4 e4 => ?_)
  · exact absurd (of_decide_eq_true hb) (by omega)
  refine q_asg (v := .int (((pos + wd + 7) / 8 : Nat) : Int)) (Ev.is (ev_I (ev_I0 (ev_var rfl) ev_c) ev_c ⟨by decide, by decide⟩) (congrArg V.int (by omega))) fun H5 e5 => ?_
  walk_at "asg"
  intro H6 e6
  have ex6 := ((ex3.trans e4).trans e5).trans e6
  have hsb := slice_bits hds hp
  generalize hbs : (ds.drop (pos / 8)).take ((pos + wd + 7) / 8 - pos / 8) = bs at *
  have hbl : bs.length ≤ 9 := by rw [← hbs, List.length_take]; omega
  have hb256 : ∀ b ∈ bs, b < 256 := fun b hb => hds b (by rw [← hbs] at hb; exact List.mem_of_mem_drop (List.mem_of_mem_take hb))
  refine q_forSr (xs := (cs bs).map V.int) (EvR.s (EvL.r (EvL.is (el_mid (ns := cs ds) (i := pos / 8) (j := (pos + wd + 7) / 8) (Ev.s (ev_var rfl) (sq_of (ex6 _ _ hd))) (Ev.is (ev_I (ev_var rfl) ev_c ⟨by decide, by decide⟩) (congrArg V.int (by omega))) (ev_var rfl)) (by rw [cs_drop, cs_take, hbs])))) fun p H7 e7 hq => ?_
  refine q_forLn (a := p) ev_c hq (fun i σ' H' => ∃ c, σ' = [some (.ref a), some (.int (wd : Int)), some (.ref d), some (.int (pos : Int)), some (.int ((pos + wd : Nat) : Int)), some (.int (((pos + wd + 7) / 8 : Nat) : Int)), some (.int ((numB (bs.take i) : Nat) : Int)), c] ∧ Ex H7 H')
    (fun H8 e8 => ⟨none, rfl, e8⟩) (fun i σ' H' _ h => by obtain ⟨_, _, e⟩ := h; exact ex_l e hq) ?_ ?_
  · rintro i x σ' H8 hx ⟨c, rfl, e8⟩
    obtain ⟨n, hn, hi, rfl⟩ := int_at hx
    rw [cs_len] at hi
    have hbi : bs[i]? = some bs[i] := List.getElem?_eq_getElem hi
    have hn2 := cs_at hbi
    rw [hn] at hn2
    have hn2 := Option.some.inj hn2
    have hlt : bs[i] < 256 := hb256 _ (List.getElem_mem hi)
    have hx64 := (numB_bits bs hb256 i (by omega)).2
    rw [show bs.take (i + 1) = bs.take i ++ [bs[i]] from by rw [List.take_add_one, hbi]; rfl, numB_snoc]
    generalize bs[i] = b at *
    subst hn2
    have hx64 : numB (bs.take i) < 2 ^ 64 := Nat.lt_of_lt_of_le hx64 (Nat.pow_le_pow_right (by decide) (by omega))
    generalize numB (bs.take i) = x at *
    refine s_asg (Ev.is (ev_I0 (ev_I (ev_var rfl) ev_c (show CPow (x : Int) 8 from ⟨by decide, by decide, by rw [Int.natAbs_natCast]; exact hx64⟩)) (ev_var rfl)) (congrArg V.int (a₂ := ((x * 2 ^ 8 + b : Nat) : Int)) ?_)) fun H9 e9 => ⟨_, rfl, e8.trans e9⟩
    show Builtin.bitOr ((x : Int) * 2 ^ 8) (b : Int) = _
    rw [_root_.Bits.bitOr_join' (by omega) (by show (b : Int) < 256; omega) (by omega)]
    show (b : Int) + (x : Int) * 256 = ((x * 256 + b : Nat) : Int)
    omega
  · rintro σ' H8 ⟨c, rfl, e8⟩
    rw [List.length_map, cs_len, List.take_length]
    have ex8 := (ex6.trans e7).trans e8
    refine q_fld T.cl_BitReader T.n_BitReader_position (v := .int ((pos + wd : Nat) : Int)) (ev_var rfl) (ev_var rfl) (ex8 _ _ ha) (Nat.le_of_ble_eq_true rfl) fun H9 e9 => ?_
    refine s_ret (v := .int ((valL (((ds.flatMap bits8).drop pos).take wd) : Nat) : Int)) (Ev.is (ev_I0 (ev_I (j := ((8 * ((pos + wd + 7) / 8) - (pos + wd) : Nat) : Int)) (ev_var rfl) (Ev.is (ev_I0 (ev_I (ev_var rfl) ev_c (.inr (by decide))) (ev_var rfl)) (congrArg V.int (by omega))) (by show (0 : Int) ≤ _; omega)) (ev_I0 (ev_I ev_c (ev_var rfl) (show CPow 1 (wd : Int) from ⟨by omega, by omega, by decide⟩)) ev_c)) (congrArg V.int ?_)) fun H10 e10 => ?_
    · rw [Int.toNat_natCast, Int.toNat_natCast, Int.one_mul, bitAnd_maskZ, pow_cast, pow_cast, hsb, Int.natCast_emod, Int.natCast_ediv]
    · exact k H10 (((FrA.ex ex8).trans (FrA.ex e9)).upd.trans (FrA.ex e10)) (RdAt.ex e10 ⟨dx, upd_same⟩)

/-- the bits from a position to the end of its byte -/
def restN (ds : List Nat) (pos : Nat) : Nat := ds.getD (pos / 8) 0 % 2 ^ (8 - pos % 8)
def sp_rest (C : Addr) : Sp := fun vs H Q _ => ∃ (a d : Addr) (ds : List Nat) (pos : Nat), vs = [.ref a] ∧ RdAt C H a d pos ∧ H d = some (.lst ((cs ds).map V.int)) ∧ ds.length ≤ 100000 ∧ RetV (.int ((restN ds pos : Nat) : Int)) H Q
theorem mask_rest (x p : Nat) : Builtin.bitAnd (x : Int) ((255 : Int) / 2 ^ (((p % 8 : Nat) : Int)).toNat) = ((x % 2 ^ (8 - p % 8) : Nat) : Int) := by
  have h8 : p % 8 < 8 := Nat.mod_lt _ (by decide)
  rw [Int.toNat_natCast, pow_cast]
  have e : (255 : Int) / ((2 ^ (p % 8) : Nat) : Int) = 2 ^ (8 - p % 8) - 1 := by
    generalize p % 8 = m at h8
    match m, h8 with
    | 0, _ => rfl
    | 1, _ => rfl
    | 2, _ => rfl
    | 3, _ => rfl
    | 4, _ => rfl
    | 5, _ => rfl
    | 6, _ => rfl
    | 7, _ => rfl
  rw [e, bitAnd_maskZ, pow_cast, Int.natCast_emod]
theorem ok_BitReader_rest_of_byte (T : TX K mg) : FnOk P w K mg base CX0 2 T.a_BitReader_rest_of_byte T.d_BitReader_rest_of_byte ["self"] (sp_rest T.C_BitReader) := by
  refine T.F_BitReader_rest_of_byte.ok sc_BitReader_rest_of_byte (fun vs H Q E h => by obtain ⟨a, d, ds, pos, rfl, _⟩ := h; rfl) (fun cdv A outer s H vs Q E hr h => ?_)
  obtain ⟨a, d, ds, pos, rfl, hR, hd, hlen, k⟩ := h
  obtain ⟨dx, ha⟩ := id hR
  refine ⟨_, (pss_cons (ps_set (i := 1) sc_BitReader_rest_of_byte.nd rfl (Or.inl rfl) (pe_meth0 (pv 0) T.cl_BitReader T.me_BitReader_byte_place (ok_BitReader_byte_place T) (hr.mono (by decide)) T.b_BitReader_byte_place .nil pass0))
      (pss_cons (ps_if (pt_cmpR op_ge (pv 1) (pe_callB (r := rLenS K) call_len_seq (by rfl) T.m_len PySem.boot_len (pa_cons (pe_fld (pv 0) rfl) pa_nil)) (nomark _)) (pss_one (ps_ret pe_int)) pss_nil)
      (pss_one (ps_ret (pe_op op_and (pe_ix (r := rIxL K) ix_list (pe_fld (pv 0) rfl) (pv 1) (fun _ _ => rfl)) (pe_op op_shr pe_int (pe_op op_mod (pe_fld (pv 0) rfl) pe_int))))))), ?_⟩
  refine q_asg (v := .int ((pos / 8 : Nat) : Int)) (ev_place (f := fun pos => (pos / 8 : Nat)) (ev_var rfl) hR rfl) fun H1 e1 => ?_
  have hD : ∀ {σ : L2.St} {H1 : Hp} {te : TE}, Ex H H1 → Ev te σ H1 (.ref a) → Ev (tFld K te "_data") σ H1 (.ref d) := fun e h => ev_fld T.cl_BitReader T.n_BitReader_data h (e _ _ ha) rfl
  refine q_when (b := decide (ds.length ≤ pos / 8)) (et_test (Ev.is (ev_I0 (ev_var rfl) (Ev.is (ev_lenS (Ev.s (hD e1 (ev_var rfl)) (sq_of (e1 _ _ hd)))) (by rw [List.length_map, cs_len]))) (congrArg V.bl (decide_eq_decide.mpr (by show (ds.length : Int) ≤ ((pos / 8 : Nat) : Int) ↔ _; omega))))) (fun hb H2 e2 => ?_) (fun hb H2 e2 => ?_)
  · have hb := of_decide_eq_true hb
    have hz : restN ds pos = 0 := by
      unfold restN
      rw [List.getD_eq_getElem?_getD, List.getElem?_eq_none (by omega)]
      exact Nat.zero_mod _
    rw [hz] at k
    exact s_ret (Ev.is ev_c rfl) fun H3 e3 => k H3 ((e1.trans e2).trans e3)
  · have hb := of_decide_eq_false hb
    have hat : ds[pos / 8]? = some (ds.getD (pos / 8) 0) := by rw [List.getD_eq_getElem?_getD, List.getElem?_eq_getElem (by omega)]; rfl
    refine s_ret (v := .int ((restN ds pos : Nat) : Int)) (Ev.is (ev_I0 (ev_at (Ev.s (hD (e1.trans e2) (ev_var rfl)) (sq_of ((e1.trans e2) _ _ hd))) (ev_var rfl) (at_of rfl (at_int (cs_at hat)))) (ev_I (j := ((pos % 8 : Nat) : Int)) ev_c (Ev.is (ev_I (ev_fld T.cl_BitReader T.n_BitReader_position (v := .int (pos : Int)) (ev_var rfl) ((e1.trans e2) _ _ ha) rfl) ev_c (by decide)) (congrArg V.int (by omega))) (by show (0 : Int) ≤ _; omega))) (congrArg V.int (mask_rest _ _))) fun H3 e3 => k H3 ((e1.trans e2).trans e3)
theorem ev_rest {σ : L2.St} {H : Hp} {to : TE} {E : XK} {C a d : Addr} {ds : List Nat} {pos : Nat} (h : Ev to σ H (.ref a)) (hR : RdAt C H a d pos) (hd : H d = some (.lst ((cs ds).map V.int))) (hl : ds.length ≤ 100000) : Ev (tMeth C "_rest_of_byte" (sp_rest C) [] E to tNil) σ H (.int ((restN ds pos : Nat) : Int)) := by
  obtain ⟨dx, ha⟩ := id hR
  exact ev_mth h ha rfl ea_nil fun H1 e Q q _ => ⟨a, d, ds, pos, rfl, hR.ex e, e _ _ hd, hl, q⟩

/-! ### bits of bytes by their places -/
theorem flat_at : ∀ (ds : List Nat) (i : Nat), i < 8 * ds.length → (ds.flatMap bits8)[i]? = some ((ds.getD (i / 8) 0).testBit (7 - i % 8))
  | [], i, h => by rw [List.length_nil] at h; omega
  | d :: r, i, h => by
    rw [List.length_cons] at h
    rw [List.flatMap_cons]
    by_cases hi : i < 8
    · rw [List.getElem?_append_left (by show i < 8; exact hi), bits8_N, bitsN_at hi, show i / 8 = 0 by omega, show i % 8 = i by omega]
      rfl
    · rw [List.getElem?_append_right (by show 8 ≤ i; omega)]
      show (r.flatMap bits8)[i - 8]? = _
      rw [flat_at r (i - 8) (by omega), show i / 8 = (i - 8) / 8 + 1 by omega, show i % 8 = (i - 8) % 8 by omega]
      rfl
theorem valL_next {bs : List Bool} {at_ i : Nat} {b : Bool} (h : bs[at_ + i]? = some b) : valL ((bs.drop at_).take (i + 1)) = 2 * valL ((bs.drop at_).take i) + b.toNat := by
  rw [List.take_add_one, List.getElem?_drop, h]
  exact valL_snoc _ _
theorem valL_rest {ds : List Nat} (hd : ∀ d ∈ ds, d < 256) {pos : Nat} (h : pos / 8 < ds.length) : valL (((ds.flatMap bits8).drop pos).take (8 - pos % 8)) = ds.getD (pos / 8) 0 % 2 ^ (8 - pos % 8) := by
  have e1 : (pos + (8 - pos % 8) + 7) / 8 - pos / 8 = 1 := by omega
  have e2 : 8 * ((pos + (8 - pos % 8) + 7) / 8) - (pos + (8 - pos % 8)) = 0 := by omega
  rw [slice_bits hd (by omega), e1, e2, List.drop_eq_getElem_cons h, List.take_succ_cons, List.take_zero, Nat.pow_zero, Nat.div_one]
  have e3 : ds.getD (pos / 8) 0 = ds[pos / 8] := by rw [List.getD_eq_getElem?_getD, List.getElem?_eq_getElem h]; rfl
  rw [e3]
  show (0 * 2 ^ 8 + ds[pos / 8]) % _ = _
  rw [Nat.zero_mul, Nat.zero_add]

def zrun (B : List Bool) (pos z : Nat) : Prop := (∀ i, i < z → B[pos + i]? = some false) ∧ B[pos + z]? = some true
def ahd (ds : List Nat) (pos pl : Nat) : Nat := if pl = pos / 8 then restN ds pos else ds.getD pl 0
theorem ahd_bit {ds : List Nat} {pos pl i : Nat} (hp : pl < ds.length) (h1 : 8 * pl ≤ pos + i) (h2 : pos + i < 8 * pl + 8) : (ds.flatMap bits8)[pos + i]? = some ((ahd ds pos pl).testBit (7 - (pos + i) % 8)) := by
  rw [flat_at ds (pos + i) (by omega), show (pos + i) / 8 = pl by omega]
  unfold ahd
  split
  · rename_i h
    unfold restN
    rw [Nat.testBit_mod_two_pow, decide_eq_true (by omega), Bool.true_and, h]
  · rfl
theorem ahd_lt {ds : List Nat} (hds : ∀ b ∈ ds, b < 256) (pos pl : Nat) : ahd ds pos pl < 2 ^ (if pl = pos / 8 then 8 - pos % 8 else 8) := by
  unfold ahd
  split
  · exact Nat.mod_lt _ (Nat.two_pow_pos _)
  · by_cases h : pl < ds.length
    · rw [List.getD_eq_getElem?_getD, List.getElem?_eq_getElem h]
      exact hds _ (List.getElem_mem h)
    · rw [List.getD_eq_getElem?_getD, List.getElem?_eq_none (by omega)]
      exact (by decide : 0 < 256)
def sp_readUN (C : Addr) : Sp := fun vs H Q _ => ∃ (a d : Addr) (ds : List Nat) (pos z : Nat), vs = [.ref a] ∧ RdAt C H a d pos ∧ H d = some (.lst ((cs ds).map V.int)) ∧ (∀ b ∈ ds, b < 256) ∧ ds.length ≤ 100000 ∧ zrun (ds.flatMap bits8) pos z ∧
  ∀ H', FrA a H H' → RdAt C H' a d (pos + z + 1) → Q (.int (z : Int)) H'
theorem zrun_one {B : List Bool} {p y z : Nat} (h : zrun B p y) (g : zrun B p z) : y = z := by
  rcases Nat.lt_trichotomy y z with l | l | l
  · have := g.1 y l
    rw [h.2] at this
    cases this
  · exact l
  · have := h.1 z l
    rw [g.2] at this
    cases this
theorem ev_bitsU {σ : L2.St} {H : Hp} {to : TE} {i : Int} (h : Ev to σ H (.int i)) : Ev (tBits to) σ H (.int ((Builtin.Int.intBits i : Nat) : Int)) := fun H1 e Q q => h H1 e _ fun H2 e2 => ⟨i, rfl, q H2 e2⟩
theorem ok_BitReader_read_unary (T : TX K mg) : FnOk P w K mg base CX0 3 T.a_BitReader_read_unary T.d_BitReader_read_unary ["self"] (sp_readUN T.C_BitReader) := by
  refine T.F_BitReader_read_unary.ok sc_BitReader_read_unary (fun vs H Q E h => by obtain ⟨a, d, ds, pos, z, rfl, _⟩ := h; rfl) (fun cdv A outer s H vs Q E hr h => ?_)
  obtain ⟨a, d, ds, pos, zz, rfl, hR, hd, hds, hlen, hzz, k⟩ := h
  obtain ⟨dx, ha⟩ := id hR
  refine ⟨_, (pss_cons (ps_set (i := 1) sc_BitReader_read_unary.nd rfl (Or.inl rfl) (pe_fld (pv 0) rfl))
      (pss_cons (ps_set (i := 2) sc_BitReader_read_unary.nd rfl (Or.inl rfl) (pe_op op_fdiv (pe_fld (pv 0) rfl) pe_int))
      (pss_cons (ps_set (i := 3) sc_BitReader_read_unary.nd rfl (Or.inl rfl) (pe_meth0 (pv 0) T.cl_BitReader T.me_BitReader_rest_of_byte (ok_BitReader_rest_of_byte T) (hr.mono (by decide)) T.b_BitReader_rest_of_byte .nil pass0))
      (pss_cons (ps_while PassesOwn.never (pt_cmpR op_eq (pv 3) pe_int (nomark _)) (pss_cons (ps_aug (i := 2) sc_BitReader_read_unary.nd rfl (Or.inl rfl) pe_int ip_add)
        (pss_cons (ps_if (pt_cmpR op_ge (pv 2) (pe_callB (r := rLenS K) call_len_seq (by rfl) T.m_len PySem.boot_len (pa_cons (pv 1) pa_nil)) (nomark _)) (pss_one ps_never) pss_nil)
        (pss_one (ps_set (i := 3) sc_BitReader_read_unary.nd rfl (Or.inl rfl) (pe_ix (r := rIxL K) ix_list (pv 1) (pv 2) (fun _ _ => rfl)))))))
      (pss_cons (ps_set (i := 4) sc_BitReader_read_unary.nd rfl (Or.inl rfl) (pe_op op_sub (pe_op op_add (pe_op op_mul (pv 2) pe_int) pe_int) (pe_bits (pv 3))))
      (pss_cons (ps_set (i := 5) sc_BitReader_read_unary.nd rfl (Or.inl rfl) (pe_op op_sub (pv 4) (pe_fld (pv 0) rfl)))
      (pss_cons (ps_fld (pv 0) (pe_op op_add (pv 4) pe_int) rfl)
      (pss_one (ps_ret (pv 5)))))))))), ?_⟩
  refine q_asg (ev_fld T.cl_BitReader T.n_BitReader_data (v := .ref d) (ev_var rfl) ha rfl) fun H1 e1 => ?_
  refine q_asg (v := .int ((pos / 8 : Nat) : Int)) (Ev.is (ev_I (ev_fld T.cl_BitReader T.n_BitReader_position (v := .int (pos : Int)) (ev_var rfl) (e1 _ _ ha) rfl) ev_c ⟨by decide, by decide⟩) (congrArg V.int (by show _ = ((pos / 8 : Nat) : Int); omega))) fun H2 e2 => ?_
  have ex2 := e1.trans e2
  refine q_asg (v := .int ((ahd ds pos (pos / 8) : Nat) : Int)) (Ev.is (ev_rest (ev_var rfl) (hR.ex ex2) (ex2 _ _ hd) hlen) (congrArg V.int (by unfold ahd; rw [if_pos rfl]))) fun H3 e3 => ?_
  have hlv : ∀ {σ : L2.St} {H1 : Hp} {te : TE}, Ex H H1 → Ev te σ H1 (.ref d) → Ev (tCB (rLenS K) (tCons te tNil)) σ H1 (.int (ds.length : Int)) := fun e h => Ev.is (ev_lenS (Ev.s h (sq_of (e _ _ hd)))) (by rw [List.length_map, cs_len])
  refine q_while (fun m σ' H' => ∃ pl : Nat, m = ds.length - pl ∧ σ' = [some (.ref a), some (.ref d), some (.int (pl : Int)), some (.int ((ahd ds pos pl : Nat) : Int)), none, none] ∧ Ex H H' ∧ pos / 8 ≤ pl ∧ (pl = pos / 8 ∨ pl < ds.length) ∧ ∀ i, pos + i < 8 * pl → (ds.flatMap bits8)[pos + i]? = some false) (ds.length - pos / 8) ⟨pos / 8, rfl, rfl, ex2.trans e3, Nat.le_refl _, .inl rfl, fun i hi => by omega⟩ ?_
  rintro m _ H4 ⟨pl, rfl, rfl, ex, hpl, hor, hfal⟩
  refine ⟨decide (ahd ds pos pl = 0), et_test (Ev.is (ev_eq (ev_var rfl) ev_c rfl) (congrArg V.bl (decide_eq_decide.mpr ⟨fun h => by have := V.int.inj h; omega, fun h => by rw [h]; rfl⟩))), fun hb H5 e5 => ?_, fun hb H5 e5 => ?_⟩
  · have hb := of_decide_eq_true hb
    refine ⟨fun σ2 H2 => ∃ m', m' < ds.length - pl ∧ _, fun σ2 H2 h => h, ?_⟩
    refine q_aug (b := 1) rfl ev_c fun H6 e6 => ?_
    rw [show (pl : Int) + 1 = ((pl + 1 : Nat) : Int) by omega]
    have ex6 := (ex.trans e5).trans e6
    have hz : ∀ i, pos + i < 8 * (pl + 1) → pos + i < 8 * ds.length → (ds.flatMap bits8)[pos + i]? = some false := fun i hi hi2 => by
      by_cases h : pos + i < 8 * pl
      · exact hfal i h
      · rw [ahd_bit (pl := pl) (by omega) (by omega) (by omega), hb, Nat.zero_testBit]
    refine q_when (b := decide (ds.length ≤ pl + 1)) (et_test (Ev.is (ev_I0 (ev_var rfl) (hlv ex6 (ev_var rfl))) (congrArg V.bl (decide_eq_decide.mpr (by show (ds.length : Int) ≤ ((pl + 1 : Nat) : Int) ↔ _; omega))))) (fun hc H7 e7 => ?_) (fun hc H7 e7 => ?_)
    · have hc := of_decide_eq_true hc
      have hno : ∀ i : Nat, (ds.flatMap bits8)[pos + i]? ≠ some true := fun i => ?_
      · exact absurd hzz.2 (hno zz)
      by_cases h : pos + i < 8 * ds.length
      · rw [hz i (by omega) h]
        decide
      · rw [List.getElem?_eq_none (by rw [bits_flat_len]; omega)]
        decide
    · have hc := of_decide_eq_false hc
      have hat : ds[pl + 1]? = some (ds.getD (pl + 1) 0) := by rw [List.getD_eq_getElem?_getD, List.getElem?_eq_getElem (by omega)]; rfl
      refine s_asg (v := .int ((ahd ds pos (pl + 1) : Nat) : Int)) (Ev.is (ev_at (Ev.s (ev_var rfl) (sq_of ((ex6.trans e7) _ _ hd))) (ev_var rfl) (at_of rfl (at_int (cs_at hat)))) (congrArg V.int (by unfold ahd; rw [if_neg (by omega)]))) fun H8 e8 => ?_
      exact ⟨ds.length - (pl + 1), by omega, pl + 1, rfl, rfl, (ex6.trans e7).trans e8, by omega, .inr (by omega), fun i hi => hz i hi (by omega)⟩
  · have hb := of_decide_eq_false hb
    have hlt := ahd_lt hds pos pl
    have hpl2 : pl < ds.length := by
      rcases hor with h | h
      · by_cases h2 : pl < ds.length
        · exact h2
        · exfalso
          apply hb
          unfold ahd restN
          rw [if_pos h, List.getD_eq_getElem?_getD, List.getElem?_eq_none (by omega)]
          exact Nat.zero_mod _
      · exact h
    obtain ⟨x, hx⟩ : ∃ x, ahd ds pos pl = x := ⟨_, rfl⟩
    have hbit := fun i h1 h2 => ahd_bit (ds := ds) (pos := pos) (pl := pl) (i := i) hpl2 h1 h2
    rw [hx] at hb hlt hbit
    rw [hx]
    have hL : Builtin.Int.intBits (x : Int) = x.log2 + 1 := by
      unfold Builtin.Int.intBits
      rw [if_neg (by simpa using hb), Int.natAbs_natCast]
    obtain ⟨L, hLe⟩ : ∃ L, x.log2 + 1 = L := ⟨_, rfl⟩
    have hxL : x < 2 ^ L := by rw [← hLe]; exact Nat.lt_log2_self
    have hx1 : x.testBit (L - 1) = true := by rw [← hLe, Nat.add_sub_cancel]; exact Nat.testBit_log2 hb
    have hL8 : L ≤ if pl = pos / 8 then 8 - pos % 8 else 8 := by
      have h3 : 2 ^ (L - 1) ≤ x := by rw [← hLe, Nat.add_sub_cancel]; exact Nat.log2_self_le hb
      have h4 := (Nat.pow_lt_pow_iff_right (by decide : 1 < 2)).mp (Nat.lt_of_le_of_lt h3 hlt)
      omega
    have hone : pos ≤ 8 * pl + 8 - L ∧ 1 ≤ L ∧ L ≤ 8 := by
      split at hL8 <;> omega
    have hz : zrun (ds.flatMap bits8) pos (8 * pl + 8 - L - pos) := by
      refine ⟨fun i hi => ?_, ?_⟩
      · by_cases h : pos + i < 8 * pl
        · exact hfal i h
        · rw [hbit i (by omega) (by omega)]
          have h5 : x < 2 ^ (7 - (pos + i) % 8) := Nat.lt_of_lt_of_le hxL (Nat.pow_le_pow_right (by decide) (by omega))
          rw [Nat.testBit_lt_two_pow h5]
      · rw [hbit _ (by omega) (by omega), show 7 - (pos + (8 * pl + 8 - L - pos)) % 8 = L - 1 by omega, hx1]
    obtain rfl := zrun_one hzz hz
    have ex5 := ex.trans e5
    refine q_asg (v := .int ((8 * pl + 8 - L : Nat) : Int)) (Ev.is (ev_I0 (ev_I0 (ev_I (ev_var rfl) ev_c (.inr (by decide))) ev_c) (ev_bitsU (ev_var rfl))) (congrArg V.int (by rw [hL, hLe]; omega))) fun H6 e6 => ?_
    refine q_asg (v := .int ((8 * pl + 8 - L - pos : Nat) : Int)) (Ev.is (ev_I0 (ev_var rfl) (ev_fld T.cl_BitReader T.n_BitReader_position (v := .int (pos : Int)) (ev_var rfl) ((ex5.trans e6) _ _ ha) rfl)) (congrArg V.int (by omega))) fun H7 e7 => ?_
    have ex7 := (ex5.trans e6).trans e7
    refine q_fld T.cl_BitReader T.n_BitReader_position (v := .int ((pos + (8 * pl + 8 - L - pos) + 1 : Nat) : Int)) (Ev.is (ev_I0 (ev_var rfl) ev_c) (congrArg V.int (by omega))) (ev_var rfl) (ex7 _ _ ha) (Nat.le_of_ble_eq_true rfl) fun H8 e8 => ?_
    exact s_ret (ev_var rfl) fun H9 e9 => k H9 (((FrA.ex ex7).trans (FrA.ex e8)).upd.trans (FrA.ex e9)) (RdAt.ex e9 ⟨dx, upd_same⟩)

def sgN (wd v : Nat) : Int := if 2 * v < 2 ^ wd then (v : Int) else (v : Int) - (2 ^ wd : Nat)
def sp_readSN (C : Addr) : Sp := fun vs H Q _ => ∃ (a d : Addr) (ds : List Nat) (pos wd : Nat), vs = [.ref a, .int (wd : Int)] ∧ RdAt C H a d pos ∧ H d = some (.lst ((cs ds).map V.int)) ∧ (∀ b ∈ ds, b < 256) ∧ wd ≤ 64 ∧ ds.length ≤ 100000 ∧ pos + wd ≤ 8 * ds.length ∧
  ∀ H', FrA a H H' → RdAt C H' a d (pos + wd) → Q (.int (sgN wd (valL (((ds.flatMap bits8).drop pos).take wd)))) H'
theorem ok_BitReader_read_signed (T : TX K mg) : FnOk P w K mg base CX0 2 T.a_BitReader_read_signed T.d_BitReader_read_signed ["self", "width"] (sp_readSN T.C_BitReader) := by
  refine T.F_BitReader_read_signed.ok sc_BitReader_read_signed (fun vs H Q E h => by obtain ⟨a, d, ds, pos, wd, rfl, _⟩ := h; rfl) (fun cdv A outer s H vs Q E hr h => ?_)
  obtain ⟨a, d, ds, pos, wd, rfl, hR, hd, hds, hw, hlen, hp, k⟩ := h
  obtain ⟨dx, ha⟩ := id hR
  refine ⟨_, (pss_cons (ps_set (i := 2) sc_BitReader_read_signed.nd rfl (Or.inl rfl) (pe_meth (pv 0) T.cl_BitReader T.me_BitReader_read (ok_BitReader_read T) (hr.mono (by decide)) T.b_BitReader_read .nil pass0 (pa_cons (pv 1) pa_nil)))
      (pss_cons (ps_if (pt_cmpR op_lt (pe_op op_mul (pv 2) pe_int) (pe_op op_shl pe_int (pv 1)) (nomark _)) (pss_one (ps_ret (pv 2))) pss_nil)
      (pss_one (ps_ret (pe_op op_sub (pv 2) (pe_op op_shl pe_int (pv 1))))))), ?_⟩
  refine q_asgM (sp := sp_readN T.C_BitReader) (m := "read") (dvs := []) (vs := [.int (wd : Int)]) (ev_var rfl) ha rfl (ea_cons (ev_var rfl) ea_nil) fun H1 e1 => ⟨a, d, ds, pos, wd, rfl, hR.ex e1, e1 _ _ hd, hds, hw, hlen, hp, fun H2 hF hR2 => ?_⟩
  generalize valL (((ds.flatMap bits8).drop pos).take wd) = v at *
  have hsh : ∀ {σ : L2.St} {H1 : Hp} {te : TE}, Ev te σ H1 (.int (wd : Int)) → Ev (tOp (rI CPow fun i j => .int (i * 2 ^ j.toNat)) (tC (.int 1)) te) σ H1 (.int ((2 ^ wd : Nat) : Int)) := fun h => Ev.is (ev_I ev_c h (show CPow 1 (wd : Int) from ⟨by omega, by omega, by decide⟩)) (congrArg V.int (by rw [Int.toNat_natCast, Int.one_mul, pow_cast]))
  refine q_when (b := decide (2 * v < 2 ^ wd)) (et_test (Ev.is (ev_I0 (ev_I (ev_var rfl) ev_c (.inr (by decide))) (hsh (ev_var rfl))) (congrArg V.bl (decide_eq_decide.mpr (by show (v : Int) * 2 < ((2 ^ wd : Nat) : Int) ↔ _; generalize 2 ^ wd = q; omega))))) (fun hb H3 e3 => ?_) (fun hb H3 e3 => ?_)
  · have hb := of_decide_eq_true hb
    unfold sgN at k
    rw [if_pos hb] at k
    exact s_ret (ev_var rfl) fun H4 e4 => k H4 (((FrA.ex e1).trans hF).trans (FrA.ex (e3.trans e4))) (hR2.ex (e3.trans e4))
  · have hb := of_decide_eq_false hb
    unfold sgN at k
    rw [if_neg hb] at k
    exact s_ret (ev_I0 (ev_var rfl) (hsh (ev_var rfl))) fun H4 e4 => k H4 (((FrA.ex e1).trans hF).trans (FrA.ex (e3.trans e4))) (hR2.ex (e3.trans e4))

/-! ### BitWriter -/
def wF (L : Addr) (h n : Nat) : List (Str × V) := [("_whole", .ref L), ("_held", .int (h : Int)), ("_held_bits", .int (n : Int))]
def WrAt (C : Addr) (H : Hp) (a L : Addr) (ms : List Bool) : Prop := ∃ (dx : Addr) (ws : List Nat) (h n : Nat), H a = some (.ins C dx (wF L h n)) ∧ H L = some (.lst ((cs ws).map V.int)) ∧ n < 8 ∧ h < 2 ^ n ∧ (∀ b ∈ ws, b < 256) ∧ ws.flatMap bits8 ++ bitsN n h = ms
def Fr (a L : Addr) (H H' : Hp) : Prop := ∀ b o, b ≠ a → b ≠ L → H b = some o → H' b = some o
theorem Fr.trans {a L : Addr} {H H1 H2 : Hp} (h : Fr a L H H1) (g : Fr a L H1 H2) : Fr a L H H2 := fun b o n1 n2 e => g b o n1 n2 (h b o n1 n2 e)
theorem Fr.ex {a L : Addr} {H H1 : Hp} (h : Ex H H1) : Fr a L H H1 := fun b o _ _ e => h b o e
theorem Fr.upd1 {a L : Addr} {H H1 : Hp} {o : HO} (h : Fr a L H H1) : Fr a L H (upd H1 a o) := fun b p n1 n2 e => by rw [upd_ne n1]; exact h b p n1 n2 e
theorem Fr.upd2 {a L : Addr} {H H1 : Hp} {o : HO} (h : Fr a L H H1) : Fr a L H (upd H1 L o) := fun b p n1 n2 e => by rw [upd_ne n2]; exact h b p n1 n2 e
theorem WrAt.ex {C a L : Addr} {H H1 : Hp} {ms : List Bool} (e : Ex H H1) (h : WrAt C H a L ms) : WrAt C H1 a L ms := by
  obtain ⟨dx, ws, hd, n, h1, h2, h3⟩ := h
  exact ⟨dx, ws, hd, n, e _ _ h1, e _ _ h2, h3⟩
theorem WrAt.ne {C a L : Addr} {H : Hp} {ms : List Bool} (h : WrAt C H a L ms) : a ≠ L := by
  obtain ⟨dx, ws, hd, n, h1, h2, h3⟩ := h
  intro e
  rw [e, h2] at h1
  cases h1
theorem WrAt.len {C a L : Addr} {H : Hp} {ms : List Bool} (h : WrAt C H a L ms) : ∃ dx ws hd n, H a = some (.ins C dx (wF L hd n)) ∧ H L = some (.lst ((cs ws).map V.int)) ∧ n < 8 ∧ hd < 2 ^ n ∧ (∀ b ∈ ws, b < 256) ∧ ws.flatMap bits8 ++ bitsN n hd = ms ∧ ms.length = 8 * ws.length + n := by
  obtain ⟨dx, ws, hd, n, h1, h2, h3, h4, h5, h6⟩ := h
  exact ⟨dx, ws, hd, n, h1, h2, h3, h4, h5, h6, by rw [← h6, List.length_append, bits_flat_len, bitsN_len]⟩
def sp_winit (C : Addr) : Sp := fun vs H Q _ => ∃ a dx, vs = [.ref a] ∧ H a = some (.ins C dx []) ∧ ∀ L H', H L = none → (∀ b o, b ≠ a → H b = some o → H' b = some o) → WrAt C H' a L [] → Q .non H'
theorem ok_BitWriter_init (T : TX K mg) : FnOk P w K mg base CX0 1 T.a_BitWriter_init T.d_BitWriter_init ["self"] (sp_winit T.C_BitWriter) := by
  refine T.F_BitWriter_init.ok sc_BitWriter_init (fun vs H Q E h => by obtain ⟨a, dx, rfl, _⟩ := h; rfl) (fun cdv A outer s H vs Q E hr h => ?_)
  obtain ⟨a, dx, rfl, ha, k⟩ := h
  refine ⟨_, (pss_cons (ps_fld (pv 0) (pe_lst pa_nil) rfl)
      (pss_cons (ps_fld (pv 0) pe_int rfl)
      (pss_one (ps_fld (pv 0) pe_int rfl)))), ?_⟩
  refine q_fldL (xs := []) T.cl_BitWriter T.n_BitWriter_whole (el_lst ea_nil (by decide)) (fun _ _ => ev_var rfl) ha (by decide) fun L H2 hL1 e2 g2 => ?_
  have hne : a ≠ L := fresh_ne hL1 ha
  refine q_fld T.cl_BitWriter T.n_BitWriter_held (v := .int 0) ev_c (ev_var rfl) upd_same (Nat.le_of_ble_eq_true rfl) fun H3 e3 => ?_
  refine s_fld T.cl_BitWriter T.n_BitWriter_held_bits (v := .int 0) ev_c (ev_var rfl) upd_same (Nat.le_of_ble_eq_true rfl) fun H4 e4 => ?_
  refine k L _ hL1 (fun b o n e => ?_) ⟨dx, [], 0, 0, upd_same, ?_, by decide, by decide, (fun b hb => by cases hb), rfl⟩
  · rw [upd_ne n]
    refine e4 _ _ ?_
    rw [upd_ne n]
    refine e3 _ _ ?_
    rw [upd_ne n]
    exact e2 _ _ e
  · rw [upd_ne hne.symm]
    refine e4 _ _ ?_
    rw [upd_ne hne.symm]
    refine e3 _ _ ?_
    rw [upd_ne hne.symm]
    exact g2
def sp_wwrite (C : Addr) : Sp := fun vs H Q _ => ∃ (a L : Addr) (ms : List Bool) (wd : Nat) (v : Int), vs = [.ref a, .int (wd : Int), .int v] ∧ WrAt C H a L ms ∧ wd ≤ 1000 ∧ ms.length + wd ≤ 400000 ∧ ∀ H', Fr a L H H' → WrAt C H' a L (ms ++ bitsN wd (v % 2 ^ wd).toNat) → Q .non H'
theorem ok_BitWriter_write (T : TX K mg) : FnOk P w K mg base CX0 1 T.a_BitWriter_write T.d_BitWriter_write ["self", "width", "value"] (sp_wwrite T.C_BitWriter) := by
  refine T.F_BitWriter_write.ok sc_BitWriter_write (fun vs H Q E h => by obtain ⟨a, L, ms, wd, v, rfl, _⟩ := h; rfl) (fun cdv A outer s H vs Q E hr h => ?_)
  obtain ⟨a, L, ms, wd, v, rfl, hW, hw, hlen, k⟩ := h
  obtain ⟨dx, ws, hd, n, ha, hl, hn, hh, hws, hbits, hml⟩ := hW.len
  have hne := hW.ne
  refine ⟨_, (pss_cons (ps_set (i := 3) sc_BitWriter_write.nd rfl (Or.inl rfl) (pe_op op_or (pe_op op_shl (pe_fld (pv 0) rfl) (pv 1)) (pe_op op_and (pv 2) (pe_op op_sub (pe_op op_shl pe_int (pv 1)) pe_int))))
      (pss_cons (ps_set (i := 4) sc_BitWriter_write.nd rfl (Or.inl rfl) (pe_op op_add (pe_fld (pv 0) rfl) (pv 1)))
      (pss_cons (ps_while PassesOwn.never (pt_cmpR op_ge (pv 4) pe_int (nomark _)) (pss_cons (ps_aug (i := 4) sc_BitWriter_write.nd rfl (Or.inl rfl) pe_int ip_sub)
        (pss_cons (ps_expr (pe_bm PySem.F.plainAttrs_list PySem.F.slot_list_append PySem.F.type_list_append mt_append (pe_fld (pv 0) rfl) (pa_cons (pe_op op_shr (pv 3) (pv 4)) pa_nil)))
        (pss_one (ps_aug (i := 3) sc_BitWriter_write.nd rfl (Or.inl rfl) (pe_op op_sub (pe_op op_shl pe_int (pv 4)) pe_int) iop_and)))))
      (pss_cons (ps_fld (pv 0) (pv 3) rfl)
      (pss_one (ps_fld (pv 0) (pv 4) rfl)))))), ?_⟩
  have hm0 := Int.emod_nonneg v (show ((2 ^ wd : Nat) : Int) ≠ 0 by have := Nat.two_pow_pos wd; omega)
  have hm1 := Int.emod_lt_of_pos v (show (0 : Int) < ((2 ^ wd : Nat) : Int) by have := Nat.two_pow_pos wd; omega)
  rw [pow_cast wd] at k
  have hvv : Builtin.bitAnd v (1 * 2 ^ ((wd : Int)).toNat - 1) = (((v % ((2 ^ wd : Nat) : Int)).toNat : Nat) : Int) := by
    rw [Int.toNat_natCast, Int.one_mul, bitAnd_maskZ, pow_cast]
    omega
  have hvl : (v % ((2 ^ wd : Nat) : Int)).toNat < 2 ^ wd := by omega
  generalize hvn : (v % ((2 ^ wd : Nat) : Int)).toNat = vn at *
  have hh7 : hd < 256 := Nat.lt_of_lt_of_le hh (Nat.pow_le_pow_right (n := 2) (by decide) (by omega : n ≤ 8))
  refine q_asg (v := .int ((hd * 2 ^ wd + vn : Nat) : Int)) (Ev.is (ev_I0 (ev_I (ev_fld T.cl_BitWriter T.n_BitWriter_held (v := .int (hd : Int)) (ev_var rfl) ha rfl) (ev_var rfl) (show CPow (hd : Int) (wd : Int) from ⟨by omega, by omega, by rw [Int.natAbs_natCast]; omega⟩)) (ev_I0 (ev_var rfl) (ev_I0 (ev_I ev_c (ev_var rfl) (show CPow 1 (wd : Int) from ⟨by omega, by omega, by decide⟩)) ev_c))) (congrArg V.int ?_)) fun H1 e1 => ?_
  · rw [hvv, Int.toNat_natCast, _root_.Bits.bitOr_join' (by omega) (by rw [pow_cast]; omega) (by omega), Int.natCast_add, Int.natCast_mul, pow_cast]
    omega
  refine q_asg (v := .int ((n + wd : Nat) : Int)) (Ev.is (ev_I0 (ev_fld T.cl_BitWriter T.n_BitWriter_held_bits (v := .int (n : Int)) (ev_var rfl) (e1 _ _ ha) rfl) (ev_var rfl)) (congrArg V.int (by omega))) fun H2 e2 => ?_
  have ex2 := e1.trans e2
  refine q_while (fun m σ' H' => ∃ (x m' : Nat) (us : List Nat), m = m' ∧ m' ≤ n + wd ∧ σ' = [some (.ref a), some (.int (wd : Int)), some (.int v), some (.int (x : Int)), some (.int (m' : Int))] ∧ Fr a L H H' ∧ H' a = some (.ins T.C_BitWriter dx (wF L hd n)) ∧ H' L = some (.lst ((cs us).map V.int)) ∧ x < 2 ^ m' ∧ (∀ b ∈ us, b < 256) ∧ us.flatMap bits8 ++ bitsN m' x = ms ++ bitsN wd vn) (n + wd) ⟨hd * 2 ^ wd + vn, n + wd, ws, rfl, Nat.le_refl _, rfl, Fr.ex ex2, ex2 _ _ ha, ex2 _ _ hl, ?_, hws, ?_⟩ ?_
  · rw [Nat.pow_add]
    have : (hd + 1) * 2 ^ wd ≤ 2 ^ n * 2 ^ wd := Nat.mul_le_mul_right _ hh
    rw [Nat.add_mul, Nat.one_mul] at this
    omega
  · rw [bitsN_cat hvl, ← List.append_assoc, hbits]
  rintro m _ H3 ⟨x, _, us, rfl, hmle, rfl, hF, ha3, hl3, hx, hus, hb⟩
  have hul : 8 * us.length + m = ms.length + wd := by
    have := congrArg List.length hb
    rw [List.length_append, List.length_append, bits_flat_len, bitsN_len, bitsN_len] at this
    exact this
  refine ⟨decide (8 ≤ m), et_test (Ev.is (ev_I0 (ev_var rfl) ev_c) (congrArg V.bl (decide_eq_decide.mpr (by show (8 : Int) ≤ (m : Int) ↔ _; omega)))), fun hb8 H4 e4 => ?_, fun hb8 H4 e4 => ?_⟩
  · have h8 : 8 ≤ m := of_decide_eq_true hb8
    refine ⟨fun σ2 H2 => ∃ m', m' < m ∧ _, fun σ2 H2 h => h, ?_⟩
    refine q_aug (b := 8) rfl ev_c fun H5 e5 => ?_
    have hm8 : (m : Int) - 8 = ((m - 8 : Nat) : Int) := by omega
    rw [hm8]
    refine q_app (v := .int ((x / 2 ^ (m - 8) : Nat) : Int)) ((e4.trans e5) _ _ hl3) (ev_fld T.cl_BitWriter T.n_BitWriter_whole (v := .ref L) (ev_var rfl) ((e4.trans e5) _ _ ha3) rfl) (Ev.is (ev_I (ev_var rfl) (ev_var rfl) (by show (0 : Int) ≤ _; omega)) (congrArg V.int (by rw [Int.toNat_natCast, pow_cast, Int.natCast_ediv]))) (by rw [List.length_map, cs_len]; omega) fun H6 e6 => ?_
    refine s_augR (a := (x : Int)) (b := 1 * 2 ^ (m - 8) - 1) rfl (ev_I0 (ev_I ev_c (ev_var rfl) (show CPow 1 ((m - 8 : Nat) : Int) from ⟨by omega, by omega, by decide⟩)) ev_c) fun H7 e7 => ?_
    rw [Int.one_mul, bitAnd_maskZ, pow_cast, show (x : Int) % ((2 ^ (m - 8) : Nat) : Int) = ((x % 2 ^ (m - 8) : Nat) : Int) from (Int.natCast_emod _ _).symm]
    refine ⟨m - 8, by omega, x % 2 ^ (m - 8), m - 8, us ++ [x / 2 ^ (m - 8)], rfl, by omega, rfl, ?_, ?_, ?_, Nat.mod_lt _ (Nat.two_pow_pos _), ?_, ?_⟩
    · exact ((hF.trans (Fr.ex ((e4.trans e5).trans e6))).upd2).trans (Fr.ex e7)
    · refine e7 _ _ ?_
      rw [upd_ne hne]
      exact e6 _ _ ((e4.trans e5) _ _ ha3)
    · refine e7 _ _ ?_
      rw [upd_same, cs_append, List.map_append]
      rfl
    · intro b hb
      rcases List.mem_append.mp hb with h | h
      · exact hus b h
      · cases List.mem_singleton.mp h
        rw [show m = 8 + (m - 8) by omega, Nat.pow_add] at hx
        exact Nat.div_lt_of_lt_mul (by rw [Nat.mul_comm]; exact hx)
    · rw [← hb, List.flatMap_append, List.flatMap_cons, List.flatMap_nil, List.append_nil, List.append_assoc]
      congr 1
      conv => rhs; rw [show m = 8 + (m - 8) by omega, bitsN_add]
      rw [bitsN_mod]
      congr 1
  · have h8 : m < 8 := by
      have := of_decide_eq_false hb8
      omega
    refine q_fld T.cl_BitWriter T.n_BitWriter_held (v := .int (x : Int)) (ev_var rfl) (ev_var rfl) (e4 _ _ ha3) (Nat.le_of_ble_eq_true rfl) fun H5 e5 => ?_
    refine s_fld T.cl_BitWriter T.n_BitWriter_held_bits (v := .int (m : Int)) (ev_var rfl) (ev_var rfl) upd_same (Nat.le_of_ble_eq_true rfl) fun H6 e6 => ?_
    refine k _ (((((hF.trans (Fr.ex (e4.trans e5))).upd1).trans (Fr.ex e6)).upd1)) ⟨dx, us, x, m, upd_same, ?_, h8, hx, hus, hb⟩
    rw [upd_ne hne.symm]
    refine e6 _ _ ?_
    rw [upd_ne hne.symm]
    exact (e4.trans e5) _ _ hl3

theorem bitsN_one (z : Nat) : bitsN (z + 1) ((1 : Int) % 2 ^ (z + 1)).toNat = List.replicate z false ++ [true] := by
  rw [pow_cast, show ((1 : Int) % ((2 ^ (z + 1) : Nat) : Int)).toNat = 1 % 2 ^ (z + 1) by rw [show ((1 : Int) % ((2 ^ (z + 1) : Nat) : Int)) = ((1 % 2 ^ (z + 1) : Nat) : Int) from (Int.natCast_emod 1 _).symm, Int.toNat_natCast], bitsN_mod, bitsN_add z 1 1, show 1 / 2 ^ 1 = 0 from rfl, bitsN_zero]
  rfl
theorem bitsN_z (z : Nat) : bitsN z ((0 : Int) % 2 ^ z).toNat = List.replicate z false := by
  rw [Int.zero_emod, Int.toNat_zero, bitsN_zero]
def sp_wunary (C : Addr) : Sp := fun vs H Q _ => ∃ (a L : Addr) (ms : List Bool) (c : Nat), vs = [.ref a, .int (c : Int)] ∧ WrAt C H a L ms ∧ ms.length + c ≤ 300000 ∧ ∀ H', Fr a L H H' → WrAt C H' a L (ms ++ (List.replicate c false ++ [true])) → Q .non H'
theorem ok_BitWriter_write_unary (T : TX K mg) : FnOk P w K mg base CX0 2 T.a_BitWriter_write_unary T.d_BitWriter_write_unary ["self", "count"] (sp_wunary T.C_BitWriter) := by
  refine T.F_BitWriter_write_unary.ok sc_BitWriter_write_unary (fun vs H Q E h => by obtain ⟨a, L, ms, c, rfl, _⟩ := h; rfl) (fun cdv A outer s H vs Q E hr h => ?_)
  obtain ⟨a, L, ms, c, rfl, hW, hlen, k⟩ := h
  refine ⟨_, (pss_cons (ps_set (i := 2) sc_BitWriter_write_unary.nd rfl (Or.inl rfl) (pv 1))
      (pss_cons (ps_while PassesOwn.never (pt_cmpR op_gt (pv 2) (pe_glob (by rfl) T.c_MOST_ZEROS T.r_MOST_ZEROS) (nomark _)) (pss_cons (ps_expr (pe_meth (pv 0) T.cl_BitWriter T.me_BitWriter_write (ok_BitWriter_write T) (hr.mono (by decide)) T.b_BitWriter_write .nil pass0 (pa_cons (pe_glob (by rfl) T.c_MOST_ZEROS T.r_MOST_ZEROS) (pa_cons pe_int pa_nil))))
        (pss_one (ps_aug (i := 2) sc_BitWriter_write_unary.nd rfl (Or.inl rfl) (pe_glob (by rfl) T.c_MOST_ZEROS T.r_MOST_ZEROS) ip_sub))))
      (pss_one (ps_expr (pe_meth (pv 0) T.cl_BitWriter T.me_BitWriter_write (ok_BitWriter_write T) (hr.mono (by decide)) T.b_BitWriter_write .nil pass0 (pa_cons (pe_op op_add (pv 2) pe_int) (pa_cons pe_int pa_nil))))))), ?_⟩
  walk_at "asg"
  intro H1 e1
  refine q_while (fun m σ' H' => ∃ z, m = z ∧ z ≤ c ∧ σ' = [some (.ref a), some (.int (c : Int)), some (.int (z : Int))] ∧ Fr a L H H' ∧ WrAt T.C_BitWriter H' a L (ms ++ List.replicate (c - z) false)) c ⟨c, rfl, Nat.le_refl _, rfl, Fr.ex e1, by rw [Nat.sub_self]; show WrAt _ _ _ _ (ms ++ []); rw [List.append_nil]; exact hW.ex e1⟩ ?_
  rintro z _ H2 ⟨_, rfl, hz, rfl, hF, hW2⟩
  refine ⟨decide (56 < z), et_test (Ev.is (ev_I0 (ev_var rfl) ev_c) (congrArg V.bl (decide_eq_decide.mpr (by show (z : Int) > 56 ↔ _; omega)))), fun hb H3 e3 => ?_, fun hb H3 e3 => ?_⟩
  · have h56 : 56 < z := of_decide_eq_true hb
    refine ⟨fun σ2 H2 => ∃ m', m' < z ∧ _, fun σ2 H2 h => h, ?_⟩
    have hW3 := hW2.ex e3
    obtain ⟨dx, ws, hd, n, ha, _⟩ := hW3.len
    refine q_dropM (vs := [.int 56, .int 0]) (ev_var rfl) ha rfl (ea_cons ev_c (ea_cons ev_c ea_nil)) fun H4 e4 => ⟨a, L, _, 56, 0, rfl, hW3.ex e4, by decide, by rw [List.length_append, List.length_replicate]; omega, fun H5 hF5 hW5 => ?_⟩
    refine s_aug (b := 56) rfl ev_c fun H6 e6 => ?_
    rw [bitsN_z, List.append_assoc, List.replicate_append_replicate, show c - z + 56 = c - (z - 56) by omega] at hW5
    refine ⟨z - 56, by omega, z - 56, rfl, by omega, by rw [show (z : Int) - 56 = ((z - 56 : Nat) : Int) by omega]; rfl, ((hF.trans (Fr.ex (e3.trans e4))).trans hF5).trans (Fr.ex e6), hW5.ex e6⟩
  · have hW3 := hW2.ex e3
    obtain ⟨dx, ws, hd, n, ha, _⟩ := hW3.len
    have hz56 : z ≤ 56 := by have := of_decide_eq_false hb; omega
    refine s_dropM (vs := [.int ((z + 1 : Nat) : Int), .int 1]) (ev_var rfl) ha rfl (ea_cons (Ev.is (ev_I0 (ev_var rfl) ev_c) (congrArg V.int (by omega))) (ea_cons ev_c ea_nil)) fun H4 e4 => ⟨a, L, _, z + 1, 1, rfl, hW3.ex e4, by omega, by rw [List.length_append, List.length_replicate]; omega, fun H5 hF5 hW5 => ?_⟩
    rw [bitsN_one, ← List.append_assoc, List.append_assoc ms, List.replicate_append_replicate, show c - z + z = c by omega, List.append_assoc] at hW5
    exact k H5 ((hF.trans (Fr.ex (e3.trans e4))).trans hF5) hW5

theorem ok_BitWriter_write_signed (T : TX K mg) : FnOk P w K mg base CX0 2 T.a_BitWriter_write_signed T.d_BitWriter_write_signed ["self", "width", "value"] (sp_wwrite T.C_BitWriter) := by
  refine T.F_BitWriter_write_signed.ok sc_BitWriter_write_signed (fun vs H Q E h => by obtain ⟨a, L, ms, wd, v, rfl, _⟩ := h; rfl) (fun cdv A outer s H vs Q E hr h => ?_)
  obtain ⟨a, L, ms, wd, v, rfl, hW, hw, hlen, k⟩ := h
  obtain ⟨dx, ws, hd, n, ha, hl, hn, hh, hws, hbits, hml⟩ := hW.len
  refine ⟨_, (pss_one (ps_expr (pe_meth (pv 0) T.cl_BitWriter T.me_BitWriter_write (ok_BitWriter_write T) (hr.mono (by decide)) T.b_BitWriter_write .nil pass0 (pa_cons (pv 1) (pa_cons (pe_op op_and (pv 2) (pe_op op_sub (pe_op op_shl pe_int (pv 1)) pe_int)) pa_nil))))), ?_⟩
  refine s_dropM (vs := [.int (wd : Int), .int (v % 2 ^ wd)]) (ev_var rfl) ha rfl (ea_cons (ev_var rfl) (ea_cons (Ev.is (ev_I0 (ev_var rfl) (ev_I0 (ev_I ev_c (ev_var rfl) (show CPow 1 (wd : Int) from ⟨by omega, by omega, by decide⟩)) ev_c)) (congrArg V.int (by rw [Int.toNat_natCast, Int.one_mul, bitAnd_maskZ]))) ea_nil)) fun H1 e1 => ⟨a, L, ms, wd, _, rfl, hW.ex e1, hw, hlen, fun H2 hF hW2 => ?_⟩
  rw [Int.emod_emod] at hW2
  exact k H2 ((Fr.ex e1).trans hF) hW2

def sp_wpad (C : Addr) : Sp := fun vs H Q _ => ∃ (a L : Addr) (ms : List Bool), vs = [.ref a] ∧ WrAt C H a L ms ∧ ms.length ≤ 300000 ∧ ∀ H', Fr a L H H' → WrAt C H' a L (ms ++ List.replicate (padN ms.length) false) → Q .non H'
theorem ok_BitWriter_pad (T : TX K mg) : FnOk P w K mg base CX0 2 T.a_BitWriter_pad T.d_BitWriter_pad ["self"] (sp_wpad T.C_BitWriter) := by
  refine T.F_BitWriter_pad.ok sc_BitWriter_pad (fun vs H Q E h => by obtain ⟨a, L, ms, rfl, _⟩ := h; rfl) (fun cdv A outer s H vs Q E hr h => ?_)
  obtain ⟨a, L, ms, rfl, hW, hlen, k⟩ := h
  obtain ⟨dx, ws, hd, n, ha, hl, hn, hh, hws, hbits, hml⟩ := hW.len
  have hfld : ∀ {H1 : Hp}, Ex H H1 → Ev (tFld K (tVar 0) "_held_bits") (start ["self"] [.ref a]) H1 (.int (n : Int)) := fun e => ev_fld T.cl_BitWriter T.n_BitWriter_held_bits (ev_var rfl) (e _ _ ha) rfl
  refine ⟨_, (pss_one (ps_if (pt_cmpR op_gt (pe_fld (pv 0) rfl) pe_int (nomark _)) (pss_one (ps_expr (pe_meth (pv 0) T.cl_BitWriter T.me_BitWriter_write (ok_BitWriter_write T) (hr.mono (by decide)) T.b_BitWriter_write .nil pass0 (pa_cons (pe_op op_sub pe_int (pe_fld (pv 0) rfl)) (pa_cons pe_int pa_nil))))) pss_nil)), ?_⟩
  have hp : padN ms.length = if 0 < n then 8 - n else 0 := by
    unfold padN
    split <;> omega
  refine s_when (b := decide (0 < n)) (et_test (Ev.is (ev_I0 (hfld (Ex.refl H)) ev_c) (congrArg V.bl (decide_eq_decide.mpr (by show (n : Int) > 0 ↔ _; omega))))) (fun hb H1 e1 => ?_) (fun hb H1 e1 => ?_)
  · have h0 : 0 < n := of_decide_eq_true hb
    refine s_dropM (vs := [.int ((8 - n : Nat) : Int), .int 0]) (ev_var rfl) (e1 _ _ ha) rfl (ea_cons (Ev.is (ev_I0 ev_c (hfld e1)) (congrArg V.int (by omega))) (ea_cons ev_c ea_nil)) fun H4 e4 => ⟨a, L, _, 8 - n, 0, rfl, hW.ex (e1.trans e4), by omega, by omega, fun H5 hF5 hW5 => ?_⟩
    rw [bitsN_z] at hW5
    rw [hp, if_pos h0] at k
    exact k H5 ((Fr.ex (e1.trans e4)).trans hF5) hW5
  · have h0 : ¬ 0 < n := of_decide_eq_false hb
    rw [hp, if_neg h0] at k
    refine k H1 (Fr.ex e1) ?_
    show WrAt _ _ _ _ (ms ++ [])
    rw [List.append_nil]
    exact hW.ex e1

def sp_wlist (C : Addr) : Sp := fun vs H Q _ => ∃ (a L : Addr) (ms : List Bool), vs = [.ref a] ∧ WrAt C H a L ms ∧ ms.length ≤ 300000 ∧ ∀ p us H', H p = none → Ex H H' → H' p = some (.lst ((cs us).map V.int)) → us.flatMap bits8 = ms ++ List.replicate (padN ms.length) false → (∀ b ∈ us, b < 256) → Q (.ref p) H'
theorem ok_BitWriter_byte_list (T : TX K mg) : FnOk P w K mg base CX0 1 T.a_BitWriter_byte_list T.d_BitWriter_byte_list ["self"] (sp_wlist T.C_BitWriter) := by
  refine T.F_BitWriter_byte_list.ok sc_BitWriter_byte_list (fun vs H Q E h => by obtain ⟨a, L, ms, rfl, _⟩ := h; rfl) (fun cdv A outer s H vs Q E hr h => ?_)
  obtain ⟨a, L, ms, rfl, hW, hlen, k⟩ := h
  obtain ⟨dx, ws, hd, n, ha, hl, hn, hh, hws, hbits, hml⟩ := hW.len
  have f1 : ∀ {H1 : Hp}, Ex H H1 → Ev (tFld K (tVar 0) "_whole") (start ["self"] [.ref a]) H1 (.ref L) := fun e => ev_fld T.cl_BitWriter T.n_BitWriter_whole (ev_var rfl) (e _ _ ha) rfl
  have f2 : ∀ {H1 : Hp}, Ex H H1 → Ev (tFld K (tVar 0) "_held") (start ["self"] [.ref a]) H1 (.int (hd : Int)) := fun e => ev_fld T.cl_BitWriter T.n_BitWriter_held (ev_var rfl) (e _ _ ha) rfl
  have f3 : ∀ {H1 : Hp}, Ex H H1 → Ev (tFld K (tVar 0) "_held_bits") (start ["self"] [.ref a]) H1 (.int (n : Int)) := fun e => ev_fld T.cl_BitWriter T.n_BitWriter_held_bits (ev_var rfl) (e _ _ ha) rfl
  refine ⟨_, (pss_cons (ps_if (pt_cmpR op_eq (pe_fld (pv 0) rfl) pe_int (nomark _)) (pss_one (ps_ret (pe_callTy (r := rListS K) call_list_of (by rfl) T.m_list PyProof.Rows.boot_list (pa_cons (pe_fld (pv 0) rfl) pa_nil)))) pss_nil)
      (pss_one (ps_ret (pe_op op_cat (pe_fld (pv 0) rfl) (pe_lst (pa_cons (pe_op op_shl (pe_fld (pv 0) rfl) (pe_op op_sub pe_int (pe_fld (pv 0) rfl))) pa_nil)))))), ?_⟩
  refine q_when (b := decide (n = 0)) (et_test (Ev.is (ev_eq (f3 (Ex.refl H)) ev_c rfl) (congrArg V.bl (decide_eq_decide.mpr ⟨fun h => by have := V.int.inj h; omega, fun h => by rw [h]; rfl⟩)))) (fun h0 H1 e1 => ?_) (fun h0 H1 e1 => ?_)
  · have h0 : n = 0 := of_decide_eq_true h0
    subst h0
    refine s_retL (el_of (Ev.s (f1 e1) (sq_of (e1 _ _ hl)))) fun p H2 hp e2 g2 => ?_
    refine k p ws H2 (by cases h : H p with | none => rfl | some o => rw [e1 _ _ h] at hp; cases hp) (e1.trans e2) g2 ?_ hws
    have : padN ms.length = 0 := by unfold padN; omega
    rw [this, ← hbits]
    show _ = _ ++ [] ++ []
    rw [List.append_nil, List.append_nil]
  · have h0 : ¬ n = 0 := of_decide_eq_false h0
    have hh8 : hd < 256 := Nat.lt_of_lt_of_le hh (Nat.pow_le_pow_right (n := 2) (by decide) (by omega : n ≤ 8))
    refine s_retL (xs := (cs (ws ++ [hd * 2 ^ (8 - n)])).map V.int) (EvL.is (el_cat (Ev.r (f1 e1) (e1 _ _ hl)) (EvL.r (el_lst (vs := [.int ((hd * 2 ^ (8 - n) : Nat) : Int)]) (ea_cons (Ev.is (ev_I (j := ((8 - n : Nat) : Int)) (f2 e1) (Ev.is (ev_I0 ev_c (f3 e1)) (congrArg V.int (by omega))) (show CPow (hd : Int) ((8 - n : Nat) : Int) from ⟨by omega, by omega, by rw [Int.natAbs_natCast]; omega⟩)) (congrArg V.int (by rw [Int.toNat_natCast, pow_cast, Int.natCast_mul]))) ea_nil) (Nat.le_of_ble_eq_true rfl))) ?_) ?_) fun p H2 hp e2 g2 => ?_
    · rw [List.length_map, cs_len]
      show _ + 1 ≤ _
      omega
    · rw [cs_append, List.map_append]
      rfl
    · refine k p _ H2 (by cases h : H p with | none => rfl | some o => rw [e1 _ _ h] at hp; cases hp) (e1.trans e2) g2 ?_ ?_
      · have : padN ms.length = 8 - n := by unfold padN; omega
        rw [this, ← hbits, List.flatMap_append, List.flatMap_cons, List.flatMap_nil, List.append_nil, List.append_assoc, bits8_N]
        congr 1
        have h8 : 8 = n + (8 - n) := by omega
        conv => lhs; rw [h8]
        rw [show n + (8 - n) - n = 8 - n by omega]
        have h3 := bitsN_cat (n := n) (w := 8 - n) (h := hd) (v := 0) (Nat.two_pow_pos _)
        rw [Nat.add_zero, bitsN_zero] at h3
        exact h3
      · intro d hdm
        rcases List.mem_append.mp hdm with h | h
        · exact hws d h
        · cases List.mem_singleton.mp h
          have h3 : hd * 2 ^ (8 - n) < 2 ^ n * 2 ^ (8 - n) := Nat.mul_lt_mul_of_pos_right hh (Nat.two_pow_pos _)
          rw [← Nat.pow_add, show n + (8 - n) = 8 by omega] at h3
          exact h3

def sp_wmany (C : Addr) : Sp := fun vs H Q _ => ∃ (a L : Addr) (ms : List Bool), vs = [.ref a] ∧ WrAt C H a L ms ∧ RetV (.int (ms.length : Int)) H Q
theorem ok_BitWriter_bits_written (T : TX K mg) : FnOk P w K mg base CX0 1 T.a_BitWriter_bits_written T.d_BitWriter_bits_written ["self"] (sp_wmany T.C_BitWriter) := by
  refine T.F_BitWriter_bits_written.ok sc_BitWriter_bits_written (fun vs H Q E h => by obtain ⟨a, L, ms, rfl, _⟩ := h; rfl) (fun cdv A outer s H vs Q E hr h => ?_)
  obtain ⟨a, L, ms, rfl, hW, k⟩ := h
  obtain ⟨dx, ws, hd, n, ha, hl, hn, hh, hws, hbits, hml⟩ := hW.len
  refine ⟨_, (pss_one (ps_ret (pe_op op_add (pe_op op_mul (pe_callB (r := rLenS K) call_len_seq (by rfl) T.m_len PySem.boot_len (pa_cons (pe_fld (pv 0) rfl) pa_nil)) pe_int) (pe_fld (pv 0) rfl)))), ?_⟩
  refine s_ret (v := .int (ms.length : Int)) (Ev.is (ev_I0 (ev_I (ev_lenS (Ev.s (ev_fld T.cl_BitWriter T.n_BitWriter_whole (v := .ref L) (ev_var rfl) ha rfl) (sq_of hl))) ev_c (.inr (by decide))) (ev_fld T.cl_BitWriter T.n_BitWriter_held_bits (v := .int (n : Int)) (ev_var rfl) ha rfl)) (congrArg V.int (by rw [List.length_map, cs_len]; omega))) fun H1 e1 => k H1 e1

theorem chunk : ∀ (us : List Nat) (k : Nat), k < us.length → ((us.flatMap bits8).drop (8 * k)).take 8 = bits8 (us.getD k 0)
  | u :: r, 0, _ => by
    rw [List.flatMap_cons]
    show ((bits8 u ++ _).drop 0).take 8 = bits8 u
    rw [List.drop_zero]
    exact List.take_left' (l₁ := bits8 u) rfl
  | u :: r, k + 1, h => by
    rw [List.flatMap_cons, show 8 * (k + 1) = (bits8 u).length + 8 * k by show _ = 8 + 8 * k; omega, List.drop_append, List.drop_of_length_le (by omega), List.nil_append, show (bits8 u).length + 8 * k - (bits8 u).length = 8 * k by omega]
    exact chunk r k (by simp at h; omega)
theorem us_of {ws : List Nat} {hd n : Nat} {ms : List Bool} (hn : n < 8) (hh : hd < 2 ^ n) (hws : ∀ b ∈ ws, b < 256) (hbits : ws.flatMap bits8 ++ bitsN n hd = ms) : ∃ us : List Nat, us.flatMap bits8 = ms ++ List.replicate (padN ms.length) false ∧ ∀ u ∈ us, u < 256 := by
  have hml : ms.length = 8 * ws.length + n := by rw [← hbits, List.length_append, bits_flat_len, bitsN_len]
  by_cases h0 : n = 0
  · subst h0
    refine ⟨ws, ?_, hws⟩
    have : padN ms.length = 0 := by unfold padN; omega
    rw [this, ← hbits]
    show _ = _ ++ [] ++ []
    rw [List.append_nil, List.append_nil]
  · refine ⟨ws ++ [hd * 2 ^ (8 - n)], ?_, ?_⟩
    · have : padN ms.length = 8 - n := by unfold padN; omega
      rw [this, ← hbits, List.flatMap_append, List.flatMap_cons, List.flatMap_nil, List.append_nil, List.append_assoc, bits8_N]
      congr 1
      have h8 : 8 = n + (8 - n) := by omega
      conv => lhs; rw [h8]
      rw [show n + (8 - n) - n = 8 - n by omega]
      have h3 := bitsN_cat (n := n) (w := 8 - n) (h := hd) (v := 0) (Nat.two_pow_pos _)
      rw [Nat.add_zero, bitsN_zero] at h3
      exact h3
    · intro d hdm
      rcases List.mem_append.mp hdm with h | h
      · exact hws d h
      · cases List.mem_singleton.mp h
        have h3 : hd * 2 ^ (8 - n) < 2 ^ n * 2 ^ (8 - n) := Nat.mul_lt_mul_of_pos_right hh (Nat.two_pow_pos _)
        rw [← Nat.pow_add, show n + (8 - n) = 8 by omega] at h3
        exact h3
theorem us_one {us vs : List Nat} (hu : ∀ u ∈ us, u < 256) (hv : ∀ u ∈ vs, u < 256) (h : us.flatMap bits8 = vs.flatMap bits8) : us = vs := by
  have hl : us.length = vs.length := by
    have := congrArg List.length h
    rw [bits_flat_len, bits_flat_len] at this
    omega
  refine List.ext_getElem? fun k => ?_
  by_cases hk : k < us.length
  · have h1 : us[k]? = some (us.getD k 0) := by rw [List.getD_eq_getElem?_getD, List.getElem?_eq_getElem hk]; rfl
    have h2 : vs[k]? = some (vs.getD k 0) := by rw [List.getD_eq_getElem?_getD, List.getElem?_eq_getElem (by omega)]; rfl
    have c1 := chunk us k hk
    have c2 := chunk vs k (by omega)
    rw [h, c2] at c1
    have c3 := congrArg valL c1
    rw [valL_8 _ (hu _ (List.mem_of_getElem? h1)), valL_8 _ (hv _ (List.mem_of_getElem? h2))] at c3
    rw [h1, h2, c3]
  · rw [List.getElem?_eq_none (by omega), List.getElem?_eq_none (by omega)]
theorem er_list {σ : L2.St} {H : Hp} {to : TE} {E : XK} {C a L : Addr} {ms : List Bool} {us : List Nat} (h : Ev to σ H (.ref a)) (hW : WrAt C H a L ms) (hl : ms.length ≤ 300000) (hus : us.flatMap bits8 = ms ++ List.replicate (padN ms.length) false) (hu : ∀ u ∈ us, u < 256) : EvL (tMeth C "byte_list" (sp_wlist C) [] E to tNil) σ H ((cs us).map V.int) := fun H1 e Q q => by
  obtain ⟨dx, ws, hd, n, ha, _⟩ := hW.len
  refine h H1 e _ fun H2 e2 => ⟨a, dx, _, rfl, (e.trans e2) _ _ ha, rfl, a, L, ms, rfl, hW.ex (e.trans e2), hl, fun p vs H3 hp e3 g3 hv1 hv2 => ?_⟩
  have := us_one hu hv2 (hus.trans hv1.symm)
  subst this
  exact q p H3 (by cases h : H1 p with | none => rfl | some o => rw [e2 _ _ h] at hp; cases hp) (e2.trans e3) g3
theorem WrAt.back {C a L : Addr} {H H1 : Hp} {ms ms1 : List Bool} (h : WrAt C H a L ms) (h1 : WrAt C H1 a L ms1) (hF : Fr a L H H1) {q : Addr} (hq : H1 q = none) : H q = none := by
  cases hc : H q with
  | none => rfl
  | some o =>
    obtain ⟨dx, ws, hd, n, ha, hl, _⟩ := h1
    by_cases e1 : q = a
    · rw [e1, ha] at hq
      cases hq
    · by_cases e2 : q = L
      · rw [e2, hl] at hq
        cases hq
      · rw [hF q o e1 e2 hc] at hq
        cases hq
theorem WrAt.fr {C a L a2 L2' : Addr} {H H1 : Hp} {ms : List Bool} (h : WrAt C H a L ms) (hF : Fr a2 L2' H H1) (n1 : a ≠ a2) (n2 : a ≠ L2') (n3 : L ≠ a2) (n4 : L ≠ L2') : WrAt C H1 a L ms := by
  obtain ⟨dx, ws, hd, n, h1, h2, h3⟩ := h
  exact ⟨dx, ws, hd, n, hF _ _ n1 n2 h1, hF _ _ n3 n4 h2, h3⟩
theorem self_mod {v w : Nat} (h : v < 2 ^ w) : ((v : Int) % 2 ^ w).toNat = v := by
  rw [pow_cast, show ((v : Int) % ((2 ^ w : Nat) : Int)) = ((v % 2 ^ w : Nat) : Int) from (Int.natCast_emod _ _).symm, Int.toNat_natCast, Nat.mod_eq_of_lt h]
theorem mk_w {C : Addr} {E : XK} {σ : L2.St} {H : Hp} {Q : VK} (k : ∀ a L H', H a = none → H L = none → Ex H H' → WrAt C H' a L [] → Q (.ref a) H') : tMake C (sp_winit C) [] E tNil σ H Q := fun x dx hx hdx hne => by
  have hex : ∀ b o, H b = some o → upd (upd H dx (HO.own x)) x (HO.ins C dx []) b = some o := fun b o hb => by
    rw [upd_ne (fresh_ne hx hb), upd_ne (fresh_ne hdx hb)]
    exact hb
  refine ⟨x, dx, rfl, upd_same, fun L H' hL hF hW => ⟨rfl, k x L H' hx ?_ (fun b o hb => hF b o (fresh_ne hx hb) (hex b o hb)) hW⟩⟩
  cases h : H L with
  | none => rfl
  | some o => rw [hex L o h] at hL; cases hL

theorem valL_lt : ∀ l : List Bool, valL l < 2 ^ l.length := fun l => by
  have key : ∀ (l : List Bool) (a n : Nat), a < 2 ^ n → l.foldl (fun a b => 2 * a + b.toNat) a < 2 ^ (n + l.length) := by
    intro l
    induction l with
    | nil => exact fun a n h => h
    | cons b r ih =>
      intro a n h
      show r.foldl _ (2 * a + b.toNat) < _
      rw [List.length_cons, show n + (r.length + 1) = (n + 1) + r.length by omega]
      refine ih _ _ ?_
      rw [Nat.pow_succ]
      cases b <;> simp <;> omega
  have := key l 0 0 (by decide)
  rwa [Nat.zero_add] at this
theorem valL_cons (b : Bool) (r : List Bool) : valL (b :: r) = b.toNat * 2 ^ r.length + valL r := by
  have key : ∀ (l : List Bool) (a : Nat), l.foldl (fun a b => 2 * a + b.toNat) a = a * 2 ^ l.length + valL l := by
    intro l
    induction l with
    | nil => intro a; show a = a * 1 + 0; omega
    | cons c t ih =>
      intro a
      show t.foldl _ (2 * a + c.toNat) = a * 2 ^ (t.length + 1) + t.foldl (fun a b => 2 * a + b.toNat) (2 * 0 + c.toNat)
      rw [ih, ih (2 * 0 + c.toNat), Nat.pow_succ, Nat.add_mul, Nat.add_mul, Nat.mul_zero, Nat.zero_mul, Nat.mul_comm 2 a, Nat.mul_assoc, Nat.mul_comm 2]
      omega
  show r.foldl _ (2 * 0 + b.toNat) = _
  rw [key, Nat.mul_zero, Nat.zero_add]

def foldI (n : Int) : Int := if n < 0 then -2 * n - 1 else 2 * n
def unfoldI (u : Int) : Int := if u % 2 = 0 then u / 2 else -(u / 2) - 1
theorem foldI_inj {a b : Int} (h : foldI a = foldI b) : a = b := by
  unfold foldI at h
  split at h <;> split at h <;> omega
theorem unfold_fold (n : Int) : unfoldI (foldI n) = n := by
  unfold unfoldI foldI
  split <;> split <;> omega
theorem fold_unfold {u : Int} (h : 0 ≤ u) : foldI (unfoldI u) = u := by
  unfold unfoldI foldI
  split <;> split <;> omega
def sp_fold : Sp := fun vs H Q _ => ∃ n : Int, vs = [.int n] ∧ RetV (.int (foldI n)) H Q
theorem ok_fold (T : TX K mg) : FnOk P w K mg base CX0 1 T.a_fold T.d_fold ["n"] sp_fold := by
  refine T.F_fold.ok sc_fold (fun vs H Q E h => by obtain ⟨n, rfl, _⟩ := h; rfl) (fun cdv A outer s H vs Q E hr h => ?_)
  obtain ⟨n, rfl, k⟩ := h
  refine ⟨_, (pss_cons (ps_if (pt_cmpR op_lt (pv 0) pe_int (nomark _)) (pss_one (ps_ret (pe_op op_sub (pe_op op_mul (pe_un un_neg pe_int) (pv 0)) pe_int))) pss_nil)
      (pss_one (ps_ret (pe_op op_mul pe_int (pv 0))))), ?_⟩
  walk_at "when"
  · intro hb H1 e1
    walk_at "ret"
    intro H2 e2
    refine ret_eq k (e1.trans e2) ?_
    have hb : n < 0 := of_decide_eq_true hb
    unfold foldI
    rw [if_pos hb]
  · intro hb H1 e1
    walk_at "ret"
    intro H2 e2
    refine ret_eq k (e1.trans e2) ?_
    have hb : ¬ n < 0 := of_decide_eq_false hb
    unfold foldI
    rw [if_neg hb]
def sp_unfold : Sp := fun vs H Q _ => ∃ n : Int, vs = [.int n] ∧ RetV (.int (unfoldI n)) H Q
theorem ok_unfold (T : TX K mg) : FnOk P w K mg base CX0 1 T.a_unfold T.d_unfold ["u"] sp_unfold := by
  refine T.F_unfold.ok sc_unfold (fun vs H Q E h => by obtain ⟨n, rfl, _⟩ := h; rfl) (fun cdv A outer s H vs Q E hr h => ?_)
  obtain ⟨n, rfl, k⟩ := h
  refine ⟨_, (pss_cons (ps_if (pt_cmpR op_eq (pe_op op_mod (pv 0) pe_int) pe_int (nomark _)) (pss_one (ps_ret (pe_op op_fdiv (pv 0) pe_int))) pss_nil)
      (pss_one (ps_ret (pe_op op_sub (pe_un un_neg (pe_op op_fdiv (pv 0) pe_int)) pe_int)))), ?_⟩
  walk_at "when"
  · intro hb H1 e1
    walk_at "ret"
    intro H2 e2
    refine ret_eq k (e1.trans e2) ?_
    have hb : n % 2 = 0 := V.int.inj (of_decide_eq_true hb)
    unfold unfoldI
    rw [if_pos hb]
  · intro hb H1 e1
    walk_at "ret"
    intro H2 e2
    refine ret_eq k (e1.trans e2) ?_
    have hb : ¬ n % 2 = 0 := fun z => of_decide_eq_false hb (congrArg V.int z)
    unfold unfoldI
    rw [if_neg hb]
theorem ev_fold {σ : L2.St} {H : Hp} {te : TE} {E : XK} {n : Int} (h : Ev te σ H (.int n)) : Ev (tCall sp_fold [] E (tCons te tNil)) σ H (.int (foldI n)) := ev_call (ea_cons h ea_nil) fun H1 _ Q q _ => ⟨n, rfl, q⟩

/-! ### Rice codes -/
def codeB (k u : Nat) : List Bool := List.replicate (u / 2 ^ k) false ++ ([true] ++ bitsN k (u % 2 ^ k))
theorem codeB_len (k u : Nat) : (codeB k u).length = u / 2 ^ k + 1 + k := by
  unfold codeB
  rw [List.length_append, List.length_append, List.length_replicate, bitsN_len]
  show u / 2 ^ k + (1 + k) = _
  omega
theorem foldI_nn (n : Int) : 0 ≤ foldI n := by unfold foldI; split <;> omega
theorem foldI_un (u : Nat) : foldI (unfoldI (u : Int)) = (u : Int) := fold_unfold (by omega)
def sp_clen : Sp := fun vs H Q _ => ∃ (k u : Nat) (n : Int), vs = [.int (k : Int), .int n] ∧ foldI n = (u : Int) ∧ RetV (.int ((u / 2 ^ k + 1 + k : Nat) : Int)) H Q
theorem ev_clen {σ : L2.St} {H : Hp} {t1 t2 : TE} {E : XK} {k u : Nat} {n : Int} (h1 : Ev t1 σ H (.int (k : Int))) (h2 : Ev t2 σ H (.int n)) (hu : foldI n = (u : Int)) : Ev (tCall sp_clen [] E (tCons t1 (tCons t2 tNil))) σ H (.int ((u / 2 ^ k + 1 + k : Nat) : Int)) := ev_call (ea_cons h1 (ea_cons h2 ea_nil)) fun H1 _ Q q _ => ⟨k, u, n, rfl, hu, q⟩

/-- a tuple that is read -/
def EvP (K : PySem.W.Frag) (te : TE) (σ : L2.St) (H : Hp) (xs : List V) : Prop := ∀ H1, Ex H H1 → ∀ Q : VK, (∀ p H2, Ex H1 H2 → SqT K H2 p xs → Q (.ref p) H2) → te σ H1 Q
theorem Ev.p {te : TE} {σ : L2.St} {H : Hp} {a : Addr} {xs : List V} (h : Ev te σ H (.ref a)) (hx : SqT K H a xs) : EvP K te σ H xs := fun H1 e Q q => h H1 e Q fun H2 e2 => q a H2 e2 (ex_t e2 (ex_t e hx))
/-! ### partitions -/
def startN (o w i : Nat) : Nat := i * w - o
def sizeN (o w i : Nat) : Nat := if i = 0 then w - o else w
def partL (rs : List Int) (o w i : Nat) : List Int := (rs.drop (startN o w i)).take (sizeN o w i)
theorem start_next {o w i : Nat} (h : o ≤ w) : startN o w i + sizeN o w i = startN o w (i + 1) := by
  unfold startN sizeN
  rw [Nat.succ_mul]
  by_cases hi : i = 0
  · rw [if_pos hi, hi]
    omega
  · rw [if_neg hi]
    have : w ≤ i * w := Nat.le_mul_of_pos_left w (by omega)
    omega
theorem size_at {o w n i : Nat} (h : i < 2 ^ n) (hw : o ≤ w) : ((((w : Int) - (o : Int)) :: List.replicate (2 ^ n - 1) (w : Int)))[i]? = some ((sizeN o w i : Nat) : Int) := by
  unfold sizeN
  cases i with
  | zero => rw [if_pos rfl]; show some _ = _; congr 1; omega
  | succ j => rw [if_neg (by omega), List.getElem?_cons_succ, List.getElem?_replicate, if_pos (by omega)]
theorem part_len {rs : List Int} {o w n i : Nat} (hl : rs.length + o = w * 2 ^ n) (hw : o ≤ w) (hi : i < 2 ^ n) : (partL rs o w i).length = sizeN o w i := by
  have h1 : startN o w (i + 1) ≤ rs.length := by
    unfold startN
    have : (i + 1) * w ≤ 2 ^ n * w := Nat.mul_le_mul_right w hi
    rw [Nat.mul_comm (2 ^ n)] at this
    omega
  have h2 := start_next (i := i) hw
  unfold partL
  rw [List.length_take, List.length_drop]
  omega
def PartsAt (H : Hp) (pp : Addr) (ps : List Addr) (rs : List Int) (o w : Nat) : Prop := H pp = some (.lst (ps.map V.ref)) ∧ ∀ (i : Nat) q, ps[i]? = some q → H q = some (.lst ((partL rs o w i).map V.int))
def sp_parts : Sp := fun vs H Q _ => ∃ (r : Addr) (rs : List Int) (o w n : Nat), vs = [.ref r, .int (o : Int), .int (n : Int)] ∧ H r = some (.lst (rs.map V.int)) ∧ n ≤ 16 ∧ rs.length + o = w * 2 ^ n ∧ o ≤ w ∧ rs.length ≤ 90000 ∧ ∀ pp ps H', H pp = none → Ex H H' → ps.length = 2 ^ n → (∀ (i : Nat) q, ps[i]? = some q → H q = none) → PartsAt H' pp ps rs o w → Q (.ref pp) H'
theorem q_forL' {σ : L2.St} {H : Hp} {D : Ends} {tu tz : TS} {tl : TE} {g : TG} {xs : List V} (h : EvL tl σ H xs) (k : ∀ p H1, H p = none → Ex H H1 → H1 p = some (.lst xs) → tSeq (tFor (iList K (tC (.ref p))) g tu) tz D σ H1) : tSeq (tFor (iList K tl) g tu) tz D σ H := h H (Ex.refl H) _ fun p H1 hp e g => k p H1 hp e g
theorem ok_parts (T : TX K mg) : FnOk P w K mg base CX0 2 T.a_parts T.d_parts ["residuals", "order", "partition_order"] sp_parts := by
  refine T.F_parts.ok sc_parts (fun vs H Q E h => by obtain ⟨r, rs, o, w, n, rfl, _⟩ := h; rfl) (fun cdv A outer s0 H vs Q E hr h => ?_)
  obtain ⟨r, rs, o, wd, n, rfl, hr0, hn, hl, hw, hrl, k⟩ := h
  refine ⟨_, (pss_cons (ps_set (i := 3) sc_parts.nd rfl (Or.inl rfl) (pe_lst pa_nil))
      (pss_cons (ps_set (i := 4) sc_parts.nd rfl (Or.inl rfl) pe_int)
      (pss_cons (ps_for PassesOwn.never rfl (pi_list (pe_call (ok_partition_sizes T) (hr.mono (by decide)) (by rfl) T.g_partition_sizes T.F_partition_sizes.kp T.b_partition_sizes .nil pass0 (pa_cons (pe_op op_add (pe_callB (r := rLenS K) call_len_seq (by rfl) T.m_len PySem.boot_len (pa_cons (pv 0) pa_nil)) (pv 1)) (pa_cons (pv 1) (pa_cons (pv 2) pa_nil))))) (pg_name (i := 5) sc_parts.nd rfl (Or.inl rfl)) (pss_cons (ps_expr (pe_bm PySem.F.plainAttrs_list PySem.F.slot_list_append PySem.F.type_list_append mt_append (pv 3) (pa_cons (pe_slice (r := rSlL K) sl_list (pv 0) (po_some (pv 4)) (po_some (pe_op op_add (pv 4) (pv 5)))) pa_nil)))
        (pss_one (ps_aug (i := 4) sc_parts.nd rfl (Or.inl rfl) (pv 5) ip_add))))
      (pss_one (ps_ret (pv 3)))))), ?_⟩
  have hp0 := Nat.two_pow_pos n
  have h16 : 2 ^ n ≤ 65536 := Nat.pow_le_pow_right (by decide) hn
  refine q_asgL (xs := []) (el_lst ea_nil (by decide)) fun pp H1 hpp e1 g1 => ?_
  refine q_asg (v := .int 0) ev_c fun H2 e2 => ?_
  have e12 := e1.trans e2
  have hdiv : (((rs.length + o : Nat) : Int)) / 2 ^ n = (wd : Int) := by rw [pow_cast, hl, ← Int.natCast_ediv, Nat.mul_div_cancel _ hp0]
  refine q_forL' (xs := ((((wd : Int) - (o : Int)) :: List.replicate (2 ^ n - 1) (wd : Int))).map V.int) (EvL.is (el_sizes (s := ((rs.length + o : Nat) : Int)) (Ev.is (ev_I0 (ev_lenS (Ev.s (ev_var rfl) (sq_of (e12 _ _ hr0)))) (ev_var rfl)) (congrArg V.int (by rw [List.length_map]; omega))) (ev_var rfl) (ev_var rfl) hn) (by rw [hdiv])) fun ps H3 hps e3 g3 => ?_
  have e13 := e12.trans e3
  have npp : ps ≠ pp := (fresh_ne hps (e2 _ _ g1)).symm
  refine q_forLn (K := K) (a := ps) ev_c (sq_of g3) (fun i σ' H' => ∃ (qs : List Addr) (z5 : Option V), σ' = [some (.ref r), some (.int (o : Int)), some (.int (n : Int)), some (.ref pp), some (.int ((startN o wd i : Nat) : Int)), z5] ∧ Ex H H' ∧ H' ps = some (.lst (((((wd : Int) - (o : Int)) :: List.replicate (2 ^ n - 1) (wd : Int))).map V.int)) ∧ qs.length = i ∧ H' pp = some (.lst (qs.map V.ref)) ∧ (∀ (j : Nat) q, qs[j]? = some q → q ≠ pp ∧ H' q = some (.lst ((partL rs o wd j).map V.int)) ∧ H q = none))
    (fun H4 e4 => ⟨[], none, by unfold startN; rw [Nat.zero_mul, Nat.zero_sub]; rfl, e13.trans e4, e4 _ _ g3, rfl, e4 _ _ (e3 _ _ (e2 _ _ g1)), fun j q h => by simp at h⟩) (fun i σ' H' _ h => by obtain ⟨_, _, _, _, h, _⟩ := h; exact sq_of h) ?_ ?_
  · rintro i x σ' H4 hx ⟨qs, z5, rfl, ex, gs, hql, gpp, hqs⟩
    obtain ⟨c, hc, hi, rfl⟩ := int_at hx
    rw [List.length_cons, List.length_replicate] at hi
    have hi2 : i < 2 ^ n := by omega
    rw [size_at hi2 hw] at hc
    obtain rfl := Option.some.inj hc
    have hst := start_next (i := i) hw
    refine q_appL (ys := (partL rs o wd i).map V.int) gpp (ev_var rfl) (EvL.is (el_mid (ns := rs) (i := startN o wd i) (j := startN o wd i + sizeN o wd i) (Ev.s (ev_var rfl) (sq_of (ex _ _ hr0))) (ev_var rfl) (Ev.is (ev_I0 (ev_var rfl) (ev_var rfl)) (congrArg V.int (by omega)))) (by unfold partL; rw [show startN o wd i + sizeN o wd i - startN o wd i = sizeN o wd i by omega])) (by rw [List.length_map]; omega) fun q H5 hq e5 g5 => ?_
    have nq : q ≠ pp := (fresh_ne hq gpp).symm
    refine s_augR (a := ((startN o wd i : Nat) : Int)) (b := ((sizeN o wd i : Nat) : Int)) rfl (ev_var rfl) fun H6 e6 => ?_
    have hpp0 : H pp = none := hpp
    refine ⟨qs ++ [q], some (.int ((sizeN o wd i : Nat) : Int)), ?_, Ex.trans (Ex.mut (ex.trans e5) hpp0) e6, e6 _ _ (by rw [upd_ne npp]; exact e5 _ _ gs), by rw [List.length_append, hql]; rfl, e6 _ _ (by rw [upd_same, List.map_append]; rfl), fun j u hu => ?_⟩
    · show [_, _, _, _, some (V.int (((startN o wd i : Nat) : Int) + ((sizeN o wd i : Nat) : Int))), _] = _
      rw [show ((startN o wd i : Nat) : Int) + ((sizeN o wd i : Nat) : Int) = ((startN o wd (i + 1) : Nat) : Int) by omega]
    · by_cases hj : j < i
      · rw [List.getElem?_append_left (by omega)] at hu
        obtain ⟨n1, h1, h2⟩ := hqs j u hu
        exact ⟨n1, e6 _ _ (by rw [upd_ne n1]; exact e5 _ _ h1), h2⟩
      · rw [List.getElem?_append_right (by omega), hql] at hu
        have hj0 : j = i := by
          cases hz : j - i with
          | zero => omega
          | succ m => rw [hz] at hu; simp at hu
        subst hj0
        rw [Nat.sub_self] at hu
        obtain rfl := Option.some.inj hu
        exact ⟨nq, e6 _ _ (by rw [upd_ne nq]; exact g5), fresh_back ex hq⟩
  · rintro σ' H4 ⟨qs, z5, rfl, ex, gs, hql, gpp, hqs⟩
    rw [List.length_map, List.length_cons, List.length_replicate] at hql
    exact s_ret (v := .ref pp) (ev_var rfl) fun H5 e5 => k pp qs H5 hpp (ex.trans e5) (by omega) (fun j q h => (hqs j q h).2.2) ⟨e5 _ _ gpp, fun j q h => e5 _ _ (hqs j q h).2.1⟩
theorem ev_all {σ : L2.St} {H : Hp} {te : TE} {bs : List Bool} {b : Bool} (h : EvS K te σ H (bs.map V.bl)) (hb : bs.all id = b) : Ev (tCB (rAll K) (tCons te tNil)) σ H (.bl b) := fun H1 e Q q => h H1 e _ fun p H2 e2 hp => ⟨p, bs, rfl, hp, by rw [hb]; exact q H2 e2⟩
/-! ### codings -/
structure Cd where
  (raw : Bool) (num : Nat)
def kstr (r : Bool) : Str := if r then "raw" else "rice"
def CdAt (H : Hp) (q : Addr) (c : Cd) : Prop := H q = some (.tup [.str (kstr c.raw), .int (c.num : Int)])
def CdsAt (K : PySem.W.Frag) (H : Hp) (tc : Addr) (qs : List Addr) (cds : List Cd) : Prop := SqT K H tc (qs.map V.ref) ∧ qs.length = cds.length ∧ ∀ (i : Nat) q c, qs[i]? = some q → cds[i]? = some c → CdAt H q c
theorem CdsAt.ex {H H1 : Hp} {tc : Addr} {qs : List Addr} {cds : List Cd} (e : Ex H H1) (h : CdsAt K H tc qs cds) : CdsAt K H1 tc qs cds := ⟨ex_t e h.1, h.2.1, fun i q c a b => e _ _ (h.2.2 i q c a b)⟩
def fitR (wd : Nat) (r : Int) : Bool := if wd = 0 then decide (r = 0) else decide (-((2 ^ (wd - 1) : Nat) : Int) ≤ r) && decide (r < ((2 ^ (wd - 1) : Nat) : Int))
def fitC (c : Cd) (part : List Int) : Bool := if c.raw then part.all (fitR c.num) else true
theorem ev_strq {σ : L2.St} {H : Hp} {te : TE} {r : Bool} (z : Str) (b : Bool) (h : Ev te σ H (.str (kstr r))) (hb : decide (V.str (kstr r) = V.str z) = b) : EvT (tTest (tOp rEq te (tC (.str z)))) σ H b := et_test (Ev.is (ev_eq h ev_c rfl) (congrArg V.bl hb))
theorem q_asg2T {σ : L2.St} {H : Hp} {te : TE} {i j : Nat} {t : Addr} {x y : V} {D : Ends} {tz : TS} (h : Ev te σ H (.ref t)) (hT : H t = some (.tup [x, y])) (k : ∀ H1, Ex H H1 → tz D ((σ.set i (some x)).set j (some y)) H1) :
    tSeq (tAsg te (gTup K 2 (gCons (gName i) (gCons (gName j) gNil)))) tz D σ H := h H (Ex.refl H) _ fun H1 e1 => ⟨t, [x, y], rfl, st_of (e1 _ _ hT), rfl, x, [y], rfl, y, [], rfl, rfl, k H1 e1⟩
/-- over zip of a tuple and a list -/
theorem el_lcZM {σ : L2.St} {H : Hp} {t1 t2 te : TE} {xs ys : List V} {vs : List Nat} {j1 j2 : Nat} (zs : List V) (h1 : EvP K t1 σ H xs) (h2 : EvS K t2 σ H ys) (hz1 : zs.length = xs.length) (hz2 : zs.length = ys.length) (hb : zs.length ≤ 50000)
    (hw : ∀ x y, wipe (((wipe σ vs).set j1 (some x)).set j2 (some y)) vs = wipe σ vs)
    (he : ∀ (i : Nat) (x y : V) H1, Ex H H1 → xs[i]? = some x → ys[i]? = some y → ∃ z, zs[i]? = some z ∧ Ev te (((wipe σ vs).set j1 (some x)).set j2 (some y)) H1 z) :
    EvL (tLc (iZipM K (tCons t1 (tCons t2 tNil))) (gTup K 2 (gCons (gName j1) (gCons (gName j2) gNil))) tYes te vs) σ H zs := fun H0 e Q q =>
  h1 H0 e _ fun p H1 e1 hp => h2 H1 (e.trans e1) _ fun r H2 e2 hr => ⟨p, r, xs, ys, rfl, ex_t e2 hp, hr, fun D hD =>
    ⟨fun i m H' => m = zs.length - i ∧ i ≤ zs.length ∧ Ex H2 H' ∧ H' D = some (.lst (zs.take i)), ⟨zs.length, rfl, Nat.zero_le _, Ex.new hD, upd_same⟩, by
      rintro i m H' ⟨rfl, hi, ex, hd⟩
      have qx : SqT K H' p xs := ex_t (e2.trans ex) hp
      have qy : SqL K H' r ys := ex_l ex hr
      by_cases hlt : i < zs.length
      · have hx : xs[i]? = some xs[i] := List.getElem?_eq_getElem (by omega)
        have hy : ys[i]? = some ys[i] := List.getElem?_eq_getElem (by omega)
        refine .inr ⟨⟨xs, ys, _, _, qx, qy, hx, hy⟩, fun H3 => i + 1 ≤ zs.length ∧ Ex H2 H3 ∧ H3 D = some (.lst (zs.take (i + 1))), fun H3 h3 => ⟨zs.length - (i + 1), by omega, rfl, h3⟩, fun v H3 hv => ?_⟩
        obtain ⟨T, x, y, rfl, hT, rfl, f1, f2⟩ := hv
        have ex3 : Ex H' (upd H' T (.tup [x, y])) := Ex.new hT
        obtain ⟨z, hz1, hz2⟩ := he i x y (upd H' T (.tup [x, y])) ((((e.trans e1).trans e2).trans ex).trans ex3) (f1 _ qx) (f2 _ qy)
        refine ⟨T, [x, y], rfl, st_of upd_same, rfl, x, [y], rfl, y, [], rfl, rfl, hw x y, ?_⟩
        refine hz2 _ (Ex.refl _) _ fun H4 e4 => ⟨zs.take i, e4 _ _ (ex3 _ _ hd), sz_lt (by rw [List.length_take]; omega), hlt, ?_, ?_⟩
        · exact Ex.mut ((ex.trans ex3).trans e4) hD
        · rw [upd_same, take_snoc hz1]
      · have ei : i = zs.length := by omega
        refine .inl ⟨⟨xs, ys, qx, qy, by omega, by omega, by omega⟩, ?_⟩
        rw [ei, List.take_length] at hd
        exact q D H' (fresh_back (e1.trans e2) hD) ((e1.trans e2).trans ex) hd⟩⟩
theorem ev_lenT {σ : L2.St} {H : Hp} {te : TE} {xs : List V} (h : EvP K te σ H xs) : Ev (tCB (rLenS K) (tCons te tNil)) σ H (.int (xs.length : Int)) := fun H1 e Q q => h H1 e _ fun p H2 e2 hp => ⟨p, xs, rfl, .inr hp, q H2 e2⟩
def fitP (cds : List Cd) (rs : List Int) (o w : Nat) : Bool := (List.range cds.length).all fun i => fitC (cds.getD i ⟨false, 0⟩) (partL rs o w i)
def fits (n : Nat) (cds : List Cd) (rs : List Int) (o : Nat) : Bool :=
  decide ((rs.length + o) % 2 ^ n = 0) && (decide (o < (rs.length + o) / 2 ^ n) && (decide (cds.length = 2 ^ n) && fitP cds rs o ((rs.length + o) / 2 ^ n)))
def sp_fits (K : PySem.W.Frag) : Sp := fun vs H Q _ => ∃ (t tc r : Addr) (qs : List Addr) (cds : List Cd) (m n o : Nat) (rs : List Int), vs = [.ref t, .ref r, .int (o : Int)] ∧ H t = some (.tup [.int (m : Int), .int (n : Int), .ref tc]) ∧ CdsAt K H tc qs cds ∧ H r = some (.lst (rs.map V.int)) ∧ n ≤ 16 ∧ rs.length ≤ 40000 ∧ (∀ c ∈ cds, c.num ≤ 1000) ∧ cds.length ≤ 40000 ∧ RetV (.bl (fits n cds rs o)) H Q
theorem q_asg3T {σ : L2.St} {H : Hp} {te : TE} {i j l : Nat} {t : Addr} {x y z : V} {D : Ends} {tz : TS} (h : Ev te σ H (.ref t)) (hT : H t = some (.tup [x, y, z])) (k : ∀ H1, Ex H H1 → tz D (((σ.set i (some x)).set j (some y)).set l (some z)) H1) :
    tSeq (tAsg te (gTup K 3 (gCons (gName i) (gCons (gName j) (gCons (gName l) gNil))))) tz D σ H := h H (Ex.refl H) _ fun H1 e1 => ⟨t, [x, y, z], rfl, st_of (e1 _ _ hT), rfl, x, [y, z], rfl, y, [z], rfl, z, [], rfl, rfl, k H1 e1⟩

def cdOk (m : Nat) (c : Cd) : Prop := c.num ≤ 31 ∧ (c.raw = false → c.num < 15 + 16 * m)
/-! ### the bits of a plan -/
def clenN (k : Nat) (r : Int) : Nat := (foldI r).toNat / 2 ^ k + 1 + k
def pbits (m : Nat) (c : Cd) (part : List Int) : Nat := 4 + m + if c.raw then 5 + c.num * part.length else (part.map (clenN c.num)).sum
def rbits (m : Nat) (cds : List Cd) (rs : List Int) (o w : Nat) : Nat → Nat
  | 0 => 6
  | i + 1 => rbits m cds rs o w i + pbits m (cds.getD i ⟨false, 0⟩) (partL rs o w i)
theorem walk_zipM {a b : Addr} {xs ys : List V} {n : Nat} (h1 : xs.length = n) (h2 : ys.length = n) : Walk (ItM K a b) n (fun H => SqT K H a xs ∧ SqL K H b ys) (YPair (fun i => xs[i]?) (fun i => ys[i]?)) where
  goes := fun i H hi g => ⟨xs, ys, xs[i]'(by omega), ys[i]'(by omega), g.1, g.2, List.getElem?_eq_getElem _, List.getElem?_eq_getElem _⟩
  stops := fun H g => ⟨xs, ys, g.1, g.2, by omega, by omega, .inl h1.symm⟩
  yields := fun i H x H' hi g ⟨T, x, y, e1, e2, e3, f1, f2⟩ => ⟨T, x, y, e1, e2, e3, f1 _ g.1, f2 _ g.2⟩
theorem q_zipC {σ : L2.St} {H : Hp} {t1 : TE} {tA : TA} {a : Addr} {vs dvs : List V} {sp : Sp} {E : XK} {g : TG} {tu tz : TS} {D : Ends} (h1 : Ev t1 σ H (.ref a)) (h2 : EvA tA σ H vs) (k : ∀ H1, Ex H H1 → sp (vs ++ dvs) H1 (fun y H2 => tSeq (tFor (iZipM K (tCons (tC (.ref a)) (tCons (tC y) tNil))) g tu) tz D σ H2) E) :
    tSeq (tFor (iZipM K (tCons t1 (tCons (tCall sp dvs E tA) tNil))) g tu) tz D σ H := h1 H (Ex.refl H) _ fun H1 e1 => h2 H1 e1 _ fun H2 e2 => k H2 (e1.trans e2)
theorem q_forZM {σ : L2.St} {H : Hp} {a b : Addr} {xs ys : List V} {n : Nat} {j1 j2 : Nat} {tu tz : TS} {D : Ends} (hx : SqT K H a xs) (hy : SqL K H b ys) (h1 : xs.length = n) (h2 : ys.length = n) (Pv : Nat → L2.St → Hp → Prop) (h0 : Pv 0 σ H) (hG : ∀ i σ' H', i ≤ n → Pv i σ' H' → SqT K H' a xs ∧ SqL K H' b ys)
    (hs : ∀ i σ' H' x y, xs[i]? = some x → ys[i]? = some y → Pv i σ' H' → ∀ H1, Ex H' H1 → tu { nx := Pv (i + 1), rt := D.rt, bk := tz D, ct := Pv (i + 1) } ((σ'.set j1 (some x)).set j2 (some y)) H1) (hd : ∀ σ' H', Pv n σ' H' → tz D σ' H') :
    tSeq (tFor (iZipM K (tCons (tC (.ref a)) (tCons (tC (.ref b)) tNil))) (gTup K 2 (gCons (gName j1) (gCons (gName j2) gNil))) tu) tz D σ H :=
  ⟨a, b, xs, ys, rfl, hx, hy, for_it (D := { D with nx := tz D }) (walk_zipM h1 h2) Pv h0 hG (fun i x σ' H1 H2 hi p y => by
    obtain ⟨T, u, v, rfl, hT, rfl, g1, g2⟩ := y
    exact ⟨T, [u, v], rfl, st_of upd_same, rfl, u, [v], rfl, v, [], rfl, rfl, hs i σ' H1 u v g1 g2 p _ (Ex.new hT)⟩) hd⟩
def sp_cw : Sp := fun vs H Q _ => ∃ m : Nat, vs = [.int (m : Int)] ∧ RetV (.int ((4 + m : Nat) : Int)) H Q
theorem ok_coding_width (T : TX K mg) : FnOk P w K mg base CX0 1 T.a_coding_width T.d_coding_width ["method"] sp_cw := by
  refine T.F_coding_width.ok sc_coding_width (fun vs H Q E h => by obtain ⟨m, rfl, _⟩ := h; rfl) (fun cdv A outer s0 H vs Q E hr h => ?_)
  obtain ⟨m, rfl, k⟩ := h
  refine ⟨_, (pss_one (ps_ret (pe_op op_add pe_int (pv 0)))), ?_⟩
  exact s_ret (Ev.is (ev_I0 ev_c (ev_var rfl)) (congrArg V.int (by omega))) fun H1 e1 => k H1 e1
theorem ev_cw {σ : L2.St} {H : Hp} {te : TE} {E : XK} {m : Nat} (h : Ev te σ H (.int (m : Int))) : Ev (tCall sp_cw [] E (tCons te tNil)) σ H (.int ((4 + m : Nat) : Int)) := ev_call (ea_cons h ea_nil) fun H1 e Q q _ => ⟨m, rfl, q⟩
def sp_pbits : Sp := fun vs H Q _ => ∃ (m : Nat) (q p : Addr) (c : Cd) (part : List Int), vs = [.int (m : Int), .ref q, .ref p] ∧ CdAt H q c ∧ H p = some (.lst (part.map V.int)) ∧ c.num ≤ 1000 ∧ part.length ≤ 40000 ∧ RetV (.int ((pbits m c part : Nat) : Int)) H Q
theorem sum_nat (f : Int → Nat) : ∀ l : List Int, (l.map fun r => ((f r : Nat) : Int)).sum = (((l.map f).sum : Nat) : Int)
  | [] => rfl
  | a :: r => by rw [List.map_cons, List.sum_cons, sum_nat f r, List.map_cons, List.sum_cons, Int.natCast_add]
def sp_rbits (K : PySem.W.Frag) : Sp := fun vs H Q _ => ∃ (t tc r : Addr) (qs : List Addr) (cds : List Cd) (m n o wd : Nat) (rs : List Int), vs = [.ref t, .ref r, .int (o : Int)] ∧ H t = some (.tup [.int (m : Int), .int (n : Int), .ref tc]) ∧ CdsAt K H tc qs cds ∧ H r = some (.lst (rs.map V.int)) ∧ n ≤ 16 ∧ rs.length ≤ 40000 ∧ (∀ c ∈ cds, c.num ≤ 1000) ∧ cds.length = 2 ^ n ∧ rs.length + o = wd * 2 ^ n ∧ o ≤ wd ∧ RetV (.int ((rbits m cds rs o wd cds.length : Nat) : Int)) H Q

def sp_wcode (C : Addr) : Sp := fun vs H Q _ => ∃ (a L : Addr) (ms : List Bool) (k u : Nat) (n : Int), vs = [.ref a, .int (k : Int), .int n] ∧ WrAt C H a L ms ∧ k ≤ 64 ∧ foldI n = (u : Int) ∧ u / 2 ^ k ≤ 20000 ∧ ms.length ≤ 250000 ∧ ∀ H', Fr a L H H' → WrAt C H' a L (ms ++ codeB k u) → Q .non H'
theorem ok_write_code (T : TX K mg) : FnOk P w K mg base CX0 3 T.a_write_code T.d_write_code ["writer", "k", "n"] (sp_wcode T.C_BitWriter) := by
  refine T.F_write_code.ok sc_write_code (fun vs H Q E h => by obtain ⟨a, L, ms, k, u, n, rfl, _⟩ := h; rfl) (fun cdv A outer s H vs Q E hr h => ?_)
  obtain ⟨a, L, ms, k, u, n, rfl, hW, hk, hu, hq, hl, q⟩ := h
  refine ⟨_, (pss_cons (ps_set (i := 3) sc_write_code.nd rfl (Or.inl rfl) (pe_call (ok_fold T) (hr.mono (by decide)) (by rfl) T.g_fold T.F_fold.kp T.b_fold .nil pass0 (pa_cons (pv 2) pa_nil)))
      (pss_cons (ps_expr (pe_meth (pv 0) T.cl_BitWriter T.me_BitWriter_write_unary (ok_BitWriter_write_unary T) (hr.mono (by decide)) T.b_BitWriter_write_unary .nil pass0 (pa_cons (pe_op op_shr (pv 3) (pv 1)) pa_nil)))
      (pss_one (ps_expr (pe_meth (pv 0) T.cl_BitWriter T.me_BitWriter_write (ok_BitWriter_write T) (hr.mono (by decide)) T.b_BitWriter_write .nil pass0 (pa_cons (pv 1) (pa_cons (pe_op op_and (pv 3) (pe_op op_sub (pe_op op_shl pe_int (pv 1)) pe_int)) pa_nil))))))), ?_⟩
  refine q_asg (v := .int (u : Int)) (Ev.is (ev_fold (ev_var rfl)) (congrArg V.int hu)) fun H1 e1 => ?_
  obtain ⟨dx, ws, hd, nn, ha, _⟩ := (hW.ex e1).len
  refine q_dropM (vs := [.int ((u / 2 ^ k : Nat) : Int)]) (ev_var rfl) ha rfl (ea_cons (Ev.is (ev_I (ev_var rfl) (ev_var rfl) (by show (0 : Int) ≤ _; omega)) (congrArg V.int (by rw [Int.toNat_natCast, pow_cast, ← Int.natCast_ediv]))) ea_nil) fun H2 e2 => ⟨a, L, ms, u / 2 ^ k, rfl, hW.ex (e1.trans e2), by omega, fun H3 hF3 hW3 => ?_⟩
  obtain ⟨dx3, ws3, hd3, nn3, ha3, _⟩ := hW3.len
  have hl3 : (ms ++ (List.replicate (u / 2 ^ k) false ++ [true])).length ≤ 280000 := by
    rw [List.length_append, List.length_append, List.length_replicate]
    show _ + (_ + 1) ≤ _
    omega
  refine s_dropM (vs := [.int (k : Int), .int ((u % 2 ^ k : Nat) : Int)]) (ev_var rfl) ha3 rfl (ea_cons (ev_var rfl) (ea_cons (Ev.is (ev_I0 (ev_var rfl) (ev_I0 (ev_I ev_c (ev_var rfl) (show CPow 1 (k : Int) from ⟨by omega, by omega, by decide⟩)) ev_c)) (congrArg V.int (by rw [Int.toNat_natCast, Int.one_mul, bitAnd_maskZ, pow_cast, ← Int.natCast_emod]))) ea_nil)) fun H4 e4 => ⟨a, L, _, k, ((u % 2 ^ k : Nat) : Int), rfl, hW3.ex e4, by omega, by omega, fun H5 hF5 hW5 => ?_⟩
  rw [self_mod (Nat.mod_lt _ (Nat.two_pow_pos k)), List.append_assoc, List.append_assoc] at hW5
  exact q H5 ((((Fr.ex (e1.trans e2)).trans hF3).trans (Fr.ex e4)).trans hF5) hW5

def sp_rcodeN (C : Addr) : Sp := fun vs H Q _ => ∃ (a d : Addr) (ds : List Nat) (pos k z : Nat), vs = [.ref a, .int (k : Int)] ∧ RdAt C H a d pos ∧ H d = some (.lst ((cs ds).map V.int)) ∧ (∀ b ∈ ds, b < 256) ∧ ds.length ≤ 100000 ∧ k ≤ 64 ∧
  zrun (ds.flatMap bits8) pos z ∧ pos + z + 1 + k ≤ 8 * ds.length ∧ ∀ H', FrA a H H' → RdAt C H' a d (pos + z + 1 + k) → Q (.int (unfoldI ((z * 2 ^ k + valL (((ds.flatMap bits8).drop (pos + z + 1)).take k) : Nat) : Int))) H'
theorem ok_read_code (T : TX K mg) : FnOk P w K mg base CX0 4 T.a_read_code T.d_read_code ["reader", "k"] (sp_rcodeN T.C_BitReader) := by
  refine T.F_read_code.ok sc_read_code (fun vs H Q E h => by obtain ⟨a, d, ds, pos, k, z, rfl, _⟩ := h; rfl) (fun cdv A outer s H vs Q E hr h => ?_)
  obtain ⟨a, d, ds, pos, k, z, rfl, hR, hd, hds, hl, hk, hz, hp, q⟩ := h
  obtain ⟨dx, ha⟩ := id hR
  refine ⟨_, (pss_cons (ps_set (i := 2) sc_read_code.nd rfl (Or.inl rfl) (pe_meth0 (pv 0) T.cl_BitReader T.me_BitReader_read_unary (ok_BitReader_read_unary T) (hr.mono (by decide)) T.b_BitReader_read_unary .nil pass0))
      (pss_one (ps_ret (pe_call (ok_unfold T) (hr.mono (by decide)) (by rfl) T.g_unfold T.F_unfold.kp T.b_unfold .nil pass0 (pa_cons (pe_op op_or (pe_op op_shl (pv 2) (pv 1)) (pe_meth (pv 0) T.cl_BitReader T.me_BitReader_read (ok_BitReader_read T) (hr.mono (by decide)) T.b_BitReader_read .nil pass0 (pa_cons (pv 1) pa_nil))) pa_nil))))), ?_⟩
  refine q_asgM (sp := sp_readUN T.C_BitReader) (m := "read_unary") (dvs := []) (vs := []) (ev_var rfl) ha rfl ea_nil fun H1 e1 => ⟨a, d, ds, pos, z, rfl, hR.ex e1, e1 _ _ hd, hds, hl, hz, fun H2 hF hR2 => ?_⟩
  have hF2 := (FrA.ex e1).trans hF
  have hd2 := hF2 _ _ (hR.ne hd) hd
  have hz8 : pos + z < 8 * ds.length := by
    have := (List.getElem?_eq_some_iff.mp hz.2).1
    rwa [bits_flat_len] at this
  obtain ⟨dx2, ha2⟩ := id hR2
  refine (ev_I (ev_var rfl) (ev_var rfl) (show CPow (z : Int) (k : Int) from ⟨by omega, by omega, by rw [Int.natAbs_natCast]; omega⟩) : Ev (tOp (rI CPow fun i j => .int (i * 2 ^ j.toNat)) (tVar 2) (tVar 1)) [some (.ref a), some (.int (k : Int)), some (.int (z : Int))] H2 _) H2 (Ex.refl H2) _ fun H3 e3 => ?_
  refine mth (sp := sp_readN T.C_BitReader) (m := "read") (dvs := []) (vs := [.int (k : Int)]) (ev_var rfl) (e3 _ _ ha2) rfl (ea_cons (ev_var rfl) ea_nil) fun H4 e4 => ⟨a, d, ds, pos + z + 1, k, rfl, hR2.ex (e3.trans e4), (e3.trans e4) _ _ hd2, hds, hk, hl, hp, fun H5 hF5 hR5 => ?_⟩
  have q5 := q
  have hvl : valL (((ds.flatMap bits8).drop (pos + z + 1)).take k) < 2 ^ k := by
    have h1 := valL_lt (((ds.flatMap bits8).drop (pos + z + 1)).take k)
    rwa [List.length_take, List.length_drop, bits_flat_len, Nat.min_eq_left (by omega)] at h1
  generalize valL (((ds.flatMap bits8).drop (pos + z + 1)).take k) = v at *
  refine ⟨_, _, rfl, rfl, _, rfl, fun H6 e6 => ?_⟩
  have e : Builtin.bitOr ((z : Int) * 2 ^ ((k : Int)).toNat) (v : Int) = ((z * 2 ^ k + v : Nat) : Int) := by
    rw [Int.toNat_natCast, _root_.Bits.bitOr_join' (by omega) (by rw [pow_cast]; omega) (by omega), pow_cast, Int.natCast_add, Int.natCast_mul]
    omega
  show Q (.int (unfoldI (Builtin.bitOr ((z : Int) * 2 ^ ((k : Int)).toNat) (v : Int)))) H6
  rw [e]
  exact q5 H6 (((hF2.trans (FrA.ex (e3.trans e4))).trans hF5).trans (FrA.ex e6)) (hR5.ex e6)
/-- a code in its place is read -/
theorem code_at {B pre post : List Bool} {k u : Nat} (h : B = pre ++ (codeB k u ++ post)) : zrun B pre.length (u / 2 ^ k) ∧ valL ((B.drop (pre.length + u / 2 ^ k + 1)).take k) = u % 2 ^ k ∧ pre.length + u / 2 ^ k + 1 + k ≤ B.length := by
  have hl := codeB_len k u
  have h0 := Nat.zero_le (u / 2 ^ k)
  refine ⟨⟨fun i hi => ?_, ?_⟩, ?_, ?_⟩
  · rw [h, List.getElem?_append_right (by omega), List.getElem?_append_left (by omega), show pre.length + i - pre.length = i by omega]
    unfold codeB
    rw [List.getElem?_append_left (by rw [List.length_replicate]; omega), List.getElem?_replicate, if_pos hi]
  · rw [h, List.getElem?_append_right (by omega), List.getElem?_append_left (by omega), show pre.length + u / 2 ^ k - pre.length = u / 2 ^ k by omega]
    unfold codeB
    rw [List.getElem?_append_right (by rw [List.length_replicate]; omega), List.length_replicate, Nat.sub_self]
    rfl
  · have e : B = (pre ++ (List.replicate (u / 2 ^ k) false ++ [true])) ++ (bitsN k (u % 2 ^ k) ++ post) := by
      rw [h]
      unfold codeB
      simp only [List.append_assoc]
    have el : (pre ++ (List.replicate (u / 2 ^ k) false ++ [true])).length = pre.length + u / 2 ^ k + 1 := by
      rw [List.length_append, List.length_append, List.length_replicate]
      show _ + (_ + 1) = _
      omega
    rw [e, List.drop_left' el, List.take_left' (bitsN_len _ _), valL_bitsN, Nat.mod_mod]
  · rw [h, List.length_append, List.length_append, hl]
    omega
theorem unf_code (k u : Nat) : unfoldI ((u / 2 ^ k * 2 ^ k + u % 2 ^ k : Nat) : Int) = unfoldI (u : Int) := by
  rw [Nat.mul_comm, Nat.div_add_mod]

def EvX (te : TE) (σ : L2.St) (H : Hp) (S : V → Hp → Prop) : Prop := ∀ H1, Ex H H1 → ∀ Q : VK, (∀ v H2, Ex H1 H2 → S v H2 → Q v H2) → te σ H1 Q

/-! ### values of which something is told, one of them a tuple -/
def Up (S : V → Hp → Prop) : Prop := ∀ v H H', Ex H H' → S v H → S v H'
theorem EvX.ev {te : TE} {σ : L2.St} {H : Hp} {v : V} {S : V → Hp → Prop} (h : Ev te σ H v) (hS : ∀ H1, Ex H H1 → S v H1) : EvX te σ H S := fun H1 e Q q => h H1 e _ fun H2 e2 => q v H2 e2 (hS H2 (e.trans e2))
theorem q_asgC3 {σ : L2.St} {H : Hp} {tA : TA} {vs dvs : List V} {sp : Sp} {E : XK} {g : TG} {D : Ends} {tz : TS} (h : EvA tA σ H vs) (k : ∀ H1, Ex H H1 → sp (vs ++ dvs) H1 (fun x H2 => tSeq (tAsg (tC x) g) tz D σ H2) E) : tSeq (tAsg (tCall sp dvs E tA) g) tz D σ H := h H (Ex.refl H) _ fun H1 e => k H1 e
theorem ev_nn {σ : L2.St} {H : Hp} {ta : TE} {x : V} (h : Ev ta σ H x) : Ev (tOp rNotN ta (tC .non)) σ H (.bl (!decide (x = .non))) := fun H1 e Q q => h H1 e _ fun H2 e2 => ⟨rfl, q H2 e2⟩
theorem ex_callA {σ : L2.St} {H : Hp} {t : TA} {vs dvs : List V} {sp : Sp} {E : XK} {S : V → Hp → Prop} (h : EvA t σ H vs) (k : ∀ H1 (Q : VK) (E : XK), Ex H H1 → (∀ v' H2, Ex H1 H2 → S v' H2 → Q v' H2) → sp (vs ++ dvs) H1 Q E) : EvX (tCall sp dvs E t) σ H S := fun H1 e Q q =>
  h H1 e _ fun H2 e2 => k H2 _ _ (e.trans e2) fun v' H3 e3 hS' => q v' H3 (e2.trans e3) hS'
theorem ev_lenX {σ : L2.St} {H : Hp} {te : TE} {S : V → Hp → Prop} {n : Nat} (h : EvX te σ H S) (k : ∀ v G, S v G → ∃ p xs, v = .ref p ∧ G p = some (.lst xs) ∧ xs.length = n) : Ev (tCB (rLenS K) (tCons te tNil)) σ H (.int (n : Int)) := fun H1 e Q q =>
  h H1 e _ fun v H2 e2 hv => by
    obtain ⟨p, xs, rfl, g, rfl⟩ := k v H2 hv
    exact ⟨p, xs, rfl, .inl (sq_of g), q H2 e2⟩

theorem s_dropC {σ : L2.St} {H : Hp} {sp : Sp} {dvs vs : List V} {E : XK} {t : TA} {D : Ends} (h : EvA t σ H vs) (k : ∀ H1, Ex H H1 → sp (vs ++ dvs) H1 (fun _ H2 => D.nx σ H2) E) : tDrop (tCall sp dvs E t) D σ H := h H (Ex.refl H) _ fun H1 e => k H1 e

/-! ### bits in their place -/
def Has (B : List Bool) (pos : Nat) (bs : List Bool) : Prop := ∃ pre post, B = pre ++ (bs ++ post) ∧ pre.length = pos
theorem Has.l {B x y : List Bool} {pos : Nat} (h : Has B pos (x ++ y)) : Has B pos x := by
  obtain ⟨pre, post, e, h⟩ := h
  exact ⟨pre, y ++ post, by rw [e, List.append_assoc], h⟩
theorem Has.r {B x y : List Bool} {pos : Nat} (h : Has B pos (x ++ y)) : Has B (pos + x.length) y := by
  obtain ⟨pre, post, e, rfl⟩ := h
  exact ⟨pre ++ x, post, by rw [e]; simp only [List.append_assoc], by rw [List.length_append]⟩
theorem Has.len {B x : List Bool} {pos : Nat} (h : Has B pos x) : pos + x.length ≤ B.length := by
  obtain ⟨pre, post, e, rfl⟩ := h
  rw [e, List.length_append, List.length_append]
  omega
theorem Has.val {B : List Bool} {pos w v : Nat} (h : Has B pos (bitsN w v)) (hv : v < 2 ^ w) : valL ((B.drop pos).take w) = v := by
  obtain ⟨pre, post, e, rfl⟩ := h
  rw [e, List.drop_left, List.take_left' (bitsN_len w v), valL_bitsN, Nat.mod_eq_of_lt hv]
theorem Has.code {B : List Bool} {pos k u : Nat} (h : Has B pos (codeB k u)) : zrun B pos (u / 2 ^ k) ∧ valL ((B.drop (pos + u / 2 ^ k + 1)).take k) = u % 2 ^ k ∧ pos + u / 2 ^ k + 1 + k ≤ B.length := by
  obtain ⟨pre, post, e, rfl⟩ := h
  exact code_at e
def RdD (C : Addr) (H : Hp) (a d : Addr) (ds : List Nat) (pos : Nat) : Prop := RdAt C H a d pos ∧ H d = some (.lst ((cs ds).map V.int)) ∧ (∀ b ∈ ds, b < 256) ∧ ds.length ≤ 100000
theorem RdD.ex {C a d : Addr} {H H1 : Hp} {ds : List Nat} {pos : Nat} (h : RdD C H a d ds pos) (e : Ex H H1) : RdD C H1 a d ds pos := ⟨h.1.ex e, e _ _ h.2.1, h.2.2⟩
theorem RdD.to {C a d : Addr} {H H1 : Hp} {ds : List Nat} {pos pos1 : Nat} (h : RdD C H a d ds pos) (hF : FrA a H H1) (hR : RdAt C H1 a d pos1) : RdD C H1 a d ds pos1 := ⟨hR, hF _ _ (h.1.ne h.2.1) h.2.1, h.2.2⟩
theorem RdD.neT {C a d : Addr} {H : Hp} {ds : List Nat} {pos : Nat} {p : Addr} {xs : List V} (h : RdD C H a d ds pos) (hp : H p = some (.tup xs)) : p ≠ a := by
  obtain ⟨⟨dx, ha⟩, _⟩ := h
  rintro rfl
  rw [ha] at hp
  cases hp
theorem RdD.mut {C a d : Addr} {H : Hp} {ds : List Nat} {pos : Nat} {l : Addr} {o : HO} (h : RdD C H a d ds pos) (h1 : l ≠ a) (h2 : l ≠ d) : RdD C (upd H l o) a d ds pos := by
  obtain ⟨⟨dx, ha⟩, hd, r⟩ := h
  exact ⟨⟨dx, by rw [upd_ne (Ne.symm h1)]; exact ha⟩, by rw [upd_ne (Ne.symm h2)]; exact hd, r⟩

/-! ### the bits of a plan, one by one -/
def cdB (m : Nat) (c : Cd) : List Bool := if c.raw then List.replicate (4 + m) true ++ bitsN 5 c.num else bitsN (4 + m) c.num
def valB (c : Cd) (v : Int) : List Bool := if c.raw then bitsN c.num (v % 2 ^ c.num).toNat else codeB c.num (foldI v).toNat
def planB (m n : Nat) (cds : List Cd) (rs : List Int) (o w : Nat) : Nat → List Bool
  | 0 => bitsN 2 m ++ bitsN 4 n
  | i + 1 => planB m n cds rs o w i ++ (cdB m (cds.getD i ⟨false, 0⟩) ++ (partL rs o w i).flatMap (valB (cds.getD i ⟨false, 0⟩)))
theorem planB_succ {m n : Nat} {cds : List Cd} {rs : List Int} {o w i : Nat} : planB m n cds rs o w (i + 1) = planB m n cds rs o w i ++ (cdB m (cds.getD i ⟨false, 0⟩) ++ (partL rs o w i).flatMap (valB (cds.getD i ⟨false, 0⟩))) := rfl
def valW (c : Cd) (v : Int) : Prop := if c.raw then fitR c.num v = true else (foldI v).toNat / 2 ^ c.num ≤ 20000 ∧ foldI v ≤ 4294967294
theorem bitsN_ones (n : Nat) : bitsN n (2 ^ n - 1) = List.replicate n true := by
  refine List.eq_replicate_iff.mpr ⟨bitsN_len _ _, fun b hb => ?_⟩
  unfold bitsN at hb
  obtain ⟨i, hi, rfl⟩ := List.mem_map.mp hb
  rw [List.mem_range] at hi
  rw [Nat.testBit_two_pow_sub_one]
  exact decide_eq_true (by omega)
theorem cdB_len (m : Nat) (c : Cd) : (cdB m c).length = 4 + m + if c.raw then 5 else 0 := by
  unfold cdB
  split
  · rw [List.length_append, List.length_replicate, bitsN_len]
  · rw [bitsN_len]; rfl
theorem cdB_le (m : Nat) (c : Cd) : (cdB m c).length ≤ 9 + m := by rw [cdB_len]; split <;> omega
theorem valB_len (c : Cd) (v : Int) : (valB c v).length = if c.raw then c.num else clenN c.num v := by
  unfold valB
  split
  · rw [bitsN_len]
  · rw [codeB_len]; rfl
theorem prt_len (m : Nat) (c : Cd) : ∀ l : List Int, (cdB m c).length + (l.flatMap (valB c)).length = pbits m c l
  | [] => by
    rw [List.flatMap_nil, cdB_len]
    unfold pbits
    split <;> simp
  | x :: l => by
    have ih := prt_len m c l
    rw [List.flatMap_cons, List.length_append, valB_len]
    unfold pbits at *
    split
    · rename_i h
      rw [if_pos h] at ih
      rw [List.length_cons, Nat.mul_succ]
      omega
    · rename_i h
      rw [if_neg h] at ih
      rw [List.map_cons, List.sum_cons]
      omega
theorem planB_len (m n : Nat) (cds : List Cd) (rs : List Int) (o w : Nat) : ∀ k, (planB m n cds rs o w k).length = rbits m cds rs o w k
  | 0 => by unfold planB rbits; rw [List.length_append, bitsN_len, bitsN_len]
  | k + 1 => by
    have ih := planB_len m n cds rs o w k
    have h := prt_len m (cds.getD k ⟨false, 0⟩) (partL rs o w k)
    unfold planB rbits
    rw [List.length_append, List.length_append]
    omega
theorem planB_pre (m n : Nat) (cds : List Cd) (rs : List Int) (o w : Nat) : ∀ j i, i ≤ j → ∃ r, planB m n cds rs o w j = planB m n cds rs o w i ++ r
  | 0, i, h => ⟨[], by rw [Nat.le_zero.mp h, List.append_nil]⟩
  | j + 1, i, h => by
    by_cases e : i = j + 1
    · exact ⟨[], by rw [e, List.append_nil]⟩
    · obtain ⟨r, hr⟩ := planB_pre m n cds rs o w j i (by omega)
      refine ⟨r ++ (cdB m (cds.getD j ⟨false, 0⟩) ++ (partL rs o w j).flatMap (valB (cds.getD j ⟨false, 0⟩))), ?_⟩
      rw [← List.append_assoc, ← hr]
      rfl
theorem planB_at {m n : Nat} {cds : List Cd} {rs : List Int} {o w i j : Nat} {B : List Bool} {pos : Nat} (h : Has B pos (planB m n cds rs o w j)) (hi : i < j) : Has B (pos + (planB m n cds rs o w i).length) (cdB m (cds.getD i ⟨false, 0⟩) ++ (partL rs o w i).flatMap (valB (cds.getD i ⟨false, 0⟩))) := by
  obtain ⟨r, hr⟩ := planB_pre m n cds rs o w j (i + 1) hi
  rw [hr] at h
  exact (h.l : Has B pos (planB m n cds rs o w i ++ _)).r
theorem CdAt.fr {C a L : Addr} {H H1 : Hp} {ms : List Bool} {q : Addr} {c : Cd} (h : CdAt H q c) (hW : WrAt C H a L ms) (hF : Fr a L H H1) : CdAt H1 q c := by
  obtain ⟨dx, ws, hd, nn, ha, hL, _⟩ := hW
  unfold CdAt at *
  refine hF q _ ?_ ?_ h
  · rintro rfl; rw [ha] at h; cases h
  · rintro rfl; rw [hL] at h; cases h
theorem WrAt.frT {C a L : Addr} {H H1 : Hp} {ms : List Bool} {q : Addr} {xs : List V} (hW : WrAt C H a L ms) (hF : Fr a L H H1) (h : H q = some (.tup xs)) : H1 q = some (.tup xs) := by
  obtain ⟨dx, ws, hd, nn, ha, hL, _⟩ := hW
  refine hF q _ ?_ ?_ h
  · rintro rfl; rw [ha] at h; cases h
  · rintro rfl; rw [hL] at h; cases h
theorem WrAt.neL {C a L : Addr} {H : Hp} {ms : List Bool} {q : Addr} {xs : List V} (hW : WrAt C H a L ms) (h : H q = some (.lst xs)) : q ≠ a := by
  obtain ⟨dx, ws, hd, nn, ha, hL, _⟩ := hW
  rintro rfl; rw [ha] at h; cases h

/-! ### residuals written -/
def sp_rmark : Sp := fun vs H Q _ => ∃ m : Nat, vs = [.int (m : Int)] ∧ m ≤ 1 ∧ RetV (.int ((2 ^ (4 + m) - 1 : Nat) : Int)) H Q
theorem ok_raw_mark (T : TX K mg) : FnOk P w K mg base CX0 2 T.a_raw_mark T.d_raw_mark ["method"] sp_rmark := by
  refine T.F_raw_mark.ok sc_raw_mark (fun vs H Q E h => by obtain ⟨m, rfl, _⟩ := h; rfl) (fun cdv A outer s0 H vs Q E hr h => ?_)
  obtain ⟨m, rfl, hm, k⟩ := h
  refine ⟨_, (pss_one (ps_ret (pe_op op_sub (pe_op op_shl pe_int (pe_call (ok_coding_width T) (hr.mono (by decide)) (by rfl) T.g_coding_width T.F_coding_width.kp T.b_coding_width .nil pass0 (pa_cons (pv 0) pa_nil))) pe_int))), ?_⟩
  have := Nat.two_pow_pos (4 + m)
  exact s_ret (Ev.is (ev_I0 (g := fun i j => .int (i - j)) (ev_I (j := ((4 + m : Nat) : Int)) ev_c (ev_cw (ev_var rfl)) (show CPow 1 ((4 + m : Nat) : Int) from ⟨by omega, by omega, by decide⟩)) ev_c) (congrArg V.int (by rw [Int.toNat_natCast, Int.one_mul, pow_cast]; omega))) fun H1 e1 => k H1 e1
theorem ev_rm {σ : L2.St} {H : Hp} {te : TE} {E : XK} {m : Nat} (h : Ev te σ H (.int (m : Int))) (hm : m ≤ 1) : Ev (tCall sp_rmark [] E (tCons te tNil)) σ H (.int ((2 ^ (4 + m) - 1 : Nat) : Int)) := ev_call (ea_cons h ea_nil) fun H1 e Q q _ => ⟨m, rfl, hm, q⟩
def sp_wcd (C : Addr) : Sp := fun vs H Q _ => ∃ (a L q : Addr) (ms : List Bool) (m : Nat) (c : Cd), vs = [.ref a, .int (m : Int), .ref q] ∧ WrAt C H a L ms ∧ CdAt H q c ∧ m ≤ 1 ∧ cdOk m c ∧ ms.length ≤ 250000 ∧ ∀ H', Fr a L H H' → WrAt C H' a L (ms ++ cdB m c) → Q .non H'
theorem ok_write_coding (T : TX K mg) : FnOk P w K mg base CX0 3 T.a_write_coding T.d_write_coding ["writer", "method", "coding"] (sp_wcd T.C_BitWriter) := by
  refine T.F_write_coding.ok sc_write_coding (fun vs H Q E h => by obtain ⟨a, L, q, ms, m, c, rfl, _⟩ := h; rfl) (fun cdv A outer s H vs Q E hr h => ?_)
  obtain ⟨a, L, q, ms, m, c, rfl, hW, hq, hm, hc, hl, k⟩ := h
  refine ⟨_, (pss_cons (ps_asg (pv 2) (pg_tup rfl (pgs_cons (pg_name (i := 3) sc_write_coding.nd rfl (Or.inl rfl)) (pgs_cons (pg_name (i := 4) sc_write_coding.nd rfl (Or.inl rfl)) pgs_nil))))
      (pss_one (ps_if (pt_cmpR op_eq (pv 3) pe_str (nomark _)) (pss_cons (ps_expr (pe_meth (pv 0) T.cl_BitWriter T.me_BitWriter_write (ok_BitWriter_write T) (hr.mono (by decide)) T.b_BitWriter_write .nil pass0 (pa_cons (pe_call (ok_coding_width T) (hr.mono (by decide)) (by rfl) T.g_coding_width T.F_coding_width.kp T.b_coding_width .nil pass0 (pa_cons (pv 1) pa_nil)) (pa_cons (pe_call (ok_raw_mark T) (hr.mono (by decide)) (by rfl) T.g_raw_mark T.F_raw_mark.kp T.b_raw_mark .nil pass0 (pa_cons (pv 1) pa_nil)) pa_nil))))
        (pss_one (ps_expr (pe_meth (pv 0) T.cl_BitWriter T.me_BitWriter_write (ok_BitWriter_write T) (hr.mono (by decide)) T.b_BitWriter_write .nil pass0 (pa_cons pe_int (pa_cons (pv 4) pa_nil)))))) (pss_one (ps_expr (pe_meth (pv 0) T.cl_BitWriter T.me_BitWriter_write (ok_BitWriter_write T) (hr.mono (by decide)) T.b_BitWriter_write .nil pass0 (pa_cons (pe_call (ok_coding_width T) (hr.mono (by decide)) (by rfl) T.g_coding_width T.F_coding_width.kp T.b_coding_width .nil pass0 (pa_cons (pv 1) pa_nil)) (pa_cons (pv 4) pa_nil)))))))), ?_⟩
  refine q_asg2T (ev_var rfl) hq fun H1 e1 => ?_
  have hraw : decide (V.str (kstr c.raw) = V.str "raw") = c.raw := by cases c.raw <;> decide
  have h31 := hc.1
  refine s_if (b := c.raw) (ev_strq "raw" c.raw (ev_var rfl) hraw) (fun hb H2 e2 => ?_) (fun hb H2 e2 => ?_)
  · have e12 := e1.trans e2
    obtain ⟨dx, ws, hd, nn, ha, _⟩ := (hW.ex e12).len
    have hpm := Nat.two_pow_pos (4 + m)
    refine q_dropM (vs := [.int ((4 + m : Nat) : Int), .int ((2 ^ (4 + m) - 1 : Nat) : Int)]) (ev_var rfl) ha rfl (ea_cons (ev_cw (ev_var rfl)) (ea_cons (ev_rm (ev_var rfl) hm) ea_nil)) fun H3 e3 => ⟨a, L, ms, 4 + m, ((2 ^ (4 + m) - 1 : Nat) : Int), rfl, hW.ex (e12.trans e3), by omega, by omega, fun H4 hF4 hW4 => ?_⟩
    rw [self_mod (Nat.sub_lt hpm (by decide)), bitsN_ones] at hW4
    obtain ⟨dx4, ws4, hd4, nn4, ha4, _⟩ := hW4.len
    have hl4 : (ms ++ List.replicate (4 + m) true).length ≤ 250010 := by rw [List.length_append, List.length_replicate]; omega
    refine s_dropM (vs := [.int 5, .int (c.num : Int)]) (ev_var rfl) ha4 rfl (ea_cons ev_c (ea_cons (ev_var rfl) ea_nil)) fun H5 e5 => ⟨a, L, _, 5, (c.num : Int), rfl, hW4.ex e5, by omega, by omega, fun H6 hF6 hW6 => ?_⟩
    rw [self_mod (show c.num < 2 ^ 5 by omega), List.append_assoc] at hW6
    refine k H6 (((Fr.ex (e12.trans e3)).trans hF4).trans ((Fr.ex e5).trans hF6)) ?_
    unfold cdB
    rw [if_pos hb]
    exact hW6
  · have e12 := e1.trans e2
    obtain ⟨dx, ws, hd, nn, ha, _⟩ := (hW.ex e12).len
    have hlt : c.num < 2 ^ (4 + m) := by
      have := hc.2 hb
      have h5 : 15 + 16 * m < 2 ^ (4 + m) := by
        rcases (show m = 0 ∨ m = 1 by omega) with rfl | rfl <;> decide
      omega
    refine s_dropM (vs := [.int ((4 + m : Nat) : Int), .int (c.num : Int)]) (ev_var rfl) ha rfl (ea_cons (ev_cw (ev_var rfl)) (ea_cons (ev_var rfl) ea_nil)) fun H3 e3 => ⟨a, L, ms, 4 + m, (c.num : Int), rfl, hW.ex (e12.trans e3), by omega, by omega, fun H4 hF4 hW4 => ?_⟩
    rw [self_mod hlt] at hW4
    refine k H4 ((Fr.ex (e12.trans e3)).trans hF4) ?_
    unfold cdB
    rw [if_neg (by rw [hb]; decide)]
    exact hW4
def sp_wpart (C : Addr) : Sp := fun vs H Q _ => ∃ (a L q p : Addr) (ms : List Bool) (c : Cd) (part : List Int), vs = [.ref a, .ref q, .ref p] ∧ WrAt C H a L ms ∧ CdAt H q c ∧ H p = some (.lst (part.map V.int)) ∧ p ≠ L ∧ c.num ≤ 31 ∧ (∀ v ∈ part, valW c v) ∧ ms.length + (part.flatMap (valB c)).length ≤ 250000 ∧ ∀ H', Fr a L H H' → WrAt C H' a L (ms ++ part.flatMap (valB c)) → Q .non H'
theorem flat_snoc {α β : Type} {l : List α} {f : α → List β} {j : Nat} {x : α} (h : l[j]? = some x) : (l.take (j + 1)).flatMap f = (l.take j).flatMap f ++ f x := by
  rw [List.take_add_one, h, List.flatMap_append]
  show _ ++ List.flatMap f [x] = _
  rw [List.flatMap_cons, List.flatMap_nil, List.append_nil]
theorem flat_take_le {α β : Type} {l : List α} {f : α → List β} (j : Nat) : ((l.take j).flatMap f).length ≤ (l.flatMap f).length := by
  have h := congrArg (List.flatMap f) (List.take_append_drop j l)
  rw [List.flatMap_append] at h
  rw [← h, List.length_append]
  omega
theorem ok_write_part (T : TX K mg) : FnOk P w K mg base CX0 4 T.a_write_part T.d_write_part ["writer", "coding", "part"] (sp_wpart T.C_BitWriter) := by
  refine T.F_write_part.ok sc_write_part (fun vs H Q E h => by obtain ⟨a, L, q, p, ms, c, part, rfl, _⟩ := h; rfl) (fun cdv A outer s H vs Q E hr h => ?_)
  obtain ⟨a, L, q, p, ms, c, part, rfl, hW, hq, hp, npL, hc, hv, hl, k⟩ := h
  refine ⟨_, (pss_cons (ps_asg (pv 1) (pg_tup rfl (pgs_cons (pg_name (i := 3) sc_write_part.nd rfl (Or.inl rfl)) (pgs_cons (pg_name (i := 4) sc_write_part.nd rfl (Or.inl rfl)) pgs_nil))))
      (pss_one (ps_for PassesOwn.never rfl (pi_list (pv 2)) (pg_name (i := 5) sc_write_part.nd rfl (Or.inl rfl)) (pss_one (ps_if (pt_cmpR op_eq (pv 3) pe_str (nomark _)) (pss_one (ps_expr (pe_call (ok_write_code T) (hr.mono (by decide)) (by rfl) T.g_write_code T.F_write_code.kp T.b_write_code .nil pass0 (pa_cons (pv 0) (pa_cons (pv 4) (pa_cons (pv 5) pa_nil)))))) (pss_one (ps_if (pt_cmpR op_gt (pv 4) pe_int (nomark _)) (pss_one (ps_expr (pe_meth (pv 0) T.cl_BitWriter T.me_BitWriter_write_signed (ok_BitWriter_write_signed T) (hr.mono (by decide)) T.b_BitWriter_write_signed .nil pass0 (pa_cons (pv 4) (pa_cons (pv 5) pa_nil))))) pss_nil))))))), ?_⟩
  refine q_asg2T (ev_var rfl) hq fun H1 e1 => ?_
  have npa := hW.neL hp
  have hrice : decide (V.str (kstr c.raw) = V.str "rice") = !c.raw := by cases c.raw <;> decide
  refine s_forLn (K := K) (a := p) (ev_var rfl) (sq_of (e1 _ _ hp)) (fun j σ' H' => ∃ z : Option V, σ' = [some (.ref a), some (.ref q), some (.ref p), some (.str (kstr c.raw)), some (.int (c.num : Int)), z] ∧ Fr a L H H' ∧ WrAt T.C_BitWriter H' a L (ms ++ (part.take j).flatMap (valB c))) (fun H2 e2 => ⟨none, rfl, Fr.ex (e1.trans e2), by rw [List.take_zero, List.flatMap_nil, List.append_nil]; exact hW.ex (e1.trans e2)⟩) (fun j σ' H' _ h => by obtain ⟨_, _, hF, _⟩ := h; exact sq_of (hF _ _ npa npL hp)) ?_ ?_
  · rintro j x σ' H2 hx ⟨z, rfl, hF, hW2⟩
    obtain ⟨v, hvj, hj, rfl⟩ := int_at hx
    have hvv := hv v (List.mem_of_getElem? hvj)
    have hfl := flat_snoc (f := valB c) hvj
    have hle := flat_take_le (f := valB c) (l := part) (j + 1)
    rw [hfl, List.length_append] at hle
    have hl2 : (ms ++ (part.take j).flatMap (valB c)).length + (valB c v).length ≤ 250000 := by rw [List.length_append]; omega
    rw [valB_len] at hl2
    rw [hfl, ← List.append_assoc]
    refine s_if (b := !c.raw) (ev_strq "rice" (!c.raw) (ev_var rfl) hrice) (fun hb H3 e3 => ?_) (fun hb H3 e3 => ?_)
    · have hb : c.raw = false := (Bool.not_eq_true' _).mp hb
      have hf0 := foldI_nn v
      unfold valW at hvv
      rw [if_neg (by rw [hb]; decide)] at hvv
      refine s_dropC (vs := [.ref a, .int (c.num : Int), .int v]) (ea_cons (ev_var rfl) (ea_cons (ev_var rfl) (ea_cons (ev_var rfl) ea_nil))) fun H4 e4 => ⟨a, L, _, c.num, (foldI v).toNat, v, rfl, hW2.ex (e3.trans e4), by omega, by omega, hvv.1, by omega, fun H5 hF5 hW5 => ⟨_, rfl, (hF.trans (Fr.ex (e3.trans e4))).trans hF5, ?_⟩⟩
      have : valB c v = codeB c.num (foldI v).toNat := by unfold valB; rw [if_neg (by rw [hb]; decide)]
      rw [this]
      exact hW5
    · have hb : c.raw = true := by cases h : c.raw with | true => rfl | false => rw [h] at hb; cases hb
      have hvB : valB c v = bitsN c.num (v % 2 ^ c.num).toNat := by unfold valB; rw [if_pos hb]
      rw [hvB]
      refine s_when (b := decide (0 < c.num)) (et_test (Ev.is (ev_I0 (g := fun i j => .bl (decide (j < i))) (ev_var rfl) ev_c) (congrArg V.bl (decide_eq_decide.mpr (by omega))))) (fun h0 H4 e4 => ?_) (fun h0 H4 e4 => ?_)
      · obtain ⟨dx, ws, hd, nn, ha, _⟩ := (hW2.ex (e3.trans e4)).len
        exact s_dropM (vs := [.int (c.num : Int), .int v]) (ev_var rfl) ha rfl (ea_cons (ev_var rfl) (ea_cons (ev_var rfl) ea_nil)) fun H5 e5 => ⟨a, L, _, c.num, v, rfl, hW2.ex ((e3.trans e4).trans e5), by omega, by omega, fun H6 hF6 hW6 => ⟨_, rfl, (hF.trans (Fr.ex ((e3.trans e4).trans e5))).trans hF6, hW6⟩⟩
      · have h0 : c.num = 0 := by have := of_decide_eq_false h0; omega
        refine ⟨_, rfl, hF.trans (Fr.ex (e3.trans e4)), ?_⟩
        rw [h0, show ∀ x, bitsN 0 x = [] from fun _ => rfl, List.append_nil]
        exact hW2.ex (e3.trans e4)
  · rintro σ' H2 ⟨z, rfl, hF, hW2⟩
    rw [List.length_map, List.take_length] at hW2
    exact k H2 hF hW2
def CdsT (H : Hp) (tc : Addr) (qs : List Addr) (cds : List Cd) : Prop := H tc = some (.tup (qs.map V.ref)) ∧ qs.length = cds.length ∧ ∀ (i : Nat) q c, qs[i]? = some q → cds[i]? = some c → CdAt H q c
theorem CdsT.ex {H H1 : Hp} {tc : Addr} {qs : List Addr} {cds : List Cd} (h : CdsT H tc qs cds) (e : Ex H H1) : CdsT H1 tc qs cds := ⟨e _ _ h.1, h.2.1, fun i q c a b => e _ _ (h.2.2 i q c a b)⟩
theorem CdsT.fr {C a L : Addr} {H H1 : Hp} {ms : List Bool} {tc : Addr} {qs : List Addr} {cds : List Cd} (h : CdsT H tc qs cds) (hW : WrAt C H a L ms) (hF : Fr a L H H1) : CdsT H1 tc qs cds := ⟨hW.frT hF h.1, h.2.1, fun i q c x y => (h.2.2 i q c x y).fr hW hF⟩
theorem s_zipC {σ : L2.St} {H : Hp} {t1 : TE} {tA : TA} {a : Addr} {vs dvs : List V} {sp : Sp} {E : XK} {g : TG} {tu : TS} {D : Ends} (h1 : Ev t1 σ H (.ref a)) (h2 : EvA tA σ H vs) (k : ∀ H1, Ex H H1 → sp (vs ++ dvs) H1 (fun y H2 => tFor (iZipM K (tCons (tC (.ref a)) (tCons (tC y) tNil))) g tu D σ H2) E) :
    tFor (iZipM K (tCons t1 (tCons (tCall sp dvs E tA) tNil))) g tu D σ H := h1 H (Ex.refl H) _ fun H1 e1 => h2 H1 e1 _ fun H2 e2 => k H2 (e1.trans e2)
theorem s_forZM {σ : L2.St} {H : Hp} {a b : Addr} {xs ys : List V} {n : Nat} {j1 j2 : Nat} {tu : TS} {D : Ends} (hx : SqT K H a xs) (hy : SqL K H b ys) (h1 : xs.length = n) (h2 : ys.length = n) (Pv : Nat → L2.St → Hp → Prop) (h0 : Pv 0 σ H) (hG : ∀ i σ' H', i ≤ n → Pv i σ' H' → SqT K H' a xs ∧ SqL K H' b ys)
    (hs : ∀ i σ' H' x y, xs[i]? = some x → ys[i]? = some y → Pv i σ' H' → ∀ H1, Ex H' H1 → tu { nx := Pv (i + 1), rt := D.rt, bk := D.nx, ct := Pv (i + 1) } ((σ'.set j1 (some x)).set j2 (some y)) H1) (hd : ∀ σ' H', Pv n σ' H' → D.nx σ' H') :
    tFor (iZipM K (tCons (tC (.ref a)) (tCons (tC (.ref b)) tNil))) (gTup K 2 (gCons (gName j1) (gCons (gName j2) gNil))) tu D σ H :=
  ⟨a, b, xs, ys, rfl, hx, hy, for_it (D := D) (walk_zipM h1 h2) Pv h0 hG (fun i x σ' H1 H2 hi p y => by
    obtain ⟨T, u, v, rfl, hT, rfl, g1, g2⟩ := y
    exact ⟨T, [u, v], rfl, st_of upd_same, rfl, u, [v], rfl, v, [], rfl, rfl, hs i σ' H1 u v g1 g2 p _ (Ex.new hT)⟩) hd⟩
def sp_wres (C : Addr) : Sp := fun vs H Q _ => ∃ (a L t tc r : Addr) (qs : List Addr) (cds : List Cd) (ms : List Bool) (m n o wd : Nat) (rs : List Int), vs = [.ref a, .ref t, .ref r, .int (o : Int)] ∧ WrAt C H a L ms ∧ H t = some (.tup [.int (m : Int), .int (n : Int), .ref tc]) ∧ CdsT H tc qs cds ∧ H r = some (.lst (rs.map V.int)) ∧ r ≠ L ∧ n ≤ 15 ∧ m ≤ 1 ∧ cds.length = 2 ^ n ∧ rs.length + o = wd * 2 ^ n ∧ o ≤ wd ∧ rs.length ≤ 40000 ∧ (∀ c ∈ cds, cdOk m c) ∧ (∀ i, i < 2 ^ n → ∀ v ∈ partL rs o wd i, valW (cds.getD i ⟨false, 0⟩) v) ∧ ms.length + (planB m n cds rs o wd (2 ^ n)).length ≤ 240000 ∧ ∀ H', Fr a L H H' → WrAt C H' a L (ms ++ planB m n cds rs o wd (2 ^ n)) → Q .non H'
theorem ok_write_residuals (T : TX K mg) : FnOk P w K mg base CX0 5 T.a_write_residuals T.d_write_residuals ["writer", "plan", "residuals", "order"] (sp_wres T.C_BitWriter) := by
  refine T.F_write_residuals.ok sc_write_residuals (fun vs H Q E h => by obtain ⟨a, L, t, tc, r, qs, cds, ms, m, n, o, wd, rs, rfl, _⟩ := h; rfl) (fun cdv A outer s H vs Q E hr h => ?_)
  obtain ⟨a, L, t, tc, r, qs, cds, ms, m, n, o, wd, rs, rfl, hW, ht, hc, hr0, nrL, hn, hm, hcl, hl, how, hrl, hcd, hval, hbl, k⟩ := h
  refine ⟨_, (pss_cons (ps_asg (pv 1) (pg_tup rfl (pgs_cons (pg_name (i := 4) sc_write_residuals.nd rfl (Or.inl rfl)) (pgs_cons (pg_name (i := 5) sc_write_residuals.nd rfl (Or.inl rfl)) (pgs_cons (pg_name (i := 6) sc_write_residuals.nd rfl (Or.inl rfl)) pgs_nil)))))
      (pss_cons (ps_expr (pe_meth (pv 0) T.cl_BitWriter T.me_BitWriter_write (ok_BitWriter_write T) (hr.mono (by decide)) T.b_BitWriter_write .nil pass0 (pa_cons pe_int (pa_cons (pv 4) pa_nil))))
      (pss_cons (ps_expr (pe_meth (pv 0) T.cl_BitWriter T.me_BitWriter_write (ok_BitWriter_write T) (hr.mono (by decide)) T.b_BitWriter_write .nil pass0 (pa_cons pe_int (pa_cons (pv 5) pa_nil))))
      (pss_one (ps_for PassesOwn.never rfl (pi_zipM (by rfl) T.m_zip (pa_cons (pv 6) (pa_cons (pe_call (ok_parts T) (hr.mono (by decide)) (by rfl) T.g_parts T.F_parts.kp T.b_parts .nil pass0 (pa_cons (pv 2) (pa_cons (pv 3) (pa_cons (pv 5) pa_nil)))) pa_nil))) (pg_tup rfl (pgs_cons (pg_name (i := 7) sc_write_residuals.nd rfl (Or.inl rfl)) (pgs_cons (pg_name (i := 8) sc_write_residuals.nd rfl (Or.inl rfl)) pgs_nil))) (pss_cons (ps_expr (pe_call (ok_write_coding T) (hr.mono (by decide)) (by rfl) T.g_write_coding T.F_write_coding.kp T.b_write_coding .nil pass0 (pa_cons (pv 0) (pa_cons (pv 4) (pa_cons (pv 7) pa_nil)))))
        (pss_one (ps_expr (pe_call (ok_write_part T) (hr.mono (by decide)) (by rfl) T.g_write_part T.F_write_part.kp T.b_write_part .nil pass0 (pa_cons (pv 0) (pa_cons (pv 7) (pa_cons (pv 8) pa_nil)))))))))))), ?_⟩
  refine q_asg3T (ev_var rfl) ht fun H1 e1 => ?_
  have hn16 : n < 2 ^ 4 := by omega
  have hm2 : m < 2 ^ 2 := by omega
  have nra := hW.neL hr0
  have h6 : (planB m n cds rs o wd 0).length = 6 := planB_len m n cds rs o wd 0
  obtain ⟨dx, ws, hd, nn, ha, _⟩ := (hW.ex e1).len
  have hmle : ms.length ≤ 240000 := by omega
  refine q_dropM (vs := [.int 2, .int (m : Int)]) (ev_var rfl) ha rfl (ea_cons ev_c (ea_cons (ev_var rfl) ea_nil)) fun H2 e2 => ⟨a, L, ms, 2, (m : Int), rfl, hW.ex (e1.trans e2), by omega, by omega, fun H3 hF3 hW3 => ?_⟩
  rw [self_mod hm2] at hW3
  obtain ⟨dx3, ws3, hd3, nn3, ha3, _⟩ := hW3.len
  refine q_dropM (vs := [.int 4, .int (n : Int)]) (ev_var rfl) ha3 rfl (ea_cons ev_c (ea_cons (ev_var rfl) ea_nil)) fun H4 e4 => ⟨a, L, _, 4, (n : Int), rfl, hW3.ex e4, by omega, by rw [List.length_append, bitsN_len]; omega, fun H5 hF5 hW5 => ?_⟩
  rw [self_mod hn16, List.append_assoc] at hW5
  have hF05 := ((Fr.ex (e1.trans e2)).trans hF3).trans ((Fr.ex e4).trans hF5)
  have hW0 := hW
  have hc5 := hc.fr hW hF05
  have hr5 := hF05 _ _ nra nrL hr0
  refine s_zipC (a := tc) (vs := [.ref r, .int (o : Int), .int (n : Int)]) (ev_var rfl) (ea_cons (ev_var rfl) (ea_cons (ev_var rfl) (ea_cons (ev_var rfl) ea_nil))) fun H6 e6 => ⟨r, rs, o, wd, n, rfl, e6 _ _ hr5, by omega, hl, how, by omega, fun pp ps H7 hpp e7 hpl hpn hP => ?_⟩
  have e67 := e6.trans e7
  have hW7 := hW5.ex e67
  have hc7 := hc5.ex e67
  have hnL : ∀ {q : Addr}, H6 q = none → q ≠ L := fun hq z => by
    obtain ⟨_, _, _, _, _, hL, _⟩ := hW5.ex e6
    rw [z] at hq
    rw [hL] at hq
    cases hq
  have npp := hnL hpp
  have hppa := hW7.neL hP.1
  refine s_forZM (st_of hc7.1) (sq_of hP.1) (n := cds.length) (by rw [List.length_map]; exact hc7.2.1) (by rw [List.length_map]; omega) (fun i σ' H' => ∃ z7 z8 : Option V, σ' = [some (.ref a), some (.ref t), some (.ref r), some (.int (o : Int)), some (.int (m : Int)), some (.int (n : Int)), some (.ref tc), z7, z8] ∧ Fr a L H7 H' ∧ WrAt T.C_BitWriter H' a L (ms ++ planB m n cds rs o wd i)) ⟨none, none, rfl, Fr.ex (Ex.refl _), hW7⟩ (fun i σ' H' _ h => by obtain ⟨_, _, _, hF, _⟩ := h; exact ⟨st_of (hW7.frT hF hc7.1), sq_of (hF _ _ hppa npp hP.1)⟩) ?_ ?_
  · rintro i σ' H8 x y hx hy ⟨z7, z8, rfl, hF8, hW8⟩ H9 e9
    rw [List.getElem?_map] at hx hy
    obtain ⟨qa, hqa, rfl⟩ := Option.map_eq_some_iff.mp hx
    obtain ⟨pa, hpa, rfl⟩ := Option.map_eq_some_iff.mp hy
    have hc72 := hc7.2.1
    have hi : i < cds.length := by have := (List.getElem?_eq_some_iff.mp hqa).1; omega
    have hci : cds[i]? = some cds[i] := List.getElem?_eq_getElem hi
    have hgd : cds.getD i ⟨false, 0⟩ = cds[i] := by rw [List.getD_eq_getElem?_getD, hci]; rfl
    have hck : cdOk m (cds.getD i ⟨false, 0⟩) := by rw [hgd]; exact hcd _ (List.getElem_mem hi)
    have hq7 : CdAt H7 qa (cds.getD i ⟨false, 0⟩) := hc7.2.2 i qa _ hqa (by rw [hci, hgd])
    have hvi := hval i (by omega)
    obtain ⟨rr, hrr⟩ := planB_pre m n cds rs o wd (2 ^ n) (i + 1) (by omega)
    have hbi := congrArg List.length hrr
    rw [List.length_append] at hbi
    have hpb : planB m n cds rs o wd (i + 1) = planB m n cds rs o wd i ++ (cdB m (cds.getD i ⟨false, 0⟩) ++ (partL rs o wd i).flatMap (valB (cds.getD i ⟨false, 0⟩))) := rfl
    rw [hpb, ← List.append_assoc, ← List.append_assoc]
    rw [hpb, List.length_append, List.length_append] at hbi
    have hpi := hP.2 i pa hpa
    have npa : pa ≠ L := hnL (hpn i pa hpa)
    have hpaa := hW7.neL hpi
    generalize cds.getD i ⟨false, 0⟩ = c at *
    generalize partL rs o wd i = part at *
    have hF79 : Fr a L H7 H9 := hF8.trans (Fr.ex e9)
    have hle1 : (ms ++ planB m n cds rs o wd i).length + (cdB m c).length + (part.flatMap (valB c)).length ≤ 240000 := by rw [List.length_append]; omega
    generalize ms ++ planB m n cds rs o wd i = pre at *
    refine q_dropC (vs := [.ref a, .int (m : Int), .ref qa]) (ea_cons (ev_var rfl) (ea_cons (ev_var rfl) (ea_cons (ev_var rfl) ea_nil))) fun H10 e10 => ⟨a, L, qa, pre, m, c, rfl, hW8.ex (e9.trans e10), hq7.fr hW7 (hF79.trans (Fr.ex e10)), hm, hck, by omega, fun H11 hF11 hW11 => ?_⟩
    have hF711 := (hF79.trans (Fr.ex e10)).trans hF11
    refine s_dropC (vs := [.ref a, .ref qa, .ref pa]) (ea_cons (ev_var rfl) (ea_cons (ev_var rfl) (ea_cons (ev_var rfl) ea_nil))) fun H12 e12 => ⟨a, L, qa, pa, _, c, part, rfl, hW11.ex e12, hq7.fr hW7 (hF711.trans (Fr.ex e12)), (hF711.trans (Fr.ex e12)) _ _ hpaa npa hpi, npa, hck.1, hvi, by rw [List.length_append]; omega, fun H13 hF13 hW13 => ⟨_, _, rfl, (hF711.trans (Fr.ex e12)).trans hF13, hW13⟩⟩
  · rintro σ' H8 ⟨z7, z8, rfl, hF8, hW8⟩
    rw [hcl] at hW8
    exact k H8 ((hF05.trans (Fr.ex e67)).trans hF8) hW8

/-! ### residuals read -/
def sp_rmeth (C : Addr) : Sp := fun vs H Q _ => ∃ (a d : Addr) (ds : List Nat) (pos m : Nat), vs = [.ref a] ∧ RdD C H a d ds pos ∧ m ≤ 1 ∧ Has (ds.flatMap bits8) pos (bitsN 2 m) ∧ ∀ H', FrA a H H' → RdAt C H' a d (pos + 2) → Q (.int (m : Int)) H'
theorem ok_read_method (T : TX K mg) : FnOk P w K mg base CX0 2 T.a_read_method T.d_read_method ["reader"] (sp_rmeth T.C_BitReader) := by
  refine T.F_read_method.ok sc_read_method (fun vs H Q E h => by obtain ⟨a, d, ds, pos, m, rfl, _⟩ := h; rfl) (fun cdv A outer s H vs Q E hr h => ?_)
  obtain ⟨a, d, ds, pos, m, rfl, hR, hm, hB, k⟩ := h
  refine ⟨_, (pss_cons (ps_set (i := 1) sc_read_method.nd rfl (Or.inl rfl) (pe_meth0 (pv 0) T.cl_BitReader T.me_BitReader_byte_place (ok_BitReader_byte_place T) (hr.mono (by decide)) T.b_BitReader_byte_place .nil pass0))
      (pss_cons (ps_set (i := 2) sc_read_method.nd rfl (Or.inl rfl) (pe_meth (pv 0) T.cl_BitReader T.me_BitReader_read (ok_BitReader_read T) (hr.mono (by decide)) T.b_BitReader_read .nil pass0 (pa_cons pe_int pa_nil)))
      (pss_cons (ps_if (pt_cmpR op_gt (pv 2) pe_int (nomark _)) (pss_one ps_never) pss_nil)
      (pss_one (ps_ret (pv 2)))))), ?_⟩
  refine q_asg (ev_place (ev_var rfl) hR.1 rfl) fun H1 e1 => ?_
  obtain ⟨dx, ha⟩ := (hR.ex e1).1
  have hlen := hB.len
  rw [bitsN_len, bits_flat_len] at hlen
  refine q_asgM (sp := sp_readN T.C_BitReader) (m := "read") (dvs := []) (vs := [.int 2]) (ev_var rfl) ha rfl (ea_cons ev_c ea_nil) fun H2 e2 => ⟨a, d, ds, pos, 2, rfl, (hR.ex (e1.trans e2)).1, (hR.ex (e1.trans e2)).2.1, hR.2.2.1, by omega, hR.2.2.2, hlen, fun H3 hF hR3 => ?_⟩
  rw [hB.val (show m < 2 ^ 2 by omega)]
  refine q_when (b := false) (et_is (et_test (ev_I0 (g := fun i j => .bl (decide (j < i))) (ev_var rfl) ev_c)) (decide_eq_false (by omega))) (fun hb => by cases hb) fun _ H4 e4 => ?_
  exact s_ret (ev_var rfl) fun H5 e5 => k H5 (((FrA.ex (e1.trans e2)).trans hF).trans (FrA.ex (e4.trans e5))) (hR3.ex (e4.trans e5))
def sp_rpord (C : Addr) : Sp := fun vs H Q _ => ∃ (a d : Addr) (ds : List Nat) (pos n S o : Nat), vs = [.ref a, .int (S : Int), .int (o : Int)] ∧ RdD C H a d ds pos ∧ n ≤ 15 ∧ Has (ds.flatMap bits8) pos (bitsN 4 n) ∧ S % 2 ^ n = 0 ∧ o < S / 2 ^ n ∧ ∀ H', FrA a H H' → RdAt C H' a d (pos + 4) → Q (.int (n : Int)) H'
theorem ok_read_partition_order (T : TX K mg) : FnOk P w K mg base CX0 2 T.a_read_partition_order T.d_read_partition_order ["reader", "size", "order"] (sp_rpord T.C_BitReader) := by
  refine T.F_read_partition_order.ok sc_read_partition_order (fun vs H Q E h => by obtain ⟨a, d, ds, pos, n, S, o, rfl, _⟩ := h; rfl) (fun cdv A outer s H vs Q E hr h => ?_)
  obtain ⟨a, d, ds, pos, n, S, o, rfl, hR, hn, hB, hS1, hS2, k⟩ := h
  refine ⟨_, (pss_cons (ps_set (i := 3) sc_read_partition_order.nd rfl (Or.inl rfl) (pe_meth0 (pv 0) T.cl_BitReader T.me_BitReader_byte_place (ok_BitReader_byte_place T) (hr.mono (by decide)) T.b_BitReader_byte_place .nil pass0))
      (pss_cons (ps_set (i := 4) sc_read_partition_order.nd rfl (Or.inl rfl) (pe_meth (pv 0) T.cl_BitReader T.me_BitReader_read (ok_BitReader_read T) (hr.mono (by decide)) T.b_BitReader_read .nil pass0 (pa_cons pe_int pa_nil)))
      (pss_cons (ps_if (pt_not (pt_val (pe_call (ok_legal_partition_order T) (hr.mono (by decide)) (by rfl) T.g_legal_partition_order T.F_legal_partition_order.kp T.b_legal_partition_order .nil pass0 (pa_cons (pv 1) (pa_cons (pv 2) (pa_cons (pv 4) pa_nil)))))) (pss_one ps_never) pss_nil)
      (pss_one (ps_ret (pv 4)))))), ?_⟩
  refine q_asg (ev_place (ev_var rfl) hR.1 rfl) fun H1 e1 => ?_
  obtain ⟨dx, ha⟩ := (hR.ex e1).1
  have hlen := hB.len
  rw [bitsN_len, bits_flat_len] at hlen
  refine q_asgM (sp := sp_readN T.C_BitReader) (m := "read") (dvs := []) (vs := [.int 4]) (ev_var rfl) ha rfl (ea_cons ev_c ea_nil) fun H2 e2 => ⟨a, d, ds, pos, 4, rfl, (hR.ex (e1.trans e2)).1, (hR.ex (e1.trans e2)).2.1, hR.2.2.1, by omega, hR.2.2.2, hlen, fun H3 hF hR3 => ?_⟩
  rw [hB.val (show n < 2 ^ 4 by omega)]
  have hp := Nat.two_pow_pos n
  refine q_when (b := false) (et_is (et_not (et_B (ev_legal (s := (S : Int)) (o := (o : Int)) (m := n) (ev_var rfl) (ev_var rfl) (ev_var rfl) (by omega)))) ?_) (fun hb => by cases hb) fun _ H4 e4 => ?_
  · rw [pow_cast, decide_eq_true (by omega), decide_eq_true (by omega)]
    rfl
  exact s_ret (ev_var rfl) fun H5 e5 => k H5 (((FrA.ex (e1.trans e2)).trans hF).trans (FrA.ex (e4.trans e5))) (hR3.ex (e4.trans e5))
def sp_rcod (C : Addr) : Sp := fun vs H Q _ => ∃ (a d : Addr) (ds : List Nat) (pos m : Nat) (c : Cd), vs = [.ref a, .int (m : Int)] ∧ RdD C H a d ds pos ∧ m ≤ 1 ∧ cdOk m c ∧ Has (ds.flatMap bits8) pos (cdB m c) ∧ ∀ q H', H q = none → FrA a H H' → CdAt H' q c → RdAt C H' a d (pos + (cdB m c).length) → Q (.ref q) H'
theorem FrA.back {a : Addr} {H H1 : Hp} (hF : FrA a H H1) {q : Addr} (hq : H1 q = none) (ha : ∃ o, H1 a = some o) : H q = none := by
  cases h : H q with
  | none => rfl
  | some o =>
    obtain ⟨oa, ha⟩ := ha
    by_cases e : q = a
    · rw [e, ha] at hq; cases hq
    · rw [hF q o e h] at hq; cases hq
theorem ok_read_coding (T : TX K mg) : FnOk P w K mg base CX0 3 T.a_read_coding T.d_read_coding ["reader", "method"] (sp_rcod T.C_BitReader) := by
  refine T.F_read_coding.ok sc_read_coding (fun vs H Q E h => by obtain ⟨a, d, ds, pos, m, c, rfl, _⟩ := h; rfl) (fun cdv A outer s H vs Q E hr h => ?_)
  obtain ⟨a, d, ds, pos, m, ⟨raw, num⟩, rfl, hR, hm, hc, hB, k⟩ := h
  have h31 : num ≤ 31 := hc.1
  refine ⟨_, (pss_cons (ps_set (i := 2) sc_read_coding.nd rfl (Or.inl rfl) (pe_meth (pv 0) T.cl_BitReader T.me_BitReader_read (ok_BitReader_read T) (hr.mono (by decide)) T.b_BitReader_read .nil pass0 (pa_cons (pe_call (ok_coding_width T) (hr.mono (by decide)) (by rfl) T.g_coding_width T.F_coding_width.kp T.b_coding_width .nil pass0 (pa_cons (pv 1) pa_nil)) pa_nil)))
      (pss_cons (ps_if (pt_cmpR op_eq (pv 2) (pe_call (ok_raw_mark T) (hr.mono (by decide)) (by rfl) T.g_raw_mark T.F_raw_mark.kp T.b_raw_mark .nil pass0 (pa_cons (pv 1) pa_nil)) (nomark _)) (pss_one (ps_ret (pe_tup (pa_cons pe_str (pa_cons (pe_meth (pv 0) T.cl_BitReader T.me_BitReader_read (ok_BitReader_read T) (hr.mono (by decide)) T.b_BitReader_read .nil pass0 (pa_cons pe_int pa_nil)) pa_nil))))) pss_nil)
      (pss_one (ps_ret (pe_tup (pa_cons pe_str (pa_cons (pv 2) pa_nil))))))), ?_⟩
  obtain ⟨dx, ha⟩ := id hR.1
  have hp := Nat.two_pow_pos (4 + m)
  have h5 : 15 + 16 * m = 2 ^ (4 + m) - 1 := by
    rcases (show m = 0 ∨ m = 1 by omega) with rfl | rfl <;> decide
  obtain ⟨nb, hnb⟩ : ∃ nb, (if raw then 2 ^ (4 + m) - 1 else num) = nb := ⟨_, rfl⟩
  have hnlt : nb < 2 ^ (4 + m) := by
    rw [← hnb]
    split
    · omega
    · rename_i h
      have : num < 15 + 16 * m := hc.2 ((Bool.not_eq_true _).mp h)
      omega
  have hB1 : Has (ds.flatMap bits8) pos (bitsN (4 + m) nb) := by
    cases raw with
    | true => rw [← hnb, if_pos rfl, bitsN_ones]; exact (hB : Has _ _ (List.replicate (4 + m) true ++ bitsN 5 num)).l
    | false => rw [← hnb, if_neg (by decide)]; exact hB
  have hlen := hB1.len
  rw [bitsN_len, bits_flat_len] at hlen
  refine q_asgM (sp := sp_readN T.C_BitReader) (m := "read") (dvs := []) (vs := [.int ((4 + m : Nat) : Int)]) (ev_var rfl) ha rfl (ea_cons (ev_cw (ev_var rfl)) ea_nil) fun H2 e2 => ⟨a, d, ds, pos, 4 + m, rfl, (hR.ex e2).1, (hR.ex e2).2.1, hR.2.2.1, by omega, hR.2.2.2, hlen, fun H3 hF hR3 => ?_⟩
  rw [hB1.val hnlt]
  have hF03 := (FrA.ex e2).trans hF
  have hR3' := hR.to hF03 hR3
  refine q_when (b := raw) (et_is (et_test (ev_eq (ev_var rfl) (ev_rm (ev_var rfl) hm) rfl)) ?_) (fun hb H4 e4 => ?_) (fun hb H4 e4 => ?_)
  · cases raw with
    | true => rw [if_pos rfl] at hnb; rw [hnb]; exact decide_eq_true rfl
    | false =>
      rw [if_neg (by decide)] at hnb
      have : num < 15 + 16 * m := hc.2 rfl
      exact decide_eq_false fun z => by have := V.int.inj z; omega
  · subst hb
    have hB2 : Has (ds.flatMap bits8) (pos + (4 + m)) (bitsN 5 num) := by
      have := (hB : Has _ _ (List.replicate (4 + m) true ++ bitsN 5 num)).r
      rwa [List.length_replicate] at this
    have hlen2 := hB2.len
    rw [bitsN_len, bits_flat_len] at hlen2
    have hR4 := hR3'.ex e4
    obtain ⟨dx4, ha4⟩ := id hR4.1
    show tTup (tCons (tC (.str "raw")) (tCons _ tNil)) _ _ _
    refine mth (sp := sp_readN T.C_BitReader) (m := "read") (dvs := []) (vs := [.int 5]) (ev_var rfl) ha4 rfl (ea_cons ev_c ea_nil) fun H5 e5 => ⟨a, d, ds, pos + (4 + m), 5, rfl, (hR4.ex e5).1, (hR4.ex e5).2.1, hR.2.2.1, by omega, hR.2.2.2, hlen2, fun H6 hF6 hR6 => ?_⟩
    rw [hB2.val (show num < 2 ^ 5 by omega)]
    refine ⟨sz_of (show 2 ≤ 100000 by decide), fun q hq => ?_⟩
    have hF06 := (hF03.trans (FrA.ex (e4.trans e5))).trans hF6
    refine k q _ (hF06.back hq (by obtain ⟨dx6, ha6⟩ := hR6; exact ⟨_, ha6⟩)) (hF06.trans (FrA.ex (Ex.new hq))) upd_same ?_
    rw [cdB_len]
    have := hR6.ex (Ex.new (o := .tup [.str "raw", .int (num : Int)]) hq)
    rw [show pos + (4 + m) + 5 = pos + (4 + m + 5) by omega] at this
    exact this
  · subst hb
    rw [if_neg (by decide)] at hnb
    subst hnb
    refine s_retU (xs := [.str "rice", .int (num : Int)]) (eu_tup (ea_cons ev_c (ea_cons (ev_var rfl) ea_nil)) (Nat.le_of_ble_eq_true rfl)) fun q H5 hq e5 gq => ?_
    refine k q _ (hF03.back (fresh_back e4 hq) (by obtain ⟨dx3, ha3⟩ := hR3; exact ⟨_, ha3⟩)) (hF03.trans (FrA.ex (e4.trans e5))) gq ?_
    rw [cdB_len]
    exact hR3.ex (e4.trans e5)
theorem sg_fit {n : Nat} {v : Int} (hn : 0 < n) (h : fitR n v = true) : sgN n (v % 2 ^ n).toNat = v := by
  unfold fitR at h
  rw [if_neg (by omega), Bool.and_eq_true] at h
  have h1 := of_decide_eq_true h.1
  have h2 := of_decide_eq_true h.2
  have hpw : 2 ^ n = 2 * 2 ^ (n - 1) := by rw [show n = (n - 1) + 1 by omega, Nat.pow_succ, Nat.mul_comm, Nat.add_sub_cancel]
  have hp := Nat.two_pow_pos (n - 1)
  unfold sgN
  rw [pow_cast]
  generalize 2 ^ (n - 1) = q at *
  rw [hpw]
  have h3 := Int.emod_nonneg v (show ((2 * q : Nat) : Int) ≠ 0 by omega)
  have h4 := Int.emod_lt_of_pos v (show (0 : Int) < ((2 * q : Nat) : Int) by omega)
  by_cases hv : 0 ≤ v
  · have : v % ((2 * q : Nat) : Int) = v := Int.emod_eq_of_lt hv (by omega)
    rw [this]
    rw [if_pos (by omega)]
    omega
  · have : v % ((2 * q : Nat) : Int) = v + ((2 * q : Nat) : Int) := by
      rw [← Int.add_emod_right]
      exact Int.emod_eq_of_lt (by omega) (by omega)
    rw [this]
    rw [if_neg (by omega)]
    omega
def sp_rres1 (C : Addr) : Sp := fun vs H Q _ => ∃ (a d : Addr) (ds : List Nat) (pos k : Nat) (v : Int), vs = [.ref a, .int (k : Int)] ∧ RdD C H a d ds pos ∧ k ≤ 31 ∧ foldI v ≤ 4294967294 ∧ Has (ds.flatMap bits8) pos (codeB k (foldI v).toNat) ∧ ∀ H', FrA a H H' → RdAt C H' a d (pos + (codeB k (foldI v).toNat).length) → Q (.int v) H'
theorem ok_read_residual (T : TX K mg) : FnOk P w K mg base CX0 5 T.a_read_residual T.d_read_residual ["reader", "k"] (sp_rres1 T.C_BitReader) := by
  refine T.F_read_residual.ok sc_read_residual (fun vs H Q E h => by obtain ⟨a, d, ds, pos, k, v, rfl, _⟩ := h; rfl) (fun cdv A outer s H vs Q E hr h => ?_)
  obtain ⟨a, d, ds, pos, kk, v, rfl, hR, hk, hv, hB, k⟩ := h
  refine ⟨_, (pss_cons (ps_set (i := 2) sc_read_residual.nd rfl (Or.inl rfl) (pe_meth0 (pv 0) T.cl_BitReader T.me_BitReader_byte_place (ok_BitReader_byte_place T) (hr.mono (by decide)) T.b_BitReader_byte_place .nil pass0))
      (pss_cons (ps_set (i := 3) sc_read_residual.nd rfl (Or.inl rfl) (pe_call (ok_read_code T) (hr.mono (by decide)) (by rfl) T.g_read_code T.F_read_code.kp T.b_read_code .nil pass0 (pa_cons (pv 0) (pa_cons (pv 1) pa_nil))))
      (pss_cons (ps_if (pt_chain op_lt op_lt (pe_un un_neg (pe_glob (by rfl) T.c_BOUND T.r_BOUND)) (pv 3) (pe_glob (by rfl) T.c_BOUND T.r_BOUND)) (pss_one (ps_ret (pv 3))) pss_nil)
      (pss_one ps_never)))), ?_⟩
  refine q_asg (ev_place (ev_var rfl) hR.1 rfl) fun H1 e1 => ?_
  obtain ⟨hz, hvl, hle⟩ := hB.code
  rw [bits_flat_len] at hle
  have hf0 := foldI_nn v
  refine q_asgC (vs := [.ref a, .int (kk : Int)]) (ea_cons (ev_var rfl) (ea_cons (ev_var rfl) ea_nil)) fun H2 e2 => ⟨a, d, ds, pos, kk, (foldI v).toNat / 2 ^ kk, rfl, (hR.ex (e1.trans e2)).1, (hR.ex (e1.trans e2)).2.1, hR.2.2.1, hR.2.2.2, by omega, hz, hle, fun H3 hF hR3 => ?_⟩
  rw [hvl, unf_code, Int.toNat_of_nonneg hf0, unfold_fold]
  have hb : -2147483648 < v ∧ v < 2147483648 := by unfold foldI at hv; split at hv <;> omega
  refine q_when (b := true) (et_is (et_test (ev_chain (ev_negI ev_c) (ev_var rfl) ev_c)) (by rw [decide_eq_true hb.1, decide_eq_true hb.2]; rfl)) (fun _ H4 e4 => ?_) (fun hb => by cases hb)
  refine s_ret (ev_var rfl) fun H5 e5 => k H5 (((FrA.ex (e1.trans e2)).trans hF).trans (FrA.ex (e4.trans e5))) ?_
  rw [codeB_len]
  have := hR3.ex (e4.trans e5)
  rw [show pos + (foldI v).toNat / 2 ^ kk + 1 + kk = pos + ((foldI v).toNat / 2 ^ kk + 1 + kk) by omega] at this
  exact this
def sp_rpart (C : Addr) : Sp := fun vs H Q _ => ∃ (a d q : Addr) (ds : List Nat) (pos : Nat) (c : Cd) (part : List Int), vs = [.ref a, .ref q, .int (part.length : Int)] ∧ RdD C H a d ds pos ∧ CdAt H q c ∧ c.num ≤ 31 ∧ (∀ v ∈ part, valW c v) ∧ part.length ≤ 40000 ∧ Has (ds.flatMap bits8) pos (part.flatMap (valB c)) ∧ ∀ p H', H p = none → FrA a H H' → H' p = some (.lst (part.map V.int)) → RdAt C H' a d (pos + (part.flatMap (valB c)).length) → Q (.ref p) H'
theorem flat_has {part : List Int} {c : Cd} {B : List Bool} {pos i : Nat} {v : Int} (h : Has B pos (part.flatMap (valB c))) (hi : part[i]? = some v) : Has B (pos + ((part.take i).flatMap (valB c)).length) (valB c v) := by
  have h1 := congrArg (List.flatMap (valB c)) (List.take_append_drop (i + 1) part)
  rw [List.flatMap_append, flat_snoc hi, List.append_assoc] at h1
  rw [← h1] at h
  exact h.r.l
/-- a comprehension that reads -/
theorem s_retRd {C a d : Addr} {H : Hp} {ds : List Nat} {pos : Nat} {c : Cd} {part : List Int} {te : TE} {ta : TA} {j : Nat} {vs : List Nat} {σ : L2.St} {D : Ends} (hR : RdD C H a d ds pos) (hl : part.length ≤ 40000) (hB : Has (ds.flatMap bits8) pos (part.flatMap (valB c))) (hn : EvA ta σ H [.int (part.length : Int)]) (hw : ∀ x, wipe ((wipe σ vs).set j (some x)) vs = wipe σ vs)
    (ht : ∀ (i : Nat) (v : Int) (H1 : Hp) (pos1 : Nat) (Q : VK), part[i]? = some v → RdD C H1 a d ds pos1 → Has (ds.flatMap bits8) pos1 (valB c v) → (∀ H2, FrA a H1 H2 → RdAt C H2 a d (pos1 + (valB c v).length) → Q (.int v) H2) → te ((wipe σ vs).set j (some (.int (i : Int)))) H1 Q)
    (k : ∀ p H', H p = none → FrA a H H' → H' p = some (.lst (part.map V.int)) → RdAt C H' a d (pos + (part.flatMap (valB c)).length) → D.rt (.ref p) H') : tRet (tLc (iRng1 ta) (gName j) tYes te vs) D σ H := by
  show tLc (iRng1 ta) (gName j) tYes te vs σ H D.rt
  refine tlc_rngM hn (by omega) fun H1 e1 Dl hD => ?_
  have nDa : Dl ≠ a := by
    obtain ⟨⟨dx, ha⟩, _⟩ := hR.ex e1
    rintro rfl
    rw [ha] at hD
    cases hD
  have nDd : Dl ≠ d := by
    have := (hR.ex e1).2.1
    rintro rfl
    rw [this] at hD
    cases hD
  refine ⟨fun i H' => FrA a H H' ∧ RdD C H' a d ds (pos + ((part.take i).flatMap (valB c)).length) ∧ H' Dl = some (.lst ((part.take i).map V.int)), ⟨FrA.ex (Ex.mut e1 (fresh_back e1 hD)), ?_, upd_same⟩, fun i H' hi hP => ⟨hw _, ?_⟩, fun H' hP => ?_⟩
  · rw [List.take_zero, List.flatMap_nil]
    exact (hR.ex e1).mut nDa nDd
  · obtain ⟨hF, hR', hg⟩ := hP
    have hi : i < part.length := by omega
    have hv : part[i]? = some part[i] := List.getElem?_eq_getElem hi
    refine ht i part[i] H' _ _ hv hR' (flat_has hB hv) fun H2 hF2 hR2 => ⟨(part.take i).map V.int, hF2 _ _ nDa hg, sz_lt (by rw [List.length_map, List.length_take]; omega), ?_, ?_, ?_⟩
    · intro b o hb hbo
      rw [upd_ne (by rintro rfl; rw [e1 _ _ hbo] at hD; cases hD)]
      exact hF2 _ _ hb (hF _ _ hb hbo)
    · rw [flat_snoc hv, List.length_append, ← Nat.add_assoc]
      exact (hR'.to hF2 hR2).mut nDa nDd
    · rw [upd_same, List.take_add_one, hv, List.map_append]
      rfl
  · rw [Int.toNat_natCast, List.take_length] at hP
    exact k Dl H' (fresh_back e1 hD) hP.1 hP.2.2 hP.2.1.1
theorem ok_read_part (T : TX K mg) : FnOk P w K mg base CX0 6 T.a_read_part T.d_read_part ["reader", "coding", "count"] (sp_rpart T.C_BitReader) := by
  refine T.F_read_part.ok sc_read_part (fun vs H Q E h => by obtain ⟨a, d, q, ds, pos, c, part, rfl, _⟩ := h; rfl) (fun cdv A outer s H vs Q E hr h => ?_)
  obtain ⟨a, d, q, ds, pos, c, part, rfl, hR, hq, hc, hv, hl, hB, k⟩ := h
  refine ⟨_, (pss_cons (ps_asg (pv 1) (pg_tup rfl (pgs_cons (pg_name (i := 3) sc_read_part.nd rfl (Or.inl rfl)) (pgs_cons (pg_name (i := 4) sc_read_part.nd rfl (Or.inr rfl)) pgs_nil))))
      (pss_cons (ps_if (pt_cmpR op_eq (pv 3) pe_str (nomark _)) (pss_one (ps_ret (pe_lc (own := [("_", 5)]) (g := gName 5) (tt := tYes) rfl sc_read_part.nd (pi_range1 (by rfl) T.m_range (pa_cons (pv 2) pa_nil)) (blkOk_by (N := ["reader", "coding", "count", "kind", "number", "_"]) (sc := defScope s_read_part) (by decide +kernel)) (fun _ _ _ _ _ => pg_name (i := 5) sc_read_part.nd rfl (Or.inl rfl)) (fun _ _ _ _ _ => pts_nil) (fun _ _ _ _ _ => (pe_call (ok_read_residual T) (hr.mono (by decide)) (by rfl) T.g_read_residual T.F_read_residual.kp T.b_read_residual .nil pass0 (pa_cons (pv 0) (pa_cons (pv 4) pa_nil))))))) pss_nil)
      (pss_cons (ps_if (pt_cmpR op_eq (pv 4) pe_int (nomark _)) (pss_one (ps_ret (pe_op op_rep (pe_lst (pa_cons pe_int pa_nil)) (pv 2)))) pss_nil)
      (pss_one (ps_ret (pe_lc (own := [("_", 5)]) (g := gName 5) (tt := tYes) rfl sc_read_part.nd (pi_range1 (by rfl) T.m_range (pa_cons (pv 2) pa_nil)) (blkOk_by (N := ["reader", "coding", "count", "kind", "number", "_"]) (sc := defScope s_read_part) (by decide +kernel)) (fun _ _ _ _ _ => pg_name (i := 5) sc_read_part.nd rfl (Or.inl rfl)) (fun _ _ _ _ _ => pts_nil) (fun _ _ _ _ _ => (pe_meth (pv 0) T.cl_BitReader T.me_BitReader_read_signed (ok_BitReader_read_signed T) (hr.mono (by decide)) T.b_BitReader_read_signed .nil pass0 (pa_cons (pv 4) pa_nil))))))))), ?_⟩
  refine q_asg2T (ev_var rfl) hq fun H1 e1 => ?_
  have hrice : decide (V.str (kstr c.raw) = V.str "rice") = !c.raw := by cases c.raw <;> decide
  refine q_when (b := !c.raw) (ev_strq "rice" (!c.raw) (ev_var rfl) hrice) (fun hb H2 e2 => ?_) (fun hb H2 e2 => ?_)
  · have hb : c.raw = false := (Bool.not_eq_true' _).mp hb
    have e12 := e1.trans e2
    refine s_retRd (c := c) (part := part) (hR.ex e12) hl hB (ea_cons (ev_var rfl) ea_nil) (fun _ => rfl) (fun i v H3 p1 Q3 hvi hR3 hB3 q3 => ?_) fun p H3 hp hF hg hR3 => k p H3 (fresh_back e12 hp) ((FrA.ex e12).trans hF) hg hR3
    have hvv := hv v (List.mem_of_getElem? hvi)
    unfold valW at hvv
    rw [if_neg (by rw [hb]; decide)] at hvv
    have hvb : valB c v = codeB c.num (foldI v).toNat := by unfold valB; rw [if_neg (by rw [hb]; decide)]
    rw [hvb] at hB3 q3
    exact (ea_cons (ev_var rfl) (ea_cons (ev_var rfl) ea_nil) : EvA _ _ _ [.ref a, .int (c.num : Int)]) H3 (Ex.refl _) _ fun H4 e4 => ⟨a, d, ds, p1, c.num, v, rfl, hR3.ex e4, hc, hvv.2, hB3, fun H5 hF5 hR5 => q3 H5 ((FrA.ex e4).trans hF5) hR5⟩
  have hb : c.raw = true := by cases h : c.raw with | true => rfl | false => rw [h] at hb; cases hb
  have e12 := e1.trans e2
  refine q_when (b := decide (c.num = 0)) (et_test (Ev.is (ev_eq (ev_var rfl) ev_c rfl) (congrArg V.bl (decide_eq_decide.mpr ⟨fun h => by have := V.int.inj h; omega, fun h => by rw [h]; rfl⟩)))) (fun h0 H3 e3 => ?_) (fun h0 H3 e3 => ?_)
  · have h0 := of_decide_eq_true h0
    have e13 := e12.trans e3
    have hz : part = List.replicate part.length 0 := List.eq_replicate_iff.mpr ⟨rfl, fun v hm => by
      have := hv v hm
      unfold valW at this
      rw [if_pos hb, h0] at this
      exact of_decide_eq_true this⟩
    have hfl : part.flatMap (valB c) = [] := by
      refine List.flatMap_eq_nil_iff.mpr fun v _ => List.eq_nil_of_length_eq_zero ?_
      rw [valB_len, if_pos hb, h0]
    refine s_retL (xs := part.map V.int) (EvL.is (el_rep (xs := [V.int 0]) (k := (part.length : Int)) (EvL.r (el_lst (ea_cons ev_c ea_nil) (by decide))) (ev_var rfl) (by omega) (by rw [Int.toNat_natCast]; show 1 * _ ≤ _; omega)) (by rw [Int.toNat_natCast, rep_one]; conv => rhs; rw [hz]; rw [List.map_replicate])) fun p H4 hp e4 g4 => k p H4 (fresh_back e13 hp) (FrA.ex (e13.trans e4)) g4 ?_
    rw [hfl]
    exact hR.1.ex (e13.trans e4)
  · have h0 := of_decide_eq_false h0
    have e13 := e12.trans e3
    refine s_retRd (c := c) (part := part) (hR.ex e13) hl hB (ea_cons (ev_var rfl) ea_nil) (fun _ => rfl) (fun i v H4 p1 Q4 hvi hR4 hB4 q4 => ?_) fun p H4 hp hF hg hR4 => k p H4 (fresh_back e13 hp) ((FrA.ex e13).trans hF) hg hR4
    have hvv := hv v (List.mem_of_getElem? hvi)
    unfold valW at hvv
    rw [if_pos hb] at hvv
    have hvb : valB c v = bitsN c.num (v % 2 ^ c.num).toNat := by unfold valB; rw [if_pos hb]
    rw [hvb, bitsN_len] at q4
    rw [hvb] at hB4
    have hlen := hB4.len
    rw [bitsN_len, bits_flat_len] at hlen
    obtain ⟨dx4, ha4⟩ := id hR4.1
    refine mth (sp := sp_readSN T.C_BitReader) (m := "read_signed") (dvs := []) (vs := [.int (c.num : Int)]) (ev_var rfl) ha4 rfl (ea_cons (ev_var rfl) ea_nil) fun H5 e5 => ⟨a, d, ds, p1, c.num, rfl, (hR4.ex e5).1, (hR4.ex e5).2.1, hR.2.2.1, by omega, hR.2.2.2, hlen, fun H6 hF6 hR6 => ?_⟩
    have hlt : (v % 2 ^ c.num).toNat < 2 ^ c.num := by
      have hp := Nat.two_pow_pos c.num
      have h1 := Int.emod_lt_of_pos v (show (0 : Int) < ((2 ^ c.num : Nat) : Int) by omega)
      rw [← pow_cast] at h1
      rw [pow_cast] at h1 ⊢
      omega
    rw [hB4.val hlt, sg_fit (by omega) hvv]
    exact q4 H6 ((FrA.ex e5).trans hF6) hR6
theorem s_extM {σ : L2.St} {H : Hp} {ta te : TE} {D : Ends} {l : Addr} {xs : List V} (hl : H l = some (.lst xs)) (ha : Ev ta σ H (.ref l)) (he : ∀ H1, Ex H H1 → te σ H1 (fun v H2 => ∃ l' b xs' zs, V.ref l = .ref l' ∧ [v] = [V.ref b] ∧ H2 l' = some (.lst xs') ∧ H2 b = some (.lst zs) ∧ xs'.length + zs.length ≤ sizeLine ∧ D.nx σ (upd H2 l' (.lst (xs' ++ zs))))) : tDrop (tBM K "list" rExtend ta (tCons te tNil)) D σ H :=
  ha H (Ex.refl H) _ fun H1 e1 => ⟨.inl ⟨rfl, _, sq_of (e1 _ _ hl)⟩, he H1 e1⟩
def sp_rres (C : Addr) : Sp := fun vs H Q _ => ∃ (a d : Addr) (ds : List Nat) (pos m n o wd : Nat) (cds : List Cd) (rs : List Int), vs = [.ref a, .int ((wd * 2 ^ n : Nat) : Int), .int (o : Int)] ∧ RdD C H a d ds pos ∧ n ≤ 15 ∧ m ≤ 1 ∧ cds.length = 2 ^ n ∧ rs.length + o = wd * 2 ^ n ∧ o < wd ∧ rs.length ≤ 40000 ∧ (∀ c ∈ cds, cdOk m c) ∧ (∀ i, i < 2 ^ n → ∀ v ∈ partL rs o wd i, valW (cds.getD i ⟨false, 0⟩) v) ∧ Has (ds.flatMap bits8) pos (planB m n cds rs o wd (2 ^ n)) ∧
  ∀ t tp tc pr qs H', H t = none → H pr = none → FrA a H H' → H' t = some (.tup [.ref tp, .ref pr]) → H' tp = some (.tup [.int (m : Int), .int (n : Int), .ref tc]) → CdsT H' tc qs cds → H' pr = some (.lst (rs.map V.int)) → RdAt C H' a d (pos + (planB m n cds rs o wd (2 ^ n)).length) → Q (.ref t) H'
theorem ok_read_residuals (T : TX K mg) : FnOk P w K mg base CX0 7 T.a_read_residuals T.d_read_residuals ["reader", "size", "order"] (sp_rres T.C_BitReader) := by
  refine T.F_read_residuals.ok sc_read_residuals (fun vs H Q E h => by obtain ⟨a, d, ds, pos, m, n, o, wd, cds, rs, rfl, _⟩ := h; rfl) (fun cdv A outer s H vs Q E hr h => ?_)
  obtain ⟨a, d, ds, pos, m, n, o, wd, cds, rs, rfl, hR, hn, hm, hcl, hl, how, hrl, hcd, hval, hB, k⟩ := h
  refine ⟨_, (pss_cons (ps_set (i := 3) sc_read_residuals.nd rfl (Or.inl rfl) (pe_call (ok_read_method T) (hr.mono (by decide)) (by rfl) T.g_read_method T.F_read_method.kp T.b_read_method .nil pass0 (pa_cons (pv 0) pa_nil)))
      (pss_cons (ps_set (i := 4) sc_read_residuals.nd rfl (Or.inl rfl) (pe_call (ok_read_partition_order T) (hr.mono (by decide)) (by rfl) T.g_read_partition_order T.F_read_partition_order.kp T.b_read_partition_order .nil pass0 (pa_cons (pv 0) (pa_cons (pv 1) (pa_cons (pv 2) pa_nil)))))
      (pss_cons (ps_set (i := 5) sc_read_residuals.nd rfl (Or.inl rfl) (pe_lst pa_nil))
      (pss_cons (ps_set (i := 6) sc_read_residuals.nd rfl (Or.inl rfl) (pe_lst pa_nil))
      (pss_cons (ps_for PassesOwn.never rfl (pi_list (pe_call (ok_partition_sizes T) (hr.mono (by decide)) (by rfl) T.g_partition_sizes T.F_partition_sizes.kp T.b_partition_sizes .nil pass0 (pa_cons (pv 1) (pa_cons (pv 2) (pa_cons (pv 4) pa_nil))))) (pg_name (i := 7) sc_read_residuals.nd rfl (Or.inl rfl)) (pss_cons (ps_set (i := 8) sc_read_residuals.nd rfl (Or.inl rfl) (pe_call (ok_read_coding T) (hr.mono (by decide)) (by rfl) T.g_read_coding T.F_read_coding.kp T.b_read_coding .nil pass0 (pa_cons (pv 0) (pa_cons (pv 3) pa_nil))))
        (pss_cons (ps_expr (pe_bm PySem.F.plainAttrs_list PySem.F.slot_list_append PySem.F.type_list_append mt_append (pv 5) (pa_cons (pv 8) pa_nil)))
        (pss_one (ps_expr (pe_bm PySem.F.plainAttrs_list PySem.F.slot_list_extend PySem.F.type_list_extend mt_extend (pv 6) (pa_cons (pe_call (ok_read_part T) (hr.mono (by decide)) (by rfl) T.g_read_part T.F_read_part.kp T.b_read_part .nil pass0 (pa_cons (pv 0) (pa_cons (pv 8) (pa_cons (pv 7) pa_nil)))) pa_nil)))))))
      (pss_one (ps_ret (pe_tup (pa_cons (pe_tup (pa_cons (pv 3) (pa_cons (pv 4) (pa_cons (pe_callTy call_tuple_of (by rfl) T.m_tuple PyProof.Rows.boot_tuple (pa_cons (pv 5) pa_nil)) pa_nil)))) (pa_cons (pv 6) pa_nil)))))))))), ?_⟩
  have hp2 := Nat.two_pow_pos n
  have hp15 : 2 ^ n ≤ 32768 := Nat.pow_le_pow_right (n := 2) (j := 15) (by decide) hn
  have hB0 : Has (ds.flatMap bits8) pos (bitsN 2 m ++ bitsN 4 n) := by
    obtain ⟨r, hr⟩ := planB_pre m n cds rs o wd (2 ^ n) 0 (by omega)
    rw [hr] at hB
    exact (hB : Has _ _ ((bitsN 2 m ++ bitsN 4 n) ++ _)).l
  have hB1 := hB0.r
  rw [bitsN_len] at hB1
  refine q_asgC (vs := [.ref a]) (ea_cons (ev_var rfl) ea_nil) fun H1 e1 => ⟨a, d, ds, pos, m, rfl, hR.ex e1, hm, hB0.l, fun H2 hF2 hR2 => ?_⟩
  have hF02 := (FrA.ex e1).trans hF2
  have hRD2 := hR.to hF02 hR2
  refine q_asgC (vs := [.ref a, .int ((wd * 2 ^ n : Nat) : Int), .int (o : Int)]) (ea_cons (ev_var rfl) (ea_cons (ev_var rfl) (ea_cons (ev_var rfl) ea_nil))) fun H3 e3 => ⟨a, d, ds, pos + 2, n, wd * 2 ^ n, o, rfl, hRD2.ex e3, hn, hB1, Nat.mul_mod_left _ _, by rw [Nat.mul_div_cancel _ hp2]; exact how, fun H4 hF4 hR4 => ?_⟩
  have hF04 := hF02.trans ((FrA.ex e3).trans hF4)
  have hRD4 := hR.to hF04 hR4
  have hback : ∀ {G : Hp} {q : Addr}, Ex H4 G → G q = none → H q = none := fun e hq => hF04.back (fresh_back e hq) (by obtain ⟨dx, ha⟩ := hR4; exact ⟨_, ha⟩)
  refine q_asgL (xs := []) (el_lst ea_nil (by decide)) fun pc H5 hpc e5 gc => ?_
  refine q_asgL (xs := []) (el_lst ea_nil (by decide)) fun pr H6 hpr e6 gr => ?_
  have e46 := e5.trans e6
  have npcr : pc ≠ pr := ne_of_none gc hpr
  have hpcH := hback (Ex.refl _) hpc
  have hprH := hback e5 hpr
  obtain ⟨dxa, hoa⟩ := id hR4
  have npca : pc ≠ a := by rintro rfl; rw [hoa] at hpc; cases hpc
  have npra : pr ≠ a := by rintro rfl; rw [e5 _ _ hoa] at hpr; cases hpr
  have npcd : pc ≠ d := by rintro rfl; rw [hRD4.2.1] at hpc; cases hpc
  have nprd : pr ≠ d := by rintro rfl; rw [e5 _ _ hRD4.2.1] at hpr; cases hpr
  show tSeq _ _ _ [some (.ref a), some (.int ((wd * 2 ^ n : Nat) : Int)), some (.int (o : Int)), some (.int (m : Int)), some (.int (n : Int)), some (.ref pc), some (.ref pr), none, none] _
  have hdiv : (((wd * 2 ^ n : Nat) : Int)) / 2 ^ n = (wd : Int) := by rw [pow_cast, ← Int.natCast_ediv, Nat.mul_div_cancel _ hp2]
  refine q_forL' (xs := ((((wd : Int) - (o : Int)) :: List.replicate (2 ^ n - 1) (wd : Int))).map V.int) (EvL.is (el_sizes (s := ((wd * 2 ^ n : Nat) : Int)) (ev_var rfl) (ev_var rfl) (ev_var rfl) (by omega)) (by rw [hdiv])) fun psz H7 hpsz e7 gsz => ?_
  have nszc : psz ≠ pc := by rintro rfl; rw [e6 _ _ gc] at hpsz; cases hpsz
  have nszr : psz ≠ pr := by rintro rfl; rw [gr] at hpsz; cases hpsz
  have e47 := e46.trans e7
  have nsza : psz ≠ a := by rintro rfl; rw [e46 _ _ hoa] at hpsz; cases hpsz
  refine q_forLn (K := K) (a := psz) ev_c (sq_of gsz) (fun i σ' H' => ∃ (qs : List Addr) (z7 z8 : Option V), σ' = [some (.ref a), some (.int ((wd * 2 ^ n : Nat) : Int)), some (.int (o : Int)), some (.int (m : Int)), some (.int (n : Int)), some (.ref pc), some (.ref pr), z7, z8] ∧ FrA a H H' ∧ RdD T.C_BitReader H' a d ds (pos + (planB m n cds rs o wd i).length) ∧ H' psz = some (.lst (((((wd : Int) - (o : Int)) :: List.replicate (2 ^ n - 1) (wd : Int))).map V.int)) ∧ H' pc = some (.lst (qs.map V.ref)) ∧ H' pr = some (.lst ((rs.take (startN o wd i)).map V.int)) ∧ qs.length = i ∧ ∀ (j : Nat) q c, qs[j]? = some q → cds[j]? = some c → CdAt H' q c) (fun H8 e8 => ⟨[], none, none, rfl, hF04.trans (FrA.ex (e47.trans e8)), ?_, e8 _ _ gsz, (e6.trans (e7.trans e8)) _ _ gc, ?_, rfl, fun j q c h => by simp at h⟩) (fun i σ' H' _ h => by obtain ⟨_, _, _, _, _, _, g, _⟩ := h; exact sq_of g) ?_ ?_
  · have : (planB m n cds rs o wd 0).length = 6 := planB_len m n cds rs o wd 0
    rw [this]
    exact hRD4.ex (e47.trans e8)
  · rw [show startN o wd 0 = 0 by unfold startN; rw [Nat.zero_mul, Nat.zero_sub]]
    exact (e7.trans e8) _ _ gr
  · rintro i x σ' H8 hx ⟨qs, z7, z8, rfl, hF8, hR8, gs8, gc8, gr8, hql, hcd8⟩
    obtain ⟨cnt, hcnt, hi, rfl⟩ := int_at hx
    rw [List.length_cons, List.length_replicate] at hi
    have hi2 : i < 2 ^ n := by omega
    rw [size_at hi2 (by omega)] at hcnt
    obtain rfl := Option.some.inj hcnt
    have hci : cds[i]? = some cds[i] := List.getElem?_eq_getElem (by omega)
    have hgd : cds.getD i ⟨false, 0⟩ = cds[i] := by rw [List.getD_eq_getElem?_getD, hci]; rfl
    have hck : cdOk m (cds.getD i ⟨false, 0⟩) := by rw [hgd]; exact hcd _ (List.getElem_mem (by omega))
    have hBi := planB_at hB hi2
    have hvi := hval i hi2
    have hpl := part_len hl (show o ≤ wd by omega) hi2
    have hst := start_next (o := o) (w := wd) (i := i) (by omega)
    have hpb : (planB m n cds rs o wd (i + 1)).length = (planB m n cds rs o wd i).length + ((cdB m (cds.getD i ⟨false, 0⟩)).length + ((partL rs o wd i).flatMap (valB (cds.getD i ⟨false, 0⟩))).length) := by rw [planB_succ, List.length_append, List.length_append]
    have htk : rs.take (startN o wd (i + 1)) = rs.take (startN o wd i) ++ partL rs o wd i := by
      rw [← hst]
      unfold partL
      rw [List.take_add]
    have hle : startN o wd (i + 1) ≤ rs.length := by
      unfold startN
      have : (i + 1) * wd ≤ 2 ^ n * wd := Nat.mul_le_mul_right _ hi2
      rw [Nat.mul_comm (2 ^ n)] at this
      omega
    have hgc : ∀ c, cds[i]? = some c → c = cds.getD i ⟨false, 0⟩ := fun c h => by rw [hgd]; rw [hci] at h; exact (Option.some.inj h).symm
    rw [hpb, htk]
    clear hpb htk hgd hci
    generalize cds.getD i ⟨false, 0⟩ = c at *
    generalize partL rs o wd i = part at *
    obtain ⟨pp, hpp⟩ : ∃ pp, pos + (planB m n cds rs o wd i).length = pp := ⟨_, rfl⟩
    rw [← Nat.add_assoc]
    rw [hpp] at hR8 hBi ⊢
    have hBp := hBi.r
    refine q_asgC (vs := [.ref a, .int (m : Int)]) (ea_cons (ev_var rfl) (ea_cons (ev_var rfl) ea_nil)) fun H9 e9 => ⟨a, d, ds, pp, m, c, rfl, hR8.ex e9, hm, hck, hBi.l, fun q H10 hq hF10 hq10 hR10 => ?_⟩
    have hF810 := (FrA.ex e9).trans hF10
    have hRD10 := hR8.to hF810 hR10
    have gc10 := hF810 _ _ npca gc8
    have gr10 := hF810 _ _ npra gr8
    have gs10 := hF810 _ _ nsza gs8
    refine q_app (v := .ref q) gc10 (ev_var rfl) (ev_var rfl) (by rw [List.length_map]; omega) fun H11 e11 => ?_
    have hRD11 := (hRD10.ex e11).mut (o := .lst (qs.map V.ref ++ [.ref q])) npca npcd
    have gc11 : (upd H11 pc (.lst (qs.map V.ref ++ [.ref q]))) pc = some (.lst ((qs ++ [q]).map V.ref)) := by rw [upd_same, List.map_append]; rfl
    have gr11 : (upd H11 pc (.lst (qs.map V.ref ++ [.ref q]))) pr = some (.lst ((rs.take (startN o wd i)).map V.int)) := by rw [upd_ne (Ne.symm npcr)]; exact e11 _ _ gr10
    have gs11 : (upd H11 pc (.lst (qs.map V.ref ++ [.ref q]))) psz = some (.lst (((((wd : Int) - (o : Int)) :: List.replicate (2 ^ n - 1) (wd : Int))).map V.int)) := by rw [upd_ne nszc]; exact e11 _ _ gs10
    have ntup : ∀ {G : Hp} {l : Addr} {ys : List V} {o' : HO} {t : Addr} {xs : List V}, G l = some (.lst ys) → G t = some (.tup xs) → (upd G l o') t = some (.tup xs) := fun hl ht => by rw [upd_ne (by rintro rfl; rw [hl] at ht; cases ht)]; exact ht
    have hcd11 : ∀ (j : Nat) q' c', (qs ++ [q])[j]? = some q' → cds[j]? = some c' → CdAt (upd H11 pc (.lst (qs.map V.ref ++ [.ref q]))) q' c' := fun j q' c' h1 h2 => by
      refine ntup (e11 _ _ gc10) (e11 _ _ ?_)
      by_cases hj : j < i
      · rw [List.getElem?_append_left (by omega)] at h1
        have := hcd8 j q' c' h1 h2
        exact hF810 _ _ (hR8.neT this) this
      · have hlt := (List.getElem?_eq_some_iff.mp h1).1
        rw [List.length_append] at hlt
        have hlt : j < qs.length + 1 := hlt
        obtain rfl : j = i := by omega
        rw [List.getElem?_append_right (by omega), hql, Nat.sub_self] at h1
        cases h1
        rw [hgc c' h2]
        exact hq10
    have hF11 : FrA a H (upd H11 pc (.lst (qs.map V.ref ++ [.ref q]))) := fun b o' nb hb => by
      rw [upd_ne (by rintro rfl; rw [hpcH] at hb; cases hb)]
      exact e11 _ _ (hF810 _ _ nb (hF8 _ _ nb hb))
    have hq11 : CdAt (upd H11 pc (.lst (qs.map V.ref ++ [.ref q]))) q c := ntup (e11 _ _ gc10) (e11 _ _ hq10)
    generalize upd H11 pc (.lst (qs.map V.ref ++ [.ref q])) = G at *
    refine s_extM gr11 (ev_var rfl) fun H12 e12 => ?_
    refine (ea_cons (ev_var rfl) (ea_cons (ev_var rfl) (ea_cons (ev_var rfl) ea_nil)) : EvA _ _ _ [.ref a, .ref q, .int ((sizeN o wd i : Nat) : Int)]) H12 (Ex.refl _) _ fun H13 e13 => ⟨a, d, q, ds, _, c, part, by rw [hpl]; rfl, hRD11.ex (e12.trans e13), (e12.trans e13) _ _ hq11, hck.1, hvi, by omega, hBp, fun pv H14 hpv hF14 gv hR14 => ?_⟩
    have hFG := (FrA.ex (e12.trans e13)).trans hF14
    refine ⟨pr, pv, _, _, rfl, rfl, hFG _ _ npra gr11, gv, sz_of (by rw [List.length_map, List.length_map, List.length_take]; omega), ?_⟩
    refine ⟨qs ++ [q], _, _, rfl, fun b o' nb hb => ?_, ?_, ?_, ?_, ?_, by rw [List.length_append, hql]; rfl, fun j q' c' h1 h2 => ?_⟩
    · rw [upd_ne (by rintro rfl; rw [hprH] at hb; cases hb)]
      exact hFG _ _ nb (hF11 _ _ nb hb)
    · rw [← Nat.add_assoc]
      exact (hRD11.to hFG hR14).mut npra nprd
    · rw [upd_ne nszr]
      exact hFG _ _ nsza gs11
    · rw [upd_ne npcr]
      exact hFG _ _ npca gc11
    · rw [upd_same, List.map_append]
    · have := hcd11 j q' c' h1 h2
      exact ntup (hFG _ _ npra gr11) (hFG _ _ (hRD11.neT this) this)
  · rintro σ' H8 ⟨qs, z7, z8, rfl, hF8, hR8, gs8, gc8, gr8, hql, hcd8⟩
    rw [List.length_map, List.length_cons, List.length_replicate, show 2 ^ n - 1 + 1 = 2 ^ n by omega] at hql hR8 gr8
    have htk : rs.take (startN o wd (2 ^ n)) = rs := List.take_of_length_le (by unfold startN; rw [Nat.mul_comm]; omega)
    rw [htk] at gr8
    refine ⟨.int (m : Int), rfl, .int (n : Int), rfl, .ref pc, rfl, pc, qs.map V.ref, rfl, .inl ⟨sq_of gc8, fun tc htc => ⟨sz_of (show 3 ≤ 100000 by decide), fun tp htp => ⟨.ref pr, rfl, sz_of (show 2 ≤ 100000 by decide), fun t ht => ?_⟩⟩⟩⟩
    have x1 := Ex.new (o := .tup (qs.map V.ref)) htc
    have x2 := Ex.new (o := .tup [.int (m : Int), .int (n : Int), .ref tc]) htp
    have x3 := Ex.new (o := .tup [.ref tp, .ref pr]) ht
    have x13 := x1.trans (x2.trans x3)
    have gtc := (x2.trans x3) _ _ (upd_same (H := H8) (a := tc) (o := .tup (qs.map V.ref)))
    have hoa8 : ∃ o, H8 a = some o := by obtain ⟨⟨dx, ha⟩, _⟩ := hR8; exact ⟨_, ha⟩
    exact k t tp tc pr qs _ (hF8.back (fresh_back (x1.trans x2) ht) hoa8) hprH (hF8.trans (FrA.ex x13)) upd_same (x3 _ _ upd_same) ⟨gtc, by omega, fun i q c h1 h2 => x13 _ _ (hcd8 i q c h1 h2)⟩ (x13 _ _ gr8) (hR8.1.ex x13)

/-! ### raw widths, rice bits -/
theorem p2c (j : Nat) : ((2 : Int) ^ j) = ((2 ^ j : Nat) : Int) := by rw [Int.natCast_pow]; rfl
theorem p2pos (j : Nat) : (0 : Int) < 2 ^ j := Int.pow_pos (by decide)
theorem foldI_nn2 (n : Int) : 0 ≤ foldI n := by unfold foldI; split <;> omega
theorem maxI_nn {us : List Int} (h : ∀ u ∈ us, 0 ≤ u) : 0 ≤ maxI 0 us ∧ (maxI 0 us = 0 ∨ maxI 0 us ∈ us) ∧ ∀ u ∈ us, u ≤ maxI 0 us := by
  cases us with
  | nil => exact ⟨Int.le_refl _, .inl rfl, fun u hu => by cases hu⟩
  | cons x r =>
    obtain ⟨h1, h2, h3⟩ := foldl_max r x
    have hx := h x (List.mem_cons_self ..)
    refine ⟨Int.le_trans hx h2, .inr ?_, fun u hu => ?_⟩
    · rcases h1 with e | e
      · show r.foldl max x ∈ x :: r
        rw [e]
        exact List.mem_cons_self ..
      · exact List.mem_cons_of_mem _ e
    · rcases List.mem_cons.mp hu with rfl | hu
      · exact h2
      · exact h3 u hu
theorem maxI_lt {us : List Int} {B : Int} (h : ∀ u ∈ us, 0 ≤ u) (hB : 0 < B) : maxI 0 us < B ↔ ∀ u ∈ us, u < B := by
  obtain ⟨h0, h1, h2⟩ := maxI_nn h
  refine ⟨fun hl u hu => Int.lt_of_le_of_lt (h2 u hu) hl, fun hl => ?_⟩
  rcases h1 with e | e
  · rw [e]
    exact hB
  · exact hl _ e
theorem bits_is {m : Int} {i : Nat} (h0 : 0 ≤ m) (h1 : m < 2 ^ i) (h2 : ∀ j, j < i → (2 : Int) ^ j ≤ m) : Builtin.Int.intBits m = i := by
  rw [p2c] at h1
  unfold Builtin.Int.intBits
  split
  · rename_i hz
    have hz : m = 0 := by simpa using hz
    cases i with
    | zero => rfl
    | succ i =>
      have := h2 0 (by omega)
      have e : (2 : Int) ^ 0 = 1 := rfl
      omega
  · rename_i hz
    have hz : m ≠ 0 := fun e => hz (by simp [e])
    cases i with
    | zero =>
      have e : ((2 ^ 0 : Nat) : Int) = 1 := rfl
      omega
    | succ i =>
      have a := h2 i (by omega)
      rw [p2c] at a
      have lo := (Nat.le_log2 (n := m.natAbs) (k := i) (by omega)).mpr (by omega)
      have hi := (Nat.log2_lt (n := m.natAbs) (k := i + 1) (by omega)).mpr (by omega)
      omega
theorem bits_lt {m : Int} (h0 : 0 ≤ m) (j : Nat) : m < 2 ^ j ↔ Builtin.Int.intBits m ≤ j := by
  rw [p2c]
  unfold Builtin.Int.intBits
  have hp := Nat.two_pow_pos j
  split
  · rename_i hz
    have hz : m = 0 := by simpa using hz
    omega
  · rename_i hz
    have hz : m ≠ 0 := fun e => hz (by simp [e])
    have hl := Nat.log2_lt (n := m.natAbs) (k := j) (by omega)
    omega
def widI (ns : List Int) : Nat := Builtin.Int.intBits (maxI 0 (ns.map foldI))
theorem folds_nn (ns : List Int) : ∀ u ∈ ns.map foldI, 0 ≤ u := fun u hu => by
  obtain ⟨n, _, rfl⟩ := List.mem_map.mp hu
  exact foldI_nn2 n
theorem widI_le {ns : List Int} {j : Nat} : widI ns ≤ j ↔ ∀ n ∈ ns, foldI n < 2 ^ j := by
  unfold widI
  rw [← bits_lt (maxI_nn (folds_nn ns)).1 j, maxI_lt (folds_nn ns) (p2pos j)]
  exact ⟨fun h n hn => h _ (List.mem_map_of_mem hn), fun h u hu => by obtain ⟨n, hn, rfl⟩ := List.mem_map.mp hu; exact h n hn⟩
def sp_width (K : PySem.W.Frag) : Sp := fun vs H Q _ => ∃ (a : Addr) (us : List Int), vs = [.ref a] ∧ SqL K H a (us.map V.int) ∧ RetV (.int ((Builtin.Int.intBits (maxI 0 us) : Nat) : Int)) H Q
theorem ok_width (T : TX K mg) : FnOk P w K mg base CX0 1 T.a_width T.d_width ["folded"] (sp_width K) := by
  refine T.F_width.ok sc_width (fun vs H Q E h => by obtain ⟨a, us, rfl, _⟩ := h; rfl) (fun cdv A outer s H vs Q E hr h => ?_)
  obtain ⟨a, us, rfl, hS, k⟩ := h
  refine ⟨_, (pss_one (ps_ret (pe_bits (pe_callBK (cr_maxDef (hu64 hr)) (by rfl) T.m_max PyProof.Rows.boot_max (pa_cons (pv 0) pa_nil) (pk_cons pe_int pk_nil))))), ?_⟩
  exact s_ret (ev_bits (ev_maxD (Ev.s (ev_var rfl) hS) ev_c)) fun H1 e1 => k H1 e1
theorem ev_width {σ : L2.St} {H : Hp} {te : TE} {E : XK} {us : List Int} (h : EvS K te σ H (us.map V.int)) : Ev (tCall (sp_width K) [] E (tCons te tNil)) σ H (.int ((Builtin.Int.intBits (maxI 0 us) : Nat) : Int)) := fun H1 e Q q =>
  h H1 e _ fun p H2 e2 hp => ⟨p, us, rfl, hp, fun H3 e3 => q H3 (e2.trans e3)⟩

def sp_isint : Sp := fun vs H Q _ => ∃ n : Int, vs = [.int n] ∧ RetV (.bl true) H Q
theorem ok_law_integer (T : TX K mg) : FnOk P w K mg base CX0 1 T.a_law_integer T.d_law_integer ["value"] sp_isint := by
  refine T.F_law_integer.ok sc_law_integer (fun vs H Q E h => by obtain ⟨n, rfl, _⟩ := h; rfl) (fun cdv A outer s H vs Q E hr h => ?_)
  obtain ⟨n, rfl, k⟩ := h
  refine ⟨_, (pss_one (ps_ret (pe_and (pe_callB (r := rIsi K) call_isi (by rfl) T.m_isinstance PyProof.Rows.boot_isinstance (pa_cons (pv 0) (pa_cons (pe_bltn (v := V.ty "int") (by rfl) T.m_int PyProof.Rows.boot_int rfl) pa_nil))) (pe_one (pe_not (pe_callB (r := rIsi K) call_isi (by rfl) T.m_isinstance PyProof.Rows.boot_isinstance (pa_cons (pv 0) (pa_cons (pe_bltn (v := V.ty "bool") (by rfl) T.m_bool PyProof.Rows.boot_bool rfl) pa_nil)))))))), ?_⟩
  walk_at "ret"
  intro H2 e2
  exact ret_eq k e2 rfl
theorem ev_isint {σ : L2.St} {H : Hp} {te : TE} {E : XK} {n : Int} (h : Ev te σ H (.int n)) : Ev (tCall sp_isint [] E (tCons te tNil)) σ H (.bl true) := ev_call (ea_cons h ea_nil) fun H1 _ Q q _ => ⟨n, rfl, q⟩

/-! ### abs, int of a bool, the law's rows -/
theorem ev_abs {σ : L2.St} {H : Hp} {te : TE} {i : Int} (h : Ev te σ H (.int i)) : Ev (tCB (fun xs H Q => ∃ i, xs = [V.int i] ∧ Q (V.int (if i < 0 then -i else i)) H) (tCons te tNil)) σ H (.int (if i < 0 then -i else i)) :=
  ev_cb (ea_cons h ea_nil) fun H1 _ Q q => ⟨i, rfl, q H1 (Ex.refl H1)⟩
theorem ev_intB {σ : L2.St} {H : Hp} {te : TE} {b : Bool} (h : Ev te σ H (.bl b)) : Ev (tCB (fun xs H Q => (∃ i, xs = [V.int i] ∧ Q (V.int i) H) ∨ ∃ k, xs = [V.bl k] ∧ Q (V.int (if k = true then 1 else 0)) H) (tCons te tNil)) σ H (.int (if b = true then 1 else 0)) :=
  ev_cb (ea_cons h ea_nil) fun H1 _ Q q => .inr ⟨b, rfl, q H1 (Ex.refl H1)⟩
def sp_lrow : Sp := fun vs H Q _ => ∃ (c : Int) (n : Nat) (b : Int), vs = [.int c, .int (n : Int), .int b] ∧ n ≤ 1000 ∧ 0 < b ∧ b ≤ 2 ^ 50 ∧ ∀ p (ns : List Int) H', H p = none → Ex H H' → H' p = some (.lst (ns.map V.int)) → ns.length = n → (∀ x ∈ ns, 0 ≤ x ∧ x < b) → Q (.ref p) H'
theorem ok_law_row (T : TX K mg) : FnOk P w K mg base CX0 1 T.a_law_row T.d_law_row ["cell", "count", "bound"] sp_lrow := by
  refine T.F_law_row.ok sc_law_row (fun vs H Q E h => by obtain ⟨c, n, b, rfl, _⟩ := h; rfl) (fun cdv A outer s0 H vs Q E hr h => ?_)
  obtain ⟨c, n, b, rfl, hn, hb0, hb1, k⟩ := h
  refine ⟨_, (pss_cons (ps_set (i := 3) sc_law_row.nd rfl (Or.inl rfl) (pe_callB call_abs (by rfl) T.m_abs PyProof.Rows.boot_abs (pa_cons (pe_callTy call_int1 (by rfl) T.m_int PyProof.Rows.boot_int (pa_cons (pv 0) pa_nil)) pa_nil)))
      (pss_cons (ps_set (i := 4) sc_law_row.nd rfl (Or.inl rfl) (pe_op op_add (pe_op op_mod (pe_callTy call_int1 (by rfl) T.m_int PyProof.Rows.boot_int (pa_cons (pv 0) pa_nil)) pe_int) pe_int))
      (pss_cons (ps_set (i := 5) sc_law_row.nd rfl (Or.inl rfl) (pe_lst pa_nil))
      (pss_cons (ps_for PassesOwn.never rfl (pi_range1 (by rfl) T.m_range (pa_cons (pv 1) pa_nil)) (pg_name (i := 6) sc_law_row.nd rfl (Or.inl rfl)) (pss_one (ps_if (pt_cmpR op_ge (pv 3) (pv 2) (nomark _)) (pss_cons (ps_expr (pe_bm PySem.F.plainAttrs_list PySem.F.slot_list_append PySem.F.type_list_append mt_append (pv 5) (pa_cons (pe_op op_mod (pe_callTy call_int1 (by rfl) T.m_int PyProof.Rows.boot_int (pa_cons (pv 3) pa_nil)) (pv 2)) pa_nil)))
          (pss_one (ps_set (i := 3) sc_law_row.nd rfl (Or.inl rfl) (pe_op op_fdivW (pv 3) (pv 2))))) (pss_cons (ps_set (i := 4) sc_law_row.nd rfl (Or.inl rfl) (pe_op op_mod (pe_callTy call_int1 (by rfl) T.m_int PyProof.Rows.boot_int (pa_cons (pe_op op_add (pe_op op_add (pe_op op_mul (pv 4) pe_int) (pe_op op_mul pe_int (pv 6))) pe_int) pa_nil)) pe_int))
          (pss_one (ps_expr (pe_bm PySem.F.plainAttrs_list PySem.F.slot_list_append PySem.F.type_list_append mt_append (pv 5) (pa_cons (pe_op op_mod (pe_callTy call_int1 (by rfl) T.m_int PyProof.Rows.boot_int (pa_cons (pe_op op_fdivW (pe_op op_mul (pv 4) pe_int) pe_int) pa_nil)) (pv 2)) pa_nil))))))))
      (pss_one (ps_ret (pv 5))))))), ?_⟩
  have hlog : b.natAbs.log2 < 9000 := by
    have : b.natAbs < 2 ^ 51 := by omega
    have := (Nat.log2_lt (n := b.natAbs) (k := 51) (by omega)).mpr this
    omega
  refine q_asg (ev_abs (ev_int1 (ev_var rfl))) fun H1 e1 => ?_
  refine q_asg (ev_I0 (ev_I (ev_int1 (ev_var rfl)) ev_c (by decide)) ev_c) fun H2 e2 => ?_
  refine q_asgL (xs := []) (el_lst ea_nil (by decide)) fun p H3 hp3 e3 g3 => ?_
  have hp := fresh_back (e1.trans e2) hp3
  have e13 := (e1.trans e2).trans e3
  generalize (if c < 0 then -c else c) = re0
  generalize c % 1000003 + 1 = mx0
  refine q_forR1 (n := (n : Int)) (ea_cons (ev_var rfl) ea_nil) (by omega) (fun i σ' H' => ∃ (re mx : Int) (ns : List Int) (z6 : Option V), σ' = [some (.int c), some (.int (n : Int)), some (.int b), some (.int re), some (.int mx), some (.ref p), z6] ∧ Ex H H' ∧ H' p = some (.lst (ns.map V.int)) ∧ ns.length = i ∧ (∀ x ∈ ns, 0 ≤ x ∧ x < b)) (fun H4 e4 => ⟨re0, mx0, [], none, rfl, e13.trans e4, e4 _ _ g3, rfl, fun x hx => by cases hx⟩) ?_ ?_
  · rintro i σ' H4 hi ⟨re, mx, ns, z6, rfl, ex, gp, hnl, hns⟩
    have snoc : ∀ x : Int, 0 ≤ x → x < b → ∀ y ∈ ns ++ [x], 0 ≤ y ∧ y < b := fun x h0 h1 y hy => by
      rcases List.mem_append.mp hy with h | h
      · exact hns y h
      · rw [List.mem_singleton.mp h]
        exact ⟨h0, h1⟩
    have big : ns.length < 100000 := by omega
    refine s_if (et_test (ev_I0 (ev_var rfl) (ev_var rfl))) (fun _ H5 e5 => ?_) (fun _ H5 e5 => ?_)
    · refine q_app (v := .int (re % b)) (e5 _ _ gp) (ev_var rfl) (ev_I (ev_int1 (ev_var rfl)) (ev_var rfl) hb0) (by rw [List.length_map]; exact big) fun H6 e6 => ?_
      refine s_asg (v := .int (re / b)) (ev_I (ev_var rfl) (ev_var rfl) ⟨hb0, hlog⟩) fun H7 e7 => ⟨re / b, mx, ns ++ [re % b], _, rfl, (Ex.mut (ex.trans (e5.trans e6)) hp).trans e7, e7 _ _ (by rw [upd_same, List.map_append]; rfl), by rw [List.length_append, hnl]; rfl, snoc _ (Int.emod_nonneg _ (by omega)) (Int.emod_lt_of_pos _ hb0)⟩
    · obtain ⟨mx1, hmx⟩ : ∃ mx1, (mx * 48271 + 11 * (i : Int) + 7) % 2147483647 = mx1 := ⟨_, rfl⟩
      refine q_asg (v := .int mx1) (Ev.is (ev_I (ev_int1 (ev_I0 (ev_I0 (ev_I (ev_var rfl) ev_c (.inr (by decide))) (ev_I ev_c (ev_var rfl) (.inl (by decide)))) ev_c)) ev_c (by decide)) (congrArg V.int hmx)) fun H6 e6 => ?_
      refine s_app (v := .int ((mx1 * 2862933555777941757 / 1024) % b)) ((e5.trans e6) _ _ gp) (ev_var rfl) (ev_I (ev_int1 (ev_I (ev_I (ev_var rfl) ev_c (.inr (by decide))) ev_c ⟨by decide, by decide⟩)) (ev_var rfl) hb0) (by rw [List.length_map]; exact big) fun H7 e7 => ⟨re, mx1, ns ++ [(mx1 * 2862933555777941757 / 1024) % b], _, rfl, Ex.mut (ex.trans ((e5.trans e6).trans e7)) hp, by rw [upd_same, List.map_append]; rfl, by rw [List.length_append, hnl]; rfl, snoc _ (Int.emod_nonneg _ (by omega)) (Int.emod_lt_of_pos _ hb0)⟩
  · rintro σ' H4 ⟨re, mx, ns, z6, rfl, ex, gp, hnl, hns⟩
    rw [Int.toNat_natCast] at hnl
    exact s_ret (v := .ref p) (ev_var rfl) fun H5 e5 => k p ns H5 hp (ex.trans e5) (e5 _ _ gp) hnl hns

theorem ev_go {te : TE} {σ : L2.St} {H : Hp} {v : V} {Q : VK} (h : Ev te σ H v) (k : ∀ H2, Ex H H2 → Q v H2) : te σ H Q := h H (Ex.refl H) Q k
theorem et_go {t : TT} {σ : L2.St} {H : Hp} {b : Bool} {Q : Bool → Hp → Prop} (h : EvT t σ H b) (k : ∀ H2, Ex H H2 → Q b H2) : t σ H Q := h H (Ex.refl H) Q k
theorem el_go {te : TE} {σ : L2.St} {H : Hp} {xs : List V} {Q : VK} (h : EvL te σ H xs) (k : ∀ p H2, H p = none → Ex H H2 → H2 p = some (.lst xs) → Q (.ref p) H2) : te σ H Q := h H (Ex.refl H) Q k
theorem eu_go {te : TE} {σ : L2.St} {H : Hp} {xs : List V} {Q : VK} (h : EvU te σ H xs) (k : ∀ p H2, H p = none → Ex H H2 → H2 p = some (.tup xs) → Q (.ref p) H2) : te σ H Q := h H (Ex.refl H) Q k
theorem ea_go {t : TA} {σ : L2.St} {H : Hp} {vs : List V} {Q : List V → Hp → Prop} (h : EvA t σ H vs) (k : ∀ H2, Ex H H2 → Q vs H2) : t σ H Q := h H (Ex.refl H) Q k

/-! ### the law's residuals -/
def sp_lres : Sp := fun vs H Q _ => ∃ (c sh : Int) (n : Nat), vs = [.int c, .int (n : Int), .int sh] ∧ n ≤ 1000 ∧ 0 ≤ sh ∧ ∀ p (ms : List Int) H', H p = none → Ex H H' → H' p = some (.lst (ms.map V.int)) → ms.length = n → (∀ v ∈ ms, -1073741824 < v ∧ v < 1073741824) → Q (.ref p) H'
theorem ok_law_residuals (T : TX K mg) : FnOk P w K mg base CX0 2 T.a_law_residuals T.d_law_residuals ["cell", "count", "shape"] sp_lres := by
  refine T.F_law_residuals.ok sc_law_residuals (fun vs H Q E h => by obtain ⟨c, sh, n, rfl, _⟩ := h; rfl) (fun cdv A outer s H vs Q E hr h => ?_)
  obtain ⟨c, sh, n, rfl, hn, hsh, k⟩ := h
  refine ⟨_, (pss_cons (ps_if (pt_cmpR op_eq (pv 2) pe_int (nomark _)) (pss_one (ps_ret (pe_op op_rep (pe_lst (pa_cons pe_int pa_nil)) (pv 1)))) pss_nil)
      (pss_cons (ps_set (i := 3) sc_law_residuals.nd rfl (Or.inr rfl) (pe_ix (r := rIxL K) ix_list (pe_lst (pa_cons pe_int (pa_cons pe_int (pa_cons pe_int pa_nil)))) (pe_op op_mod (pv 2) pe_int) (fun _ _ => rfl)))
      (pss_cons (ps_setLc (i := 4) (own := [("x", 6)]) (g := gName 6) (tt := tYes) rfl sc_law_residuals.nd rfl rfl (sw_true rfl rfl rfl (by decide +kernel)) (pi_list (pe_call (ok_law_row T) (hr.mono (by decide)) (by rfl) T.g_law_row T.F_law_row.kp T.b_law_row .nil pass0 (pa_cons (pv 0) (pa_cons (pv 1) (pa_cons (pv 3) pa_nil))))) (blkOk_by (N := ["cell", "count", "shape", "bound", "row", "k", "x"]) (sc := defScope s_law_residuals) (by decide +kernel)) (fun _ _ _ _ _ => pg_name (i := 6) sc_law_residuals.nd rfl (Or.inl rfl)) (fun _ _ _ _ _ => pts_nil) (fun _ _ _ _ _ => (pe_op op_sub (pv 6) (pe_op op_fdiv (pv 3) pe_int))))
      (pss_cons (ps_if (pt_cmpR op_eq (pv 2) pe_int (nomark _)) (pss_one (ps_for PassesOwn.never rfl (pi_range1 (by rfl) T.m_range (pa_cons (pe_op op_fdiv (pv 1) pe_int) pa_nil)) (pg_name (i := 5) sc_law_residuals.nd rfl (Or.inl rfl)) (pss_one (ps_asg pe_int (pg_sub (pv 4) (pv 5) set_list))))) pss_nil)
      (pss_one (ps_ret (pv 4))))))), ?_⟩
  refine q_when (et_test (ev_eq (ev_var rfl) ev_c rfl)) (fun hb H1 e1 => ?_) (fun hb H1 e1 => ?_)
  · refine s_retL (xs := (List.replicate n (0 : Int)).map V.int) (EvL.is (el_rep (xs := [V.int 0]) (k := (n : Int)) (EvL.r (el_lst (ea_cons ev_c ea_nil) (by decide))) (ev_var rfl) (by omega) (by rw [Int.toNat_natCast]; show 1 * n ≤ _; omega)) (by rw [Int.toNat_natCast, rep_one, List.map_replicate])) fun p H2 hp e2 g2 => ?_
    refine k p _ H2 (fresh_back e1 hp) (e1.trans e2) g2 List.length_replicate fun v hv => ?_
    have := (List.mem_replicate.mp hv).2
    omega
  obtain ⟨b, hb9, hb1⟩ : ∃ b : Int, atI [V.int 9, V.int 201, V.int 2147483647] (sh % 3) = some (V.int b) ∧ 1 ≤ b ∧ b ≤ 2147483647 := by
    have h3 : sh % 3 = 0 ∨ sh % 3 = 1 ∨ sh % 3 = 2 := by omega
    rcases h3 with e | e | e <;> rw [e]
    · exact ⟨9, rfl, by decide⟩
    · exact ⟨201, rfl, by decide⟩
    · exact ⟨2147483647, rfl, by decide⟩
  refine q_asg (ev_ixS (i := 0) (n := sh % 3) (EvR.s (EvL.r (el_lst (ea_cons ev_c (ea_cons ev_c (ea_cons ev_c ea_nil))) (by decide)))) (ev_I (ev_var rfl) ev_c (by decide)) hb9) fun H2 e2 => ?_
  refine q_asgLC (args := [.int c, .int (n : Int), .int b]) (ea_cons (ev_var rfl) (ea_cons (ev_var rfl) (ea_cons (ev_var rfl) ea_nil))) fun H3 e3 => ⟨c, n, b, rfl, hn, by omega, by omega, fun pr ds H4 hpr e4 g4 hdl hdb => ?_⟩
  have e14 := (e1.trans e2).trans (e3.trans e4)
  have hml : (ds.map fun x => x - b / 2).length = n := by rw [List.length_map, hdl]
  have hmb : ∀ v ∈ ds.map (fun x => x - b / 2), -1073741824 < v ∧ v < 1073741824 := fun v hv => by
    obtain ⟨x, hx, rfl⟩ := List.mem_map.mp hv
    have := hdb x hx
    omega
  refine q_asgL (xs := (ds.map fun x => x - b / 2).map V.int) (el_lcS _ (Ev.s ev_c (sq_of g4)) (by rw [List.length_map, List.length_map, List.length_map]) (by rw [List.length_map, List.length_map]; omega) (fun _ => rfl) fun i x H7 e7 hx => ?_) fun ps H5 hps e5 g5 => ?_
  · obtain ⟨n, hn, hi, rfl⟩ := int_at hx
    exact ⟨_, at_int (n := n - b / 2) (by rw [List.getElem?_map, hn]; rfl), ev_I0 (ev_var rfl) (ev_I (ev_var rfl) ev_c ⟨by decide, by decide⟩)⟩
  have e15 := e14.trans e5
  have hpH := fresh_back e14 hps
  generalize (ds.map fun x => x - b / 2) = ms at *
  refine q_when (b := decide (sh = 4)) (et_is (et_test (ev_eq (ev_var rfl) ev_c rfl)) (by simp)) (fun hb4 H6 e6 => ?_) (fun hb4 H6 e6 => ?_)
  · refine s_forR1 (n := (n : Int) / 2) (ea_cons (ev_I (ev_var rfl) ev_c ⟨by decide, by decide⟩) ea_nil) (by omega) (fun i σ' H' => ∃ (z5 : Option V) (ms : List Int), σ' = [some (.int c), some (.int (n : Int)), some (.int sh), some (.int b), some (.ref ps), z5, none] ∧ Ex H H' ∧ H' ps = some (.lst (ms.map V.int)) ∧ ms.length = n ∧ ∀ v ∈ ms, -1073741824 < v ∧ v < 1073741824) (fun H7 e7 => ⟨none, ms, rfl, e15.trans (e6.trans e7), (e6.trans e7) _ _ g5, hml, hmb⟩) ?_ ?_
    · rintro i σ' H' hi ⟨z5, xs, rfl, ex, gp, hl, hx⟩
      refine s_setL (j := i) (v := .int 0) gp ev_c (ev_var rfl) (ev_var rfl) (by rw [List.length_map]; omega) fun H7 e7 => ⟨_, xs.set i 0, rfl, Ex.mut (ex.trans e7) hpH, by rw [upd_same, List.map_set], by rw [List.length_set]; exact hl, fun v hv => ?_⟩
      rcases List.mem_or_eq_of_mem_set hv with h | h
      · exact hx v h
      · rw [h]
        decide
    · rintro σ' H' ⟨z5, xs, rfl, ex, gp, hl, hx⟩
      exact s_ret (v := .ref ps) (ev_var rfl) fun H7 e7 => k ps xs H7 hpH (ex.trans e7) (e7 _ _ gp) hl hx
  · exact s_ret (v := .ref ps) (ev_var rfl) fun H7 e7 => k ps ms H7 hpH (e15.trans (e6.trans e7)) ((e6.trans e7) _ _ g5) hml hmb

/-- a number of the module -/
theorem ev_relC {σ : L2.St} {H : Hp} {i : Int} {u : Value} (_ : RelV (.int i) u) : Ev (tC (.int i)) σ H (.int i) := ev_c

def FrO (a : Addr) (H H' : Hp) : Prop := ∀ b o, b ≠ a → H b = some o → H' b = some o
theorem FrO.ex {a : Addr} {H H' : Hp} (e : Ex H H') : FrO a H H' := fun b o _ h => e b o h
theorem FrO.trans {a : Addr} {H H1 H2 : Hp} (x : FrO a H H1) (y : FrO a H1 H2) : FrO a H H2 := fun b o hb h => y b o hb (x b o hb h)
theorem FrO.upd {a : Addr} {H H' : Hp} {o : HO} (f : FrO a H H') : FrO a H (upd H' a o) := fun b u hb h => by rw [upd_ne hb]; exact f b u hb h
theorem FrO.after {a : Addr} {H0 G H' : Hp} (f : FrO a G H') (e : Ex H0 G) (hn : H0 a = none) : Ex H0 H' := fun b o hb => f b o (by rintro rfl; rw [hn] at hb; cases hb) (e b o hb)
theorem sq_keep {K : PySem.W.Frag} {H B H' : Hp} {p a : Addr} {xs : List V} {e1 : Ex H B} {hp : H p = none} (f : FrO p B H') (h : SqL K H a xs) : SqL K H' a xs := ex_l (FrO.after f e1 hp) h

/-! ### the best entry -/
def sumI (ns : List Int) (k : Nat) : Int := (ns.map fun n => foldI n / 2 ^ k).sum
theorem sum_zero : ∀ {ns : List Int}, (∀ x ∈ ns, x = 0) → ns.sum = 0
  | [], _ => rfl
  | x :: r, h => by
    rw [List.sum_cons, h x (List.mem_cons_self ..), sum_zero fun y hy => h y (List.mem_cons_of_mem _ hy)]
    rfl
theorem sumI_zero {ns : List Int} {k : Nat} (h : widI ns ≤ k) : sumI ns k = 0 := by
  unfold sumI
  refine sum_zero fun x hx => ?_
  obtain ⟨n, hn, rfl⟩ := List.mem_map.mp hx
  have := widI_le.mp h n hn
  exact Int.ediv_eq_zero_of_lt (foldI_nn n) this
def sumsT (ns : List Int) (i : Nat) : List Int := (List.range 31).map fun k => if k < i then sumI ns k else 0
theorem sumsT_len (ns : List Int) (i : Nat) : (sumsT ns i).length = 31 := by unfold sumsT; rw [List.length_map, List.length_range]
theorem sumsT_set (ns : List Int) (i : Nat) : (sumsT ns i).set i (sumI ns i) = sumsT ns (i + 1) := by
  refine List.ext_getElem? fun j => ?_
  unfold sumsT
  rw [List.getElem?_set, List.length_map, List.length_range]
  by_cases hj : j < 31
  · rw [List.getElem?_map, List.getElem?_map, List.getElem?_range hj]
    by_cases h : i = j
    · subst h
      rw [if_pos rfl, if_pos hj]
      show some (sumI ns i) = some (if i < i + 1 then sumI ns i else 0)
      rw [if_pos (by omega)]
    · rw [if_neg h]
      show some (if j < i then sumI ns j else 0) = some (if j < i + 1 then sumI ns j else 0)
      by_cases h2 : j < i
      · rw [if_pos h2, if_pos (by omega)]
      · rw [if_neg h2, if_neg (by omega)]
  · rw [List.getElem?_eq_none (l := List.map _ _) (by rw [List.length_map, List.length_range]; omega)]
    rw [List.getElem?_eq_none (by rw [List.length_map, List.length_range]; omega)]
    by_cases h : i = j
    · rw [if_pos h, if_neg (by omega)]
    · rw [if_neg h]
theorem sumsT_at (ns : List Int) {i k : Nat} (hk : k < 31) (h : k < i ∨ widI ns ≤ k) : (sumsT ns i)[k]? = some (sumI ns k) := by
  unfold sumsT
  rw [List.getElem?_map, List.getElem?_range hk]
  show some (if k < i then sumI ns k else 0) = _
  by_cases h1 : k < i
  · rw [if_pos h1]
  · rw [if_neg h1, sumI_zero (h.resolve_left h1)]
def sumL (ns : List Int) : List Int := (List.range 31).map (sumI ns)
theorem sumL_len (ns : List Int) : (sumL ns).length = 31 := by unfold sumL; rw [List.length_map, List.length_range]
theorem sumL_at (ns : List Int) {k : Nat} (h : k < 31) : (sumL ns)[k]? = some (sumI ns k) := by unfold sumL; rw [List.getElem?_map, List.getElem?_range h]; rfl
theorem sumsT_all {ns : List Int} {i : Nat} (h : i = widI ns ∨ (i = 31 ∧ 31 ≤ widI ns)) : sumsT ns i = sumL ns := by
  refine List.ext_getElem? fun k => ?_
  by_cases hk : k < 31
  · rw [sumL_at ns hk, sumsT_at ns hk (by omega)]
  · rw [List.getElem?_eq_none (by rw [sumsT_len]; omega), List.getElem?_eq_none (by rw [sumL_len]; omega)]
/-- a measured part whose objects are new since B -/
def MsN (B H : Hp) (v : V) (ns : List Int) : Prop := ∃ t s : Addr, v = .ref t ∧ B t = none ∧ B s = none ∧ H t = some (.tup [.int (ns.length : Int), .ref s, .int (widI ns : Int)]) ∧ H s = some (.lst ((sumL ns).map V.int))
theorem MsN.ex {B H H' : Hp} {v : V} {ns : List Int} (h : MsN B H v ns) (e : Ex H H') : MsN B H' v ns := by obtain ⟨t, s, h0, h1, h2, h3, h4⟩ := h; exact ⟨t, s, h0, h1, h2, e _ _ h3, e _ _ h4⟩
theorem MsN.fro {B H H' : Hp} {v : V} {ns : List Int} {c : Addr} {o : HO} (h : MsN B H v ns) (hc : B c = some o) (f : FrO c H H') : MsN B H' v ns := by
  obtain ⟨t, s, h0, h1, h2, h3, h4⟩ := h
  exact ⟨t, s, h0, h1, h2, f _ _ (by rintro rfl; rw [hc] at h1; cases h1) h3, f _ _ (by rintro rfl; rw [hc] at h2; cases h2) h4⟩
theorem none_back {B G : Hp} {c t : Addr} {o : HO} (f : FrO c B G) (hc : G c = some o) (h : G t = none) : B t = none := by
  cases hb : B t with
  | none => rfl
  | some u =>
    by_cases ht : t = c
    · rw [ht, hc] at h
      cases h
    · rw [f t u ht hb] at h
      cases h
theorem MsN.back {B G H : Hp} {v : V} {ns : List Int} {c : Addr} {o : HO} (h : MsN G H v ns) (f : FrO c B G) (hc : G c = some o) : MsN B H v ns := by
  obtain ⟨t, s, h0, h1, h2, h3, h4⟩ := h
  exact ⟨t, s, h0, none_back f hc h1, none_back f hc h2, h3, h4⟩
theorem MsN.low {B G H : Hp} {v : V} {ns : List Int} (h : MsN G H v ns) (e : Ex B G) : MsN B H v ns := by
  obtain ⟨t, s, h0, h1, h2, h3, h4⟩ := h
  exact ⟨t, s, h0, fresh_back e h1, fresh_back e h2, h3, h4⟩
def PtAt (B H : Hp) (a : Addr) (n : Nat) (f : Nat → List Int) : Prop := ∃ vs : List V, H a = some (.lst vs) ∧ B a = none ∧ vs.length = n ∧ ∀ i, i < n → ∃ v, vs[i]? = some v ∧ MsN B H v (f i)
theorem PtAt.ex {B H H' : Hp} {a : Addr} {n : Nat} {f : Nat → List Int} (h : PtAt B H a n f) (e : Ex H H') : PtAt B H' a n f := by
  obtain ⟨vs, h1, h2, h3, h4⟩ := h
  exact ⟨vs, e _ _ h1, h2, h3, fun i hi => by obtain ⟨v, g1, g2⟩ := h4 i hi; exact ⟨v, g1, g2.ex e⟩⟩
theorem PtAt.fro {B H H' : Hp} {a c : Addr} {n : Nat} {f : Nat → List Int} {o : HO} (h : PtAt B H a n f) (hc : B c = some o) (x : FrO c H H') : PtAt B H' a n f := by
  obtain ⟨vs, h1, h2, h3, h4⟩ := h
  exact ⟨vs, x _ _ (by rintro rfl; rw [hc] at h2; cases h2) h1, h2, h3, fun i hi => by obtain ⟨v, g1, g2⟩ := h4 i hi; exact ⟨v, g1, g2.fro hc x⟩⟩
theorem PtAt.back {B G H : Hp} {a c : Addr} {n : Nat} {g : Nat → List Int} {o : HO} (h : PtAt G H a n g) (f : FrO c B G) (hc : G c = some o) : PtAt B H a n g := by
  obtain ⟨vs, h1, h2, h3, h4⟩ := h
  exact ⟨vs, h1, none_back f hc h2, h3, fun i hi => by obtain ⟨v, g1, g2⟩ := h4 i hi; exact ⟨v, g1, g2.back f hc⟩⟩
def sp_meas (K : PySem.W.Frag) : Sp := fun vs H Q _ => ∃ (a : Addr) (ns : List Int), vs = [.ref a] ∧ SqL K H a (ns.map V.int) ∧ ns.length ≤ 40000 ∧ ∀ v H', Ex H H' → MsN H H' v ns → Q v H'
theorem ok_measured (T : TX K mg) : FnOk P w K mg base CX0 2 T.a_measured T.d_measured ["residuals"] (sp_meas K) := by
  refine T.F_measured.ok sc_measured (fun vs H Q E h => by obtain ⟨a, ns, rfl, _⟩ := h; rfl) (fun cdv A outer s0 H vs Q E hr h => ?_)
  obtain ⟨a, ns, rfl, hS, hl, q⟩ := h
  refine ⟨_, (pss_cons (ps_setLc (i := 1) (own := [("residual", 5)]) (g := gName 5) (tt := tYes) rfl sc_measured.nd rfl rfl (sw_true rfl rfl rfl (by decide +kernel)) (pi_list (pv 0)) (blkOk_by (N := ["residuals", "folded", "width", "sums", "k", "residual", "value"]) (sc := defScope s_measured) (by decide +kernel)) (fun _ _ _ _ _ => pg_name (i := 5) sc_measured.nd rfl (Or.inl rfl)) (fun _ _ _ _ _ => pts_nil) (fun _ _ _ _ _ => (pe_call (ok_fold T) (hr.mono (by decide)) (by rfl) T.g_fold T.F_fold.kp T.b_fold .nil pass0 (pa_cons (pv 5) pa_nil))))
      (pss_cons (ps_set (i := 2) sc_measured.nd rfl (Or.inl rfl) (pe_call (ok_width T) (hr.mono (by decide)) (by rfl) T.g_width T.F_width.kp T.b_width .nil pass0 (pa_cons (pv 1) pa_nil)))
      (pss_cons (ps_set (i := 3) sc_measured.nd rfl (Or.inl rfl) (pe_op op_rep (pe_lst (pa_cons pe_int pa_nil)) (pe_ix (r := rIxT K) ix_tup (pe_glob (v := V.ref T.A_PARAMETERS) (by rfl) T.c_PARAMETERS rfl) pe_int (fun _ _ => rfl))))
      (pss_cons (ps_for PassesOwn.never rfl (pi_range1 (by rfl) T.m_range (pa_cons (pe_callB (call_min2 rfl) (by rfl) T.m_min PyProof.Rows.boot_min (pa_cons (pv 2) (pa_cons (pe_ix (r := rIxT K) ix_tup (pe_glob (v := V.ref T.A_PARAMETERS) (by rfl) T.c_PARAMETERS rfl) pe_int (fun _ _ => rfl)) pa_nil))) pa_nil)) (pg_name (i := 4) sc_measured.nd rfl (Or.inr rfl)) (pss_one (ps_asg (pe_callB (r := rSum K) (cr_sum rfl) (by rfl) T.m_sum PyProof.Rows.boot_sum (pa_cons (pe_lc (own := [("value", 6)]) (g := gName 6) (tt := tYes) rfl sc_measured.nd (pi_list (pv 1)) (blkOk_by (N := ["residuals", "folded", "width", "sums", "k", "residual", "value"]) (sc := defScope s_measured) (by decide +kernel)) (fun _ _ _ _ _ => pg_name (i := 6) sc_measured.nd rfl (Or.inl rfl)) (fun _ _ _ _ _ => pts_nil) (fun _ _ _ _ _ => (pe_op op_shr (pv 6) (pv 4)))) pa_nil)) (pg_sub (pv 3) (pv 4) set_list))))
      (pss_one (ps_ret (pe_tup (pa_cons (pe_callB (r := rLenS K) call_len_seq (by rfl) T.m_len PySem.boot_len (pa_cons (pv 0) pa_nil)) (pa_cons (pv 3) (pa_cons (pv 2) pa_nil)))))))))), ?_⟩
  refine q_asgL (xs := (ns.map foldI).map V.int) (EvL.is (xs := ns.map fun n => V.int (foldI n)) (el_lcS _ (Ev.s (ev_var rfl) hS) (by rw [List.length_map, List.length_map]) (by rw [List.length_map]; omega) (fun _ => rfl) fun i x H2 e2 hx => ?_) (by rw [List.map_map]; rfl)) fun pf H1 hpf e1 g1 => ?_
  · obtain ⟨n, hn, hi, rfl⟩ := int_at hx
    exact ⟨.int (foldI n), by rw [List.getElem?_map, hn]; rfl, ev_fold (ev_var rfl)⟩
  refine q_asg (v := .int (widI ns : Int)) (ev_width (us := ns.map foldI) (Ev.s (ev_var rfl) (sq_of g1))) fun H2 e2 => ?_
  have P31 : ∀ {σ : L2.St} {H' : Hp}, Ev (tOp (rIxT K) (tC (.ref T.A_PARAMETERS)) (tC (.int 1))) σ H' (.int 31) := ev_atT (n := 1) ev_c (T.s_PARAMETERS _) ev_c (at_of (j := 1) rfl rfl)
  refine q_asgL (xs := (List.replicate 31 (0 : Int)).map V.int) (EvL.is (el_rep (xs := [V.int 0]) (k := 31) (EvL.r (el_lst (ea_cons ev_c ea_nil) (by decide))) P31 (by decide) (by decide)) (by rw [rep_one, List.map_replicate]; rfl)) fun ps H3 hps e3 g3 => ?_
  have hpsB := fresh_back (e1.trans e2) hps
  have hpfs : pf ≠ ps := ne_of_none (e2 _ _ g1) hps
  obtain ⟨mw, hmw⟩ : ∃ mw : Nat, (if (31 : Int) < (widI ns : Int) then (31 : Int) else (widI ns : Int)) = (mw : Int) ∧ mw ≤ 31 ∧ (mw = widI ns ∨ (mw = 31 ∧ 31 ≤ widI ns)) := by
    by_cases h : (31 : Int) < (widI ns : Int)
    · exact ⟨31, by rw [if_pos h]; rfl, by omega, .inr ⟨rfl, by omega⟩⟩
    · exact ⟨widI ns, by rw [if_neg h], by omega, .inl rfl⟩
  obtain ⟨hmw, hmw31, hmwc⟩ := hmw
  refine q_forR1 (n := (mw : Int)) (ea_cons (Ev.is (ev_min2 (ev_var rfl) P31) (congrArg V.int hmw)) ea_nil) (by omega) (fun i σ' H' => ∃ z4, σ' = [some (.ref a), some (.ref pf), some (.int (widI ns : Int)), some (.ref ps), z4, none, none] ∧ Ex H H' ∧ H' pf = some (.lst ((ns.map foldI).map V.int)) ∧ H' ps = some (.lst ((sumsT ns i).map V.int))) (fun H4 e4 => ⟨none, rfl, (e1.trans e2).trans (e3.trans e4), (e2.trans (e3.trans e4)) _ _ g1, ?_⟩) ?_ ?_
  · have h0 : sumsT ns 0 = List.replicate 31 (0 : Int) := rfl
    rw [h0]
    exact e4 _ _ g3
  · rintro i σ' H4 hi ⟨z4, rfl, ex, gf, gs⟩
    refine s_setL (j := i) (v := .int (sumI ns i)) gs (ev_sum (EvR.s (EvL.r (EvL.is (xs := (ns.map foldI).map fun u => V.int (u / 2 ^ i)) (el_lcS _ (Ev.s (ev_var rfl) (sq_of gf)) (by simp only [List.length_map]) (by rw [List.length_map, List.length_map]; omega) (fun _ => rfl) fun j x H5 e5 hx => ?_) (by rw [List.map_map, List.map_map]; rfl))))) (ev_var rfl) (ev_var rfl) (by rw [List.length_map, sumsT_len]; omega) fun H5 e5 => ⟨_, rfl, Ex.mut (ex.trans e5) hpsB, by rw [upd_ne hpfs]; exact e5 _ _ gf, by rw [upd_same, ← sumsT_set, List.map_set]⟩
    obtain ⟨u, hu, hj, rfl⟩ := int_at hx
    exact ⟨.int (u / 2 ^ i), by rw [List.getElem?_map, hu]; rfl, Ev.is (ev_I (ev_var rfl) (ev_var rfl) (show (0 : Int) ≤ (i : Int) by omega)) (congrArg V.int (by rw [Int.toNat_natCast]))⟩
  · rintro σ' H4 ⟨z4, rfl, ex, gf, gs⟩
    rw [Int.toNat_natCast] at gs
    refine s_retU (xs := [.int (ns.length : Int), .ref ps, .int (widI ns : Int)]) (eu_tup (ea_cons (Ev.is (ev_lenS (Ev.s (ev_var rfl) (ex_l ex hS))) (by rw [List.length_map])) (ea_cons (ev_var rfl) (ea_cons (ev_var rfl) ea_nil))) (Nat.le_of_ble_eq_true rfl)) fun t H5 ht e5 g5 => q (.ref t) H5 (ex.trans e5) ⟨t, ps, rfl, fresh_back ex ht, hpsB, g5, by rw [← sumsT_all hmwc]; exact e5 _ _ gs⟩
def bestN (f : Nat → Int) : Nat → Int × Nat
  | 0 => (f 0, 0)
  | i + 1 => if f (i + 1) < (bestN f i).1 then (f (i + 1), i + 1) else bestN f i
theorem bestN_le (f : Nat → Int) : ∀ i, (bestN f i).2 ≤ i
  | 0 => Nat.le_refl _
  | i + 1 => by
    have := bestN_le f i
    unfold bestN
    split
    · exact Nat.le_refl _
    · omega
theorem minP_best (f : Nat → Int) : ∀ i, minP (f 0, 0) ((List.range i).map fun k => (f (k + 1), ((k + 1 : Nat) : Int))) = ((bestN f i).1, ((bestN f i).2 : Int))
  | 0 => rfl
  | i + 1 => by
    have ih := minP_best f i
    have hb := bestN_le f i
    unfold minP at ih ⊢
    rw [List.range_succ, List.map_append, List.foldl_append, ih]
    have hst : bestN f (i + 1) = if f (i + 1) < (bestN f i).1 then (f (i + 1), i + 1) else bestN f i := rfl
    rw [hst]
    show (if f (i + 1) < (bestN f i).1 ∨ (f (i + 1) = (bestN f i).1 ∧ ((i + 1 : Nat) : Int) < ((bestN f i).2 : Int)) then (f (i + 1), ((i + 1 : Nat) : Int)) else ((bestN f i).1, ((bestN f i).2 : Int))) = _
    by_cases h : f (i + 1) < (bestN f i).1
    · rw [if_pos (.inl h), if_pos h]
    · rw [if_neg (fun z => z.elim h fun z => by omega), if_neg h]
def costI (ns : List Int) (m k : Nat) : Int := 4 + (m : Int) + ((ns.length : Int) * (1 + (k : Int)) + sumI ns k)
def rawI (ns : List Int) (m : Nat) : Int := 4 + (m : Int) + 5 + (ns.length : Int) * (widI ns : Int)
def entF (ns : List Int) (m : Nat) : (Str × Int) × Int :=
  if widI ns ≤ 31 ∧ rawI ns m < (bestN (costI ns m) (14 + 16 * m)).1 then (("raw", (widI ns : Int)), rawI ns m) else (("rice", ((bestN (costI ns m) (14 + 16 * m)).2 : Int)), (bestN (costI ns m) (14 + 16 * m)).1)
def EntV (H : Hp) (v : V) (e : (Str × Int) × Int) : Prop := ∃ t t2, v = .ref t ∧ H t = some (.tup [.ref t2, .int e.2]) ∧ H t2 = some (.tup [.str e.1.1, .int e.1.2])
theorem EntV.ex {H H' : Hp} {v : V} {e : (Str × Int) × Int} (h : EntV H v e) (x : Ex H H') : EntV H' v e := by obtain ⟨t, t2, h1, h2, h3⟩ := h; exact ⟨t, t2, h1, x _ _ h2, x _ _ h3⟩
theorem ent_mk {H5 : Hp} {t2 t1 : Addr} {k : Str} {x b : Int} (h1 : (upd H5 t2 (.tup [.str k, .int x])) t1 = none) : EntV (upd (upd H5 t2 (.tup [.str k, .int x])) t1 (.tup [.ref t2, .int b])) (.ref t1) ((k, x), b) := ⟨t1, t2, rfl, upd_same, by rw [upd_ne (fun z => by rw [← z, upd_same] at h1; cases h1)]; exact upd_same⟩
def PrsAt (H : Hp) (L : List (Addr × (Int × Int))) : Prop := ∀ x ∈ L, H x.1 = some (.tup [.int x.2.1, .int x.2.2])
theorem PrsAt.d {H : Hp} : ∀ {L : List (Addr × (Int × Int))}, PrsAt H L → DpAll K H (L.map fun x => V.ref x.1) (L.map fun x => pairD x.2)
  | [], _ => .nil
  | x :: L, h => .cons (.tup (st_of (h x (List.mem_cons_self ..))) (.cons (.int _) (.cons (.int _) .nil))) (PrsAt.d fun y hy => h y (List.mem_cons_of_mem _ hy))
/-- [e for j in range(n)], e a new tuple or so -/
theorem tlc_rngE {ta : TA} {te : TE} {vs : List Nat} {n : Int} {j : Nat} {σ : L2.St} {H : Hp} {Q : VK} (h : EvA ta σ H [.int n]) (hn : -100000 ≤ n ∧ n ≤ 100000)
    (k : ∀ H1, Ex H H1 → ∀ Dl, H1 Dl = none → ∃ Pv : Nat → Hp → Prop, Pv 0 (upd H1 Dl (.lst [])) ∧ (∀ (i : Nat) H', i < n.toNat → Pv i H' → wipe ((wipe σ vs).set j (some (.int (i : Int)))) vs = wipe σ vs ∧ te ((wipe σ vs).set j (some (.int (i : Int)))) H' fun y H4 => ∃ acc, H4 Dl = some (.lst acc) ∧ acc.length < sizeLine ∧ Pv (i + 1) (upd H4 Dl (.lst (acc ++ [y])))) ∧ (∀ H', Pv n.toNat H' → Q (.ref Dl) H')) :
    tLc (iRng1 ta) (gName j) tYes te vs σ H Q := h H (Ex.refl H) _ fun H1 e1 => ⟨n, rfl, by omega, by omega, fun Dl hD => by
  obtain ⟨Pv, h0, hs, hd⟩ := k H1 e1 Dl hD
  refine lc_range (lo := 0) (n := n.toNat) Pv h0 (fun i H' hi p => ?_) hd
  rw [Int.zero_add]
  exact hs i H' hi p⟩
theorem q_asgCB1 {r : List V → Hp → VK → Prop} {te : TE} {g : TG} {tz : TS} {D : Ends} {σ : L2.St} {H : Hp} (h : te σ H fun x H1 => r [x] H1 fun y H2 => g y σ H2 (tz D)) : tSeq (tAsg (tCB r (tCons te tNil)) g) tz D σ H := h
def sp_entry : Sp := fun vs H Q _ => ∃ (B : Hp) (v : V) (ns : List Int) (m : Nat), vs = [v, .int (m : Int)] ∧ MsN B H v ns ∧ m ≤ 1 ∧ ns.length ≤ 40000 ∧ ∀ v H', Ex H H' → EntV H' v (entF ns m) → Q v H'
theorem ok_entry (T : TX K mg) : FnOk P w K mg base CX0 1 T.a_entry T.d_entry ["part", "method"] sp_entry := by
  refine T.F_entry.ok sc_entry (fun vs H Q E h => by obtain ⟨B, v, ns, m, rfl, _⟩ := h; rfl) (fun cdv A outer s0 H vs Q E hr h => ?_)
  obtain ⟨B, v, ns, m, rfl, ⟨t, s, rfl, -, -, ht, hs⟩, hm, hl, q⟩ := h
  have hus : ∀ k, k < 31 → (sumL ns)[k]? = some (sumI ns k) := fun k hk => sumL_at ns hk
  refine ⟨_, (pss_cons (ps_asg (pv 0) (pg_tup rfl (pgs_cons (pg_name (i := 2) sc_entry.nd rfl (Or.inr rfl)) (pgs_cons (pg_name (i := 3) sc_entry.nd rfl (Or.inr rfl)) (pgs_cons (pg_name (i := 4) sc_entry.nd rfl (Or.inl rfl)) pgs_nil)))))
      (pss_cons (ps_set (i := 5) sc_entry.nd rfl (Or.inr rfl) (pe_op op_add pe_int (pv 1)))
      (pss_cons (ps_asg (pe_callB (cr_minP (hu64 hr) rfl) (by rfl) T.m_min PyProof.Rows.boot_min (pa_cons (pe_lc (own := [("k", 6)]) (g := gName 6) (tt := tYes) rfl sc_entry.nd (pi_range1 (by rfl) T.m_range (pa_cons (pe_ix (r := rIxT K) ix_tup (pe_glob (v := V.ref T.A_PARAMETERS) (by rfl) T.c_PARAMETERS rfl) (pv 1) (fun _ _ => rfl)) pa_nil)) (blkOk_by (N := ["part", "method", "count", "sums", "width", "field", "k", "bits", "raw_bits"]) (sc := defScope s_entry) (by decide +kernel)) (fun _ _ _ _ _ => pg_name (i := 6) sc_entry.nd rfl (Or.inl rfl)) (fun _ _ _ _ _ => pts_nil) (fun _ _ _ _ _ => (pe_tup (pa_cons (pe_op op_add (pe_op op_add (pv 5) (pe_op op_mul (pv 2) (pe_op op_add pe_int (pv 6)))) (pe_ix (r := rIxL K) ix_list (pv 3) (pv 6) (fun _ _ => rfl))) (pa_cons (pv 6) pa_nil))))) pa_nil)) (pg_tup rfl (pgs_cons (pg_name (i := 7) sc_entry.nd rfl (Or.inl rfl)) (pgs_cons (pg_name (i := 6) sc_entry.nd rfl (Or.inl rfl)) pgs_nil))))
      (pss_cons (ps_set (i := 8) sc_entry.nd rfl (Or.inl rfl) (pe_op op_add (pe_op op_add (pv 5) pe_int) (pe_op op_mul (pv 2) (pv 4))))
      (pss_cons (ps_if (PW.pt (pw_and (pt_cmpR op_le (pv 4) (pe_glob (by rfl) T.c_MOST_RAW_WIDTH T.r_MOST_RAW_WIDTH) (nomark _)) (pw_and1 (pt_cmpR op_lt (pv 8) (pv 7) (nomark _))))) (pss_one (ps_ret (pe_tup (pa_cons (pe_tup (pa_cons pe_str (pa_cons (pv 4) pa_nil))) (pa_cons (pv 8) pa_nil))))) pss_nil)
      (pss_one (ps_ret (pe_tup (pa_cons (pe_tup (pa_cons pe_str (pa_cons (pv 6) pa_nil))) (pa_cons (pv 7) pa_nil)))))))))), ?_⟩
  refine ⟨.ref t, rfl, t, [.int (ns.length : Int), .ref s, .int (widI ns : Int)], rfl, st_of ht, rfl, .int (ns.length : Int), [.ref s, .int (widI ns : Int)], rfl, .ref s, [.int (widI ns : Int)], rfl, .int (widI ns : Int), [], rfl, rfl, ?_⟩
  refine q_asg (v := .int (4 + (m : Int))) (ev_I0 (g := fun i j => .int (i + j)) ev_c (ev_var rfl)) fun H1 e1 => ?_
  have hn15 : atI [V.int 15, V.int 31] (m : Int) = some (.int ((15 + 16 * m : Nat) : Int)) := by
    match m, hm with
    | 0, _ => rfl
    | 1, _ => rfl
  refine q_asgCB1 ?_
  refine tlc_rngE (n := ((15 + 16 * m : Nat) : Int)) (ea_cons (ev_atT (n := (m : Int)) ev_c (T.s_PARAMETERS _) (ev_var rfl) hn15) ea_nil) (by omega) fun H2 e2 Dl hD => ⟨fun i H' => ∃ L : List (Addr × (Int × Int)), Ex H H' ∧ H' Dl = some (.lst (L.map fun x => V.ref x.1)) ∧ PrsAt H' L ∧ L.map (·.2) = (List.range i).map fun k => (costI ns m k, (k : Int)), ⟨[], Ex.mut (e1.trans e2) (fresh_back (e1.trans e2) hD), upd_same, (fun x hx => by cases hx), rfl⟩, ?_, ?_⟩
  · rintro i H' hi ⟨L, ex, gD, hL, hLs⟩
    have hi31 : i < 31 := by omega
    refine ⟨rfl, ?_⟩
    have hLl : L.length = i := by have := congrArg List.length hLs; rwa [List.length_map, List.length_map, List.length_range] at this
    refine eu_go (eu_tup (vs := [.int (costI ns m i), .int (i : Int)]) (ea_cons (Ev.is (ev_I0 (ev_I0 (ev_var rfl) (ev_I (ev_var rfl) (ev_I0 ev_c (ev_var rfl)) (.inr (by omega)))) (ev_ixS (i := 0) (n := (i : Int)) (Ev.s (ev_var rfl) (sq_of (ex _ _ hs))) (ev_var rfl) (at_of (j := i) rfl (at_int (hus i hi31))))) (congrArg V.int (by unfold costI; omega))) (ea_cons (ev_var rfl) ea_nil)) (Nat.le_of_ble_eq_true rfl)) fun p H3 hp e3 g3 => ⟨_, e3 _ _ gD, sz_lt (by rw [List.length_map]; omega), L ++ [(p, (costI ns m i, (i : Int)))], Ex.mut (ex.trans e3) (fresh_back (e1.trans e2) hD), by rw [upd_same, List.map_append]; rfl, fun x hx => ?_, ?_⟩
    · have hxD : ∀ {x : Addr × (Int × Int)}, H3 x.1 = some (.tup [.int x.2.1, .int x.2.2]) → (upd H3 Dl (.lst ((L.map fun x => V.ref x.1) ++ [V.ref p]))) x.1 = some (.tup [.int x.2.1, .int x.2.2]) := fun {x} h => by
        have : x.1 ≠ Dl := by
          intro z
          rw [z, e3 _ _ gD] at h
          cases h
        rw [upd_ne this]
        exact h
      rcases List.mem_append.mp hx with h | h
      · exact hxD (e3 _ _ (hL x h))
      · rw [List.mem_singleton.mp h]
        exact hxD g3
    · rw [List.map_append, hLs, List.range_succ, List.map_append]
      rfl
  rintro H3 ⟨L, ex, gD, hL, hLs⟩
  rw [Int.toNat_natCast] at hLs
  obtain ⟨f, hf⟩ : ∃ f, costI ns m = f := ⟨_, rfl⟩
  obtain ⟨j, hj⟩ : ∃ j, 14 + 16 * m = j := ⟨_, rfl⟩
  have hds : (L.map fun x => pairD x.2) = (((f 0, (0 : Int)) :: (List.range j).map fun k => (f (k + 1), ((k + 1 : Nat) : Int)))).map pairD := by
    rw [show (L.map fun x => pairD x.2) = (L.map (·.2)).map pairD from by rw [List.map_map]; rfl, hLs, hf, show 15 + 16 * m = j + 1 by omega, List.range_succ_eq_map, List.map_cons, List.map_map]
    rfl
  refine ⟨Dl, _, (f 0, 0), (List.range j).map fun k => (f (k + 1), ((k + 1 : Nat) : Int)), rfl, sq_of gD, hds ▸ hL.d, fun v hv => ?_⟩
  rw [minP_best] at hv
  obtain ⟨b, hb⟩ : ∃ b, bestN f j = b := ⟨_, rfl⟩
  rw [hb] at hv
  cases hv with
  | tup hst hda =>
    rename_i tp xs
    cases hda with
    | cons h1 h2 =>
      cases h1
      cases h2 with
      | cons h3 h4 =>
        cases h3
        cases h4
        refine ⟨tp, _, rfl, hst, rfl, .int b.1, [.int (b.2 : Int)], rfl, .int (b.2 : Int), [], rfl, rfl, ?_⟩
        refine q_asg (v := .int (rawI ns m)) (ev_I0 (ev_I0 (ev_var rfl) ev_c) (ev_I (ev_var rfl) (ev_var rfl) (.inl (by omega)))) fun H4 e4 => ?_
        unfold entF at q
        rw [hf, hj, hb] at q
        refine q_when (b := decide (widI ns ≤ 31 ∧ rawI ns m < b.1)) (et_is (et_and (a := decide (widI ns ≤ 31)) (b := decide (rawI ns m < b.1)) (et_is (et_test (ev_I0 (ev_var rfl) (ev_relC T.r_MOST_RAW_WIDTH))) (decide_eq_decide.mpr (by omega))) fun _ => et_test (ev_I0 (ev_var rfl) (ev_var rfl))) (by rw [Bool.decide_and])) (fun h H5 e5 => ?_) fun h H5 e5 => ?_
        · rw [if_pos (of_decide_eq_true h)] at q
          exact ⟨_, rfl, sz_of (show 2 ≤ 100000 by decide), fun t2 h2 => ⟨_, rfl, sz_of (show 2 ≤ 100000 by decide), fun t1 h1 => q _ _ (((ex.trans (e4.trans e5)).trans (Ex.new h2)).trans (Ex.new h1)) (ent_mk h1)⟩⟩
        · rw [if_neg (of_decide_eq_false h)] at q
          exact ⟨_, rfl, sz_of (show 2 ≤ 100000 by decide), fun t2 h2 => ⟨_, rfl, sz_of (show 2 ≤ 100000 by decide), fun t1 h1 => q _ _ (((ex.trans (e4.trans e5)).trans (Ex.new h2)).trans (Ex.new h1)) (ent_mk h1)⟩⟩

/-! ### ranges with a step -/
theorem s_forRC {σ : L2.St} {H : Hp} {D : Ends} {tu : TS} {ta : TA} {j n : Nat} {a b c : Int} (h : EvA ta σ H [.int a, .int b, .int c]) (hr : RgC a b c n) (Pv : Nat → L2.St → Hp → Prop) (h0 : ∀ H1, Ex H H1 → Pv 0 σ H1)
    (hs : ∀ i σ' H', i < n → Pv i σ' H' → tu { nx := Pv (i + 1), rt := D.rt, bk := D.nx, ct := Pv (i + 1) } (σ'.set j (some (.int (a + (i : Nat) * c)))) H') (hd : ∀ σ' H', Pv n σ' H' → D.nx σ' H') : tFor (iRng3 ta) (gName j) tu D σ H :=
  h H (Ex.refl H) _ fun H1 e1 => ⟨a, b, c, n, rfl, hr, for_rangeC Pv (h0 H1 e1) hs hd⟩
theorem q_forRC {σ : L2.St} {H : Hp} {D : Ends} {tu tz : TS} {ta : TA} {j n : Nat} {a b c : Int} (h : EvA ta σ H [.int a, .int b, .int c]) (hr : RgC a b c n) (Pv : Nat → L2.St → Hp → Prop) (h0 : ∀ H1, Ex H H1 → Pv 0 σ H1)
    (hs : ∀ i σ' H', i < n → Pv i σ' H' → tu { nx := Pv (i + 1), rt := D.rt, bk := tz D, ct := Pv (i + 1) } (σ'.set j (some (.int (a + (i : Nat) * c)))) H') (hd : ∀ σ' H', Pv n σ' H' → tz D σ' H') : tSeq (tFor (iRng3 ta) (gName j) tu) tz D σ H :=
  h H (Ex.refl H) _ fun H1 e1 => ⟨a, b, c, n, rfl, hr, for_rangeC Pv (h0 H1 e1) hs hd⟩
theorem el_lcC {σ : L2.St} {H : Hp} {ta : TA} {te : TE} {vs : List Nat} {j n : Nat} {a b c : Int} (zs : List V) (h1 : EvA ta σ H [.int a, .int b, .int c]) (hr : RgC a b c n) (hz : zs.length = n) (hb : zs.length ≤ 50000) (hw : ∀ x, wipe ((wipe σ vs).set j (some x)) vs = wipe σ vs)
    (he : ∀ (i : Nat) H1, Ex H H1 → i < n → ∃ z, zs[i]? = some z ∧ Ev te ((wipe σ vs).set j (some (.int (a + (i : Nat) * c)))) H1 z) : EvL (tLc (iRng3 ta) (gName j) tYes te vs) σ H zs := fun H0 e Q q =>
  h1 H0 e _ fun H1 e1 => ⟨a, b, c, n, rfl, hr, fun D hD => lc_it walk_rangeC (fun i H' => Ex H1 H' ∧ H' D = some (.lst (zs.take i))) ⟨Ex.new hD, upd_same⟩ (fun _ _ _ _ => trivial) (by
    rintro i x H' H'' hi ⟨ex, hd⟩ ⟨rfl, rfl⟩
    obtain ⟨z, hz1, hz2⟩ := he i H'' ((e.trans e1).trans ex) hi
    refine ⟨hw _, ?_⟩
    refine hz2 _ (Ex.refl _) _ fun H4 e4 => ⟨zs.take i, e4 _ _ hd, sz_lt (by rw [List.length_take]; omega), ?_, ?_⟩
    · exact Ex.mut (ex.trans e4) hD
    · rw [upd_same, take_snoc hz1]) fun H' ⟨ex, hd⟩ => by
      rw [← hz, List.take_length] at hd
      exact q D H' (fresh_back e1 hD) (e1.trans ex) hd⟩
theorem rs_m6 (i : Int) (n : Nat) : Builtin.Range.rangeSize i (i - 6 * n) (-6) = (n : Int) := by
  unfold Builtin.Range.rangeSize
  rw [if_neg (by decide), show (-(-6) : Int) = 6 from rfl]
  split <;> omega
theorem rg_m6 {i : Int} {n : Nat} (hi : -(2 ^ 60) ≤ i ∧ i < 2 ^ 60) (hn : n ≤ 100000) : RgC i (i - 6 * n) (-6) n := by
  refine ⟨by decide, by decide, ?_, rs_m6 i n⟩
  unfold Builtin.Range.small
  rw [rs_m6]
  simp only [Builtin.Range.rangeFitsLong, Bool.and_eq_true, Bool.or_eq_true, decide_eq_true_eq, beq_iff_eq, show ¬ ((-6 : Int) > 0) by decide, if_false]
  omega
theorem rs_m8 (i : Int) (n : Nat) : Builtin.Range.rangeSize i (i - 8 * n) (-8) = (n : Int) := by
  unfold Builtin.Range.rangeSize
  rw [if_neg (by decide), show (-(-8) : Int) = 8 from rfl]
  split <;> omega
theorem rg_m8 {i : Int} {n : Nat} (hi : -(2 ^ 60) ≤ i ∧ i < 2 ^ 60) (hn : n ≤ 100000) : RgC i (i - 8 * n) (-8) n := by
  refine ⟨by decide, by decide, ?_, rs_m8 i n⟩
  unfold Builtin.Range.small
  rw [rs_m8]
  simp only [Builtin.Range.rangeFitsLong, Bool.and_eq_true, Bool.or_eq_true, decide_eq_true_eq, beq_iff_eq, show ¬ ((-8 : Int) > 0) by decide, if_false]
  omega
theorem rs_8 (i : Int) (n : Nat) : Builtin.Range.rangeSize i (i + 8 * n) (8) = (n : Int) := by
  unfold Builtin.Range.rangeSize
  rw [if_pos (by decide)]
  split <;> omega
theorem rg_8 {i : Int} {n : Nat} (hi : -(2 ^ 60) ≤ i ∧ i < 2 ^ 60) (hn : n ≤ 100000) : RgC i (i + 8 * n) (8) n := by
  refine ⟨by decide, by decide, ?_, rs_8 i n⟩
  unfold Builtin.Range.small
  rw [rs_8]
  simp only [Builtin.Range.rangeFitsLong, Bool.and_eq_true, Bool.or_eq_true, decide_eq_true_eq, beq_iff_eq, show ((8 : Int) > 0) by decide, if_true]
  omega
theorem rs_18 (i : Int) (n : Nat) : Builtin.Range.rangeSize i (i + 18 * n) (18) = (n : Int) := by
  unfold Builtin.Range.rangeSize
  rw [if_pos (by decide)]
  split <;> omega
theorem rg_18 {i : Int} {n : Nat} (hi : -(2 ^ 60) ≤ i ∧ i < 2 ^ 60) (hn : n ≤ 100000) : RgC i (i + 18 * n) (18) n := by
  refine ⟨by decide, by decide, ?_, rs_18 i n⟩
  unfold Builtin.Range.small
  rw [rs_18]
  simp only [Builtin.Range.rangeFitsLong, Bool.and_eq_true, Bool.or_eq_true, decide_eq_true_eq, beq_iff_eq, show ((18 : Int) > 0) by decide, if_true]
  omega
theorem rs_12 (i : Int) (n : Nat) : Builtin.Range.rangeSize i (i + 12 * n) (12) = (n : Int) := by
  unfold Builtin.Range.rangeSize
  rw [if_pos (by decide)]
  split <;> omega
theorem rg_12 {i : Int} {n : Nat} (hi : -(2 ^ 60) ≤ i ∧ i < 2 ^ 60) (hn : n ≤ 100000) : RgC i (i + 12 * n) (12) n := by
  refine ⟨by decide, by decide, ?_, rs_12 i n⟩
  unfold Builtin.Range.small
  rw [rs_12]
  simp only [Builtin.Range.rangeFitsLong, Bool.and_eq_true, Bool.or_eq_true, decide_eq_true_eq, beq_iff_eq, show ((12 : Int) > 0) by decide, if_true]
  omega

/-! ### measured parts joined -/
theorem sumI_app (ns ms : List Int) (k : Nat) : sumI (ns ++ ms) k = sumI ns k + sumI ms k := by unfold sumI; rw [List.map_append, List.sum_append]
theorem widI_app (ns ms : List Int) : (widI (ns ++ ms) : Int) = if (widI ms : Int) > (widI ns : Int) then (widI ms : Int) else (widI ns : Int) := by
  have h1 : ∀ j, widI (ns ++ ms) ≤ j ↔ widI ns ≤ j ∧ widI ms ≤ j := fun j => by
    rw [widI_le, widI_le, widI_le]
    exact ⟨fun h => ⟨fun n hn => h n (List.mem_append_left _ hn), fun n hn => h n (List.mem_append_right _ hn)⟩, fun h n hn => (List.mem_append.mp hn).elim (h.1 n) (h.2 n)⟩
  have a := (h1 (widI (ns ++ ms))).mp (Nat.le_refl _)
  by_cases h : widI ns ≤ widI ms
  · have b := (h1 (widI ms)).mpr ⟨h, Nat.le_refl _⟩
    split <;> omega
  · have b := (h1 (widI ns)).mpr ⟨Nat.le_refl _, by omega⟩
    split <;> omega
theorem sumL_app (ns ms : List Int) : sumL (ns ++ ms) = List.zipWith (· + ·) (sumL ns) (sumL ms) := by
  refine List.ext_getElem? fun k => ?_
  by_cases hk : k < 31
  · rw [sumL_at _ hk, List.getElem?_zipWith, sumL_at _ hk, sumL_at _ hk, sumI_app]
  · rw [List.getElem?_eq_none (by rw [sumL_len]; omega), List.getElem?_eq_none (by rw [List.length_zipWith, sumL_len, sumL_len]; omega)]
def sp_joined : Sp := fun vs H Q _ => ∃ (B : Hp) (v u : V) (ns ms : List Int), vs = [v, u] ∧ MsN B H v ns ∧ MsN B H u ms ∧ ∀ w H', Ex H H' → MsN H H' w (ns ++ ms) → Q w H'
theorem ok_joined (T : TX K mg) : FnOk P w K mg base CX0 1 T.a_joined T.d_joined ["part", "other"] sp_joined := by
  refine T.F_joined.ok sc_joined (fun vs H Q E h => by obtain ⟨B, v, u, ns, ms, rfl, _⟩ := h; rfl) (fun cdv A outer s0 H vs Q E hr h => ?_)
  obtain ⟨B, v, u, ns, ms, rfl, ⟨t, s, rfl, -, -, ht, hs⟩, ⟨t2, s2, rfl, -, -, ht2, hs2⟩, q⟩ := h
  refine ⟨_, (pss_one (ps_ret (pe_tup (pa_cons (pe_op op_add (pe_ix (r := rIxT K) ix_tup (pv 0) pe_int (fun _ _ => rfl)) (pe_ix (r := rIxT K) ix_tup (pv 1) pe_int (fun _ _ => rfl))) (pa_cons (pe_lc (own := [("a", 2), ("b", 3)]) (g := (gTup K 2 (gCons (gName 2) (gCons (gName 3) gNil)))) (tt := tYes) rfl sc_joined.nd (pi_zip (by rfl) T.m_zip (pa_cons (pe_ix (r := rIxT K) ix_tup (pv 0) pe_int (fun _ _ => rfl)) (pa_cons (pe_ix (r := rIxT K) ix_tup (pv 1) pe_int (fun _ _ => rfl)) pa_nil))) (blkOk_by (N := ["part", "other", "a", "b"]) (sc := defScope s_joined) (by decide +kernel)) (fun _ _ _ _ _ => (pg_tup rfl (pgs_cons (pg_name (i := 2) sc_joined.nd rfl (Or.inl rfl)) (pgs_cons (pg_name (i := 3) sc_joined.nd rfl (Or.inl rfl)) pgs_nil)))) (fun _ _ _ _ _ => pts_nil) (fun _ _ _ _ _ => (pe_op op_add (pv 2) (pv 3)))) (pa_cons (pe_callB (call_max2 rfl) (by rfl) T.m_max PyProof.Rows.boot_max (pa_cons (pe_ix (r := rIxT K) ix_tup (pv 0) pe_int (fun _ _ => rfl)) (pa_cons (pe_ix (r := rIxT K) ix_tup (pv 1) pe_int (fun _ _ => rfl)) pa_nil))) pa_nil)))))), ?_⟩
  have ix : ∀ {σ : L2.St} {H' : Hp} (j : Nat) {x : V}, σ[0]? = some (some (.ref t)) → Ex H H' → [V.int (ns.length : Int), .ref s, .int (widI ns : Int)][j]? = some x → Ev (tOp (rIxT K) (tVar 0) (tC (.int (j : Int)))) σ H' x := fun {σ H'} j {x} h e hx => ev_atT (ev_var h) (st_of (e _ _ ht)) ev_c (at_of (j := j) rfl hx)
  have ix2 : ∀ {σ : L2.St} {H' : Hp} (j : Nat) {x : V}, σ[1]? = some (some (.ref t2)) → Ex H H' → [V.int (ms.length : Int), .ref s2, .int (widI ms : Int)][j]? = some x → Ev (tOp (rIxT K) (tVar 1) (tC (.int (j : Int)))) σ H' x := fun {σ H'} j {x} h e hx => ev_atT (ev_var h) (st_of (e _ _ ht2)) ev_c (at_of (j := j) rfl hx)
  refine ev_go (ev_I0 (ix 0 rfl (Ex.refl _) rfl) (ix2 0 rfl (Ex.refl _) rfl)) fun H1 e1 => ?_
  refine el_go (xs := (sumL (ns ++ ms)).map V.int) (el_lcZ _ (Ev.s (ix 1 rfl e1 rfl) (sq_of (e1 _ _ hs))) (Ev.s (ix2 1 rfl e1 rfl) (sq_of (e1 _ _ hs2))) (by simp only [List.length_map, sumL_len]; rfl) (by rw [List.length_map, sumL_len]; omega) (fun _ _ => rfl) fun i x y H2 e2 hx hy => ?_) fun p H2 hp e2 g2 => ?_
  · obtain ⟨n, hn, hi, rfl⟩ := int_at hx
    obtain ⟨m, hm, hi2, rfl⟩ := int_at hy
    exact ⟨.int (n + m), at_int (by rw [sumL_app, List.getElem?_zipWith, hn, hm]), ev_I0 (g := fun i j => .int (i + j)) (ev_var rfl) (ev_var rfl)⟩
  refine ev_go (ev_max2 (ix 2 rfl (e1.trans e2) rfl) (ix2 2 rfl (e1.trans e2) rfl)) fun H3 e3 => ⟨sz_of (show 3 ≤ 100000 by decide), fun w hw => ?_⟩
  have e13 := e1.trans (e2.trans e3)
  refine q _ _ (e13.trans (Ex.new hw)) ⟨w, p, rfl, fresh_back e13 hw, fresh_back e1 hp, ?_, (e3.trans (Ex.new hw)) _ _ g2⟩
  rw [upd_same, widI_app, List.length_append, show (((ns.length + ms.length : Nat)) : Int) = (ns.length : Int) + (ms.length : Int) by omega]
theorem tlc_rngC {ta : TA} {te : TE} {vs : List Nat} {a b c : Int} {n : Nat} {j : Nat} {σ : L2.St} {H : Hp} {Q : VK} (h : EvA ta σ H [.int a, .int b, .int c]) (hr : RgC a b c n)
    (k : ∀ H1, Ex H H1 → ∀ Dl, H1 Dl = none → ∃ Pv : Nat → Hp → Prop, Pv 0 (upd H1 Dl (.lst [])) ∧ (∀ (i : Nat) H', i < n → Pv i H' → wipe ((wipe σ vs).set j (some (.int (a + (i : Nat) * c)))) vs = wipe σ vs ∧ te ((wipe σ vs).set j (some (.int (a + (i : Nat) * c)))) H' fun y H4 => ∃ acc, H4 Dl = some (.lst acc) ∧ acc.length < sizeLine ∧ Pv (i + 1) (upd H4 Dl (.lst (acc ++ [y])))) ∧ (∀ H', Pv n H' → Q (.ref Dl) H')) :
    tLc (iRng3 ta) (gName j) tYes te vs σ H Q := h H (Ex.refl H) _ fun H1 e1 => ⟨a, b, c, n, rfl, hr, fun D hD => by
  obtain ⟨Pv, h0, hs, hd⟩ := k H1 e1 D hD
  refine lc_it walk_rangeC Pv h0 (fun _ _ _ _ => trivial) ?_ hd
  rintro i x H' H'' hi hp ⟨rfl, rfl⟩
  exact hs i H'' hi hp⟩
theorem rs_2 (n : Nat) : Builtin.Range.rangeSize 0 ((n : Int) - 1) 2 = ((n / 2 : Nat) : Int) := by
  unfold Builtin.Range.rangeSize
  rw [if_pos (by decide)]
  split <;> omega
theorem rg_2 {n : Nat} (hn : n ≤ 100000) : RgC 0 ((n : Int) - 1) 2 (n / 2) := by
  refine ⟨by decide, by omega, ?_, rs_2 n⟩
  unfold Builtin.Range.small
  rw [rs_2]
  simp only [Builtin.Range.rangeFitsLong, Bool.and_eq_true, Bool.or_eq_true, decide_eq_true_eq, beq_iff_eq, show ((2 : Int) > 0) by decide, if_true]
  omega
theorem at_in {xs : List V} {i : Nat} {v : V} {n : Int} (h : xs[i]? = some v) (hn : n = (i : Int)) : atI xs n = some v := hn ▸ at_of (j := i) rfl h
theorem lst_new {Dl s : Addr} {H : Hp} {x : HO} (h : H Dl = none) (g : upd H Dl x s = none) : s ≠ Dl := by rintro rfl; rw [upd_same] at g; cases g
def sp_pairs : Sp := fun vs H Q _ => ∃ (B : Hp) (a : Addr) (n : Nat) (f : Nat → List Int), vs = [.ref a] ∧ PtAt B H a n f ∧ n ≤ 40000 ∧ ∀ p H', Ex H H' → PtAt H H' p (n / 2) (fun i => f (2 * i) ++ f (2 * i + 1)) → Q (.ref p) H'
theorem ok_joined_in_pairs (T : TX K mg) : FnOk P w K mg base CX0 2 T.a_joined_in_pairs T.d_joined_in_pairs ["parts"] sp_pairs := by
  refine T.F_joined_in_pairs.ok sc_joined_in_pairs (fun vs H Q E h => by obtain ⟨B, a, n, f, rfl, _⟩ := h; rfl) (fun cdv A outer s0 H vs Q E hr h => ?_)
  obtain ⟨B, a, n, f, rfl, hP, hn, q⟩ := h
  refine ⟨_, (pss_one (ps_ret (pe_lc (own := [("at", 1)]) (g := gName 1) (tt := tYes) rfl sc_joined_in_pairs.nd (pi_range3 (by rfl) T.m_range (pa_cons pe_int (pa_cons (pe_op op_sub (pe_callB (r := rLenS K) call_len_seq (by rfl) T.m_len PySem.boot_len (pa_cons (pv 0) pa_nil)) pe_int) (pa_cons pe_int pa_nil)))) (blkOk_by (N := ["parts", "at"]) (sc := defScope s_joined_in_pairs) (by decide +kernel)) (fun _ _ _ _ _ => pg_name (i := 1) sc_joined_in_pairs.nd rfl (Or.inl rfl)) (fun _ _ _ _ _ => pts_nil) (fun _ _ _ _ _ => (pe_call (ok_joined T) (hr.mono (by decide)) (by rfl) T.g_joined T.F_joined.kp T.b_joined .nil pass0 (pa_cons (pe_ix (r := rIxL K) ix_list (pv 0) (pv 1) (fun _ _ => rfl)) (pa_cons (pe_ix (r := rIxL K) ix_list (pv 0) (pe_op op_add (pv 1) pe_int) (fun _ _ => rfl)) pa_nil))))))), ?_⟩
  obtain ⟨xs, ga, -, hl, hx⟩ := hP
  refine tlc_rngC (a := 0) (b := (n : Int) - 1) (c := 2) (n := n / 2) (ea_cons ev_c (ea_cons (Ev.is (ev_I0 (ev_lenS (Ev.s (ev_var rfl) (sq_of ga))) ev_c) (congrArg V.int (by rw [hl]))) (ea_cons ev_c ea_nil))) (rg_2 (by omega)) fun H1 e1 Dl hD => ⟨fun i H' => Ex H1 H' ∧ ∃ acc : List V, H' Dl = some (.lst acc) ∧ acc.length = i ∧ ∀ j, j < i → ∃ v, acc[j]? = some v ∧ MsN (upd H1 Dl (.lst [])) H' v (f (2 * j) ++ f (2 * j + 1)), ⟨Ex.new hD, [], upd_same, rfl, fun j hj => by omega⟩, ?_, ?_⟩
  · rintro i H' hi ⟨ex, acc, gD, hal, ha⟩
    refine ⟨rfl, ?_⟩
    obtain ⟨v, hv, hv2⟩ := hx (2 * i) (by omega)
    obtain ⟨u, hu, hu2⟩ := hx (2 * i + 1) (by omega)
    have e' := e1.trans ex
    have hga : SqL K H' a xs := sq_of (e' _ _ ga)
    refine ea_go (ea_cons (ev_ixS (i := 0) (n := 0 + (i : Int) * 2) (Ev.s (ev_var rfl) hga) (ev_var rfl) (at_in hv (by omega))) (ea_cons (ev_ixS (i := 0) (n := 0 + (i : Int) * 2 + 1) (Ev.s (ev_var rfl) hga) (ev_I0 (g := fun i j => .int (i + j)) (ev_var rfl) ev_c) (at_in hu (by omega))) ea_nil)) fun H2 e2 => ⟨B, v, u, f (2 * i), f (2 * i + 1), rfl, hv2.ex (e'.trans e2), hu2.ex (e'.trans e2), fun z H3 e3 hz => ⟨acc, (e2.trans e3) _ _ gD, sz_lt (by omega), Ex.mut (ex.trans (e2.trans e3)) hD, acc ++ [z], upd_same, by rw [List.length_append, hal]; rfl, fun j hj => ?_⟩⟩
    have hG : ∀ {y : V} {ns : List Int}, MsN (upd H1 Dl (.lst [])) H3 y ns → MsN (upd H1 Dl (.lst [])) (upd H3 Dl (.lst (acc ++ [z]))) y ns := fun h => h.fro (c := Dl) (o := .lst []) upd_same (FrO.upd (FrO.ex (Ex.refl _)))
    by_cases hj2 : j < i
    · obtain ⟨y, hy, hy2⟩ := ha j hj2
      exact ⟨y, by rw [List.getElem?_append_left (by omega)]; exact hy, hG (hy2.ex (e2.trans e3))⟩
    · obtain rfl : j = i := by omega
      refine ⟨z, by rw [List.getElem?_append_right (by omega), hal, Nat.sub_self]; rfl, hG (hz.back (c := Dl) (o := .lst acc) (fun b o hb hbo => ?_) (e2 _ _ gD))⟩
      rw [upd_ne hb] at hbo
      exact (ex.trans e2) _ _ hbo
  · rintro H' ⟨ex, acc, gD, hal, ha⟩
    refine q Dl H' (e1.trans ex) ⟨acc, gD, fresh_back e1 hD, hal, fun j hj => ?_⟩
    obtain ⟨y, hy, hy2⟩ := ha j hj
    exact ⟨y, hy, hy2.low (e1.trans (Ex.new hD))⟩

/-! ### the parts of the residuals -/
def cutN (ns : List Int) (a b : Nat) : List Int := (ns.drop a).take (b - a)
theorem cutN_join (ns : List Int) {a b c : Nat} (h1 : a ≤ b) (h2 : b ≤ c) : cutN ns a b ++ cutN ns b c = cutN ns a c := by
  unfold cutN
  rw [show c - a = (b - a) + (c - b) by omega, List.take_add, List.drop_drop, show a + (b - a) = b by omega]
theorem cutN_len (ns : List Int) (a b : Nat) : (cutN ns a b).length ≤ ns.length := by unfold cutN; rw [List.length_take, List.length_drop]; omega
theorem q_appE {σ : L2.St} {H : Hp} {ta te : TE} {l : Addr} {xs : List V} {D : Ends} {tz : TS} {S : V → Hp → Prop} (hl : H l = some (.lst xs)) (ha : Ev ta σ H (.ref l)) (h : EvX te σ H S) (hz : xs.length < 100000) (k : ∀ v H1, Ex H H1 → S v H1 → tz D σ (upd H1 l (.lst (xs ++ [v])))) : tSeq (tDrop (tBM K "list" rAppend ta (tCons te tNil))) tz D σ H :=
  ha H (Ex.refl _) _ fun H1 e1 => ⟨.inl ⟨rfl, xs, sq_of (e1 _ _ hl)⟩, h H1 e1 _ fun v H2 e2 hv => ⟨l, xs, v, rfl, rfl, (e1.trans e2) _ _ hl, sz_lt hz, k v H2 (e1.trans e2) hv⟩⟩
def sp_mparts (K : PySem.W.Frag) : Sp := fun vs H Q _ => ∃ (a b : Addr) (ns ws : List Int) (n : Nat) (st : Nat → Nat), vs = [.ref a, .ref b] ∧ SqL K H a (ns.map V.int) ∧ SqL K H b (ws.map V.int) ∧ ws.length = n ∧ n ≤ 40000 ∧ ns.length ≤ 40000 ∧ st 0 = 0 ∧ (∀ i, i < n → ws[i]? = some ((st (i + 1) : Int) - (st i : Int))) ∧ ∀ p H', Ex H H' → PtAt H H' p n (fun i => cutN ns (st i) (st (i + 1))) → Q (.ref p) H'
theorem ok_measured_parts (T : TX K mg) : FnOk P w K mg base CX0 3 T.a_measured_parts T.d_measured_parts ["residuals", "sizes"] (sp_mparts K) := by
  refine T.F_measured_parts.ok sc_measured_parts (fun vs H Q E h => by obtain ⟨a, b, ns, ws, n, st, rfl, _⟩ := h; rfl) (fun cdv A outer s0 H vs Q E hr h => ?_)
  obtain ⟨a, b, ns, ws, n, st, rfl, hA, hB, hwl, hn, hnl, hst0, hws, q⟩ := h
  refine ⟨_, (pss_cons (ps_set (i := 2) sc_measured_parts.nd rfl (Or.inl rfl) (pe_lst pa_nil))
      (pss_cons (ps_set (i := 3) sc_measured_parts.nd rfl (Or.inl rfl) pe_int)
      (pss_cons (ps_for PassesOwn.never rfl (pi_list (pv 1)) (pg_name (i := 4) sc_measured_parts.nd rfl (Or.inl rfl)) (pss_cons (ps_expr (pe_bm PySem.F.plainAttrs_list PySem.F.slot_list_append PySem.F.type_list_append mt_append (pv 2) (pa_cons (pe_call (ok_measured T) (hr.mono (by decide)) (by rfl) T.g_measured T.F_measured.kp T.b_measured .nil pass0 (pa_cons (pe_slice (r := rSlL K) sl_list (pv 0) (po_some (pv 3)) (po_some (pe_op op_add (pv 3) (pv 4)))) pa_nil)) pa_nil)))
        (pss_one (ps_aug (i := 3) sc_measured_parts.nd rfl (Or.inl rfl) (pv 4) ip_add))))
      (pss_one (ps_ret (pv 2)))))), ?_⟩
  refine q_asgL (xs := []) (el_lst ea_nil (by decide)) fun p B hp e1 g1 => ?_
  refine q_asg ev_c fun H2 e2 => ?_
  refine q_forLn (K := K) (a := b) (ev_var rfl) (ex_l (e1.trans e2) hB) (fun i σ' H' => ∃ z4, σ' = [some (.ref a), some (.ref b), some (.ref p), some (.int (st i : Int)), z4] ∧ FrO p B H' ∧ ∃ acc : List V, H' p = some (.lst acc) ∧ acc.length = i ∧ ∀ j, j < i → ∃ v, acc[j]? = some v ∧ MsN B H' v (cutN ns (st j) (st (j + 1)))) (fun H3 e3 => ⟨none, by rw [hst0]; rfl, FrO.ex (e2.trans e3), [], (e2.trans e3) _ _ g1, rfl, fun j hj => by omega⟩) (fun i σ' H' _ h => ?_) ?_ ?_
  · obtain ⟨_, _, f, _⟩ := h
    exact sq_keep (e1 := e1) (hp := hp) f hB
  · rintro i x σ' H' hx ⟨z4, rfl, f, acc, gp, hal, ha⟩
    obtain ⟨w', hw', hi, rfl⟩ := int_at hx
    rw [hws i (by omega)] at hw'
    injection hw' with hw'
    subst hw'
    refine q_appE (S := fun v G => MsN H' G v (cutN ns (st i) (st (i + 1)))) gp (ev_var rfl) (fun H1 e Q' q' => ?_) (by omega) fun v H1 e1' hv => ?_
    · exact el_mid (i := st i) (j := st (i + 1)) (Ev.s (ev_var rfl) (ex_l e (sq_keep (e1 := e1) (hp := hp) f hA))) (ev_var rfl) (Ev.is (ev_I0 (g := fun i j => .int (i + j)) (ev_var rfl) (ev_var rfl)) (congrArg V.int (by omega))) H1 (Ex.refl _) _ fun pa H2 hpa e2' g2 => ⟨pa, cutN ns (st i) (st (i + 1)), rfl, sq_of g2, Nat.le_trans (cutN_len ..) hnl, fun v H3 e3 hv => q' v H3 (e2'.trans e3) (hv.low (e.trans e2'))⟩
    refine s_augR rfl (ev_var rfl) fun H4 e4 => ⟨some (.int ((st (i + 1) : Int) - (st i : Int))), ?_, (((f.trans (FrO.ex e1')).upd).trans (FrO.ex e4)), acc ++ [v], e4 _ _ upd_same, by rw [List.length_append, hal]; rfl, fun j hj => ?_⟩
    · show [some (V.ref a), some (V.ref b), some (V.ref p), some (V.int ((st i : Int) + ((st (i + 1) : Int) - (st i : Int)))), _] = _
      rw [show ((st i : Int) + ((st (i + 1) : Int) - (st i : Int))) = (st (i + 1) : Int) by omega]
    · have hG : ∀ {y : V} {ms : List Int}, MsN B H1 y ms → MsN B H4 y ms := fun h => (h.fro (c := p) (o := .lst []) g1 (FrO.upd (FrO.ex (Ex.refl _)))).ex e4
      by_cases hj2 : j < i
      · obtain ⟨y, hy, hy2⟩ := ha j hj2
        exact ⟨y, by rw [List.getElem?_append_left (by omega)]; exact hy, hG (hy2.ex e1')⟩
      · obtain rfl : j = i := by omega
        exact ⟨v, by rw [List.getElem?_append_right (by omega), hal, Nat.sub_self]; rfl, hG (hv.back (c := p) (o := .lst acc) f gp)⟩
  · rintro σ' H' ⟨z4, rfl, f, acc, gp, hal, ha⟩
    rw [List.length_map, hwl] at hal
    have ha' : ∀ j, j < n → ∃ v, acc[j]? = some v ∧ MsN B H' v (cutN ns (st j) (st (j + 1))) := fun j hj => ha j (by rw [List.length_map]; omega)
    refine s_ret (v := .ref p) (ev_var rfl) fun H5 e5 => q p H5 ((FrO.after f e1 hp).trans e5) ⟨acc, e5 _ _ gp, hp, hal, fun j hj => ?_⟩
    obtain ⟨y, hy, hy2⟩ := ha' j hj
    exact ⟨y, hy, (hy2.ex e5).low e1⟩

/-! ### entries of the parts -/
def TxH (H H' : Hp) : Prop := ∀ a xs, H a = some (.tup xs) → H' a = some (.tup xs)
theorem TxH.ex {H H' : Hp} (e : Ex H H') : TxH H H' := fun _ _ h => e _ _ h
theorem TxH.trans {H H1 H2 : Hp} (x : TxH H H1) (y : TxH H1 H2) : TxH H H2 := fun a xs h => y a xs (x a xs h)
theorem TxH.upd {H : Hp} {c : Addr} {ys : List V} {o : HO} (h : H c = some (.lst ys)) : TxH H (upd H c o) := fun a xs ha => by rw [upd_ne (by rintro rfl; rw [h] at ha; cases ha)]; exact ha
theorem EntV.tx {H H' : Hp} {v : V} {e : (Str × Int) × Int} (h : EntV H v e) (x : TxH H H') : EntV H' v e := by obtain ⟨t, t2, h1, h2, h3⟩ := h; exact ⟨t, t2, h1, x _ _ h2, x _ _ h3⟩
def CodAt (H : Hp) (rs : List V) (cs : List (Str × Int)) : Prop := rs.length = cs.length ∧ ∀ (i : Nat) (c : Str × Int), cs[i]? = some c → ∃ t : Addr, rs[i]? = some (.ref t) ∧ H t = some (.tup [.str c.1, .int c.2])
theorem CodAt.tx {H H' : Hp} {rs : List V} {cs : List (Str × Int)} (h : CodAt H rs cs) (x : TxH H H') : CodAt H' rs cs := ⟨h.1, fun i c hc => by obtain ⟨t, h1, h2⟩ := h.2 i c hc; exact ⟨t, h1, x _ _ h2⟩⟩
theorem CodAt.d {H : Hp} : ∀ {cs : List (Str × Int)} {rs : List V}, CodAt H rs cs → DpAll K H rs (cs.map codD)
  | [], rs, h => by
    obtain rfl : rs = [] := List.eq_nil_of_length_eq_zero h.1
    exact .nil
  | c :: cs, [], h => by cases h.1
  | c :: cs, r :: rs, h => by
    obtain ⟨t, h1, h2⟩ := h.2 0 c rfl
    cases h1
    exact .cons (.tup (st_of h2) (.cons (.str _) (.cons (.int _) .nil))) (CodAt.d ⟨Nat.succ.inj h.1, fun i c hc => h.2 (i + 1) c hc⟩)
def codsF (f : Nat → List Int) (n m : Nat) : List (Str × Int) := (List.range n).map fun k => (entF (f k) m).1
def totF (f : Nat → List Int) (n m : Nat) : Int := 6 + ((List.range n).map fun k => (entF (f k) m).2).sum
theorem ent_refs {H : Hp} {acc : List V} {e : Nat → (Str × Int) × Int} : ∀ n, (∀ j, j < n → ∃ v, acc[j]? = some v ∧ EntV H v (e j)) → ∃ rs : List V, rs.length = n ∧ ∀ j, j < n → ∃ t t2, acc[j]? = some (.ref t) ∧ rs[j]? = some (.ref t2) ∧ H t = some (.tup [.ref t2, .int (e j).2]) ∧ H t2 = some (.tup [.str (e j).1.1, .int (e j).1.2])
  | 0, _ => ⟨[], rfl, fun j hj => by omega⟩
  | n + 1, h => by
    obtain ⟨rs, hl, hr⟩ := ent_refs n fun j hj => h j (by omega)
    obtain ⟨v, hv, t, t2, rfl, h1, h2⟩ := h n (by omega)
    refine ⟨rs ++ [.ref t2], by rw [List.length_append, hl]; rfl, fun j hj => ?_⟩
    by_cases hj2 : j < n
    · obtain ⟨u, u2, g1, g2, g3, g4⟩ := hr j hj2
      exact ⟨u, u2, g1, by rw [List.getElem?_append_left (by omega)]; exact g2, g3, g4⟩
    · obtain rfl : j = n := by omega
      exact ⟨t, t2, hv, by rw [List.getElem?_append_right (by omega), hl, Nat.sub_self]; rfl, h1, h2⟩
/-- [e for x, y in xs], xs a list of pairs -/
theorem el_lcP {j1 j2 : Nat} {t1 te : TE} {vs : List Nat} {σ : L2.St} {H : Hp} {xs : List V} (zs : List V) (h1 : EvS K t1 σ H xs) (hz : zs.length = xs.length) (hb : zs.length ≤ 50000) (hw : ∀ x y, wipe (((wipe σ vs).set j1 (some x)).set j2 (some y)) vs = wipe σ vs)
    (he : ∀ (i : Nat) (x : V), xs[i]? = some x → ∃ t y z w', x = .ref t ∧ H t = some (.tup [y, z]) ∧ zs[i]? = some w' ∧ ∀ H1, Ex H H1 → Ev te (((wipe σ vs).set j1 (some y)).set j2 (some z)) H1 w') :
    EvL (tLc (iList K t1) (gTup K 2 (gCons (gName j1) (gCons (gName j2) gNil))) tYes te vs) σ H zs := fun H0 e Q q =>
  h1 H0 e _ fun p H1 e1 hp => ⟨p, rfl, ⟨xs, hp⟩, fun D hD => lc_list (xs := xs) (fun i H' => Ex H1 H' ∧ H' D = some (.lst (zs.take i))) ⟨Ex.new hD, upd_same⟩ (fun i H' _ h => ex_l h.1 hp)
    (fun i x H' hi h => by
      obtain ⟨t, y, z, w', rfl, ht, hz1, hz2⟩ := he i x hi
      have e' := (e.trans e1).trans h.1
      have hl : i < xs.length := (List.getElem?_eq_some_iff.mp hi).1
      refine ⟨t, [y, z], rfl, st_of (e' _ _ ht), rfl, y, [z], rfl, z, [], rfl, rfl, hw y z, ?_⟩
      refine hz2 H' e' H' (Ex.refl _) _ fun H4 e4 => ⟨zs.take i, e4 _ _ h.2, sz_lt (by rw [List.length_take]; omega), Ex.mut (h.1.trans e4) hD, ?_⟩
      rw [upd_same, take_snoc hz1])
    (fun H' h => q D H' (fresh_back e1 hD) (e1.trans h.1) (by rw [h.2, ← hz, List.take_length]))⟩
theorem eu_tupOf {te : TE} {σ : L2.St} {H : Hp} {xs : List V} (h : EvL te σ H xs) : EvU (tCB (fun xs H Q => ∃ p ys, xs = [V.ref p] ∧ ((SqL K H p ys ∧ ∀ l : Addr, H l = none → Q (V.ref l) (upd H l (.tup ys))) ∨ SqT K H p ys ∧ Q (V.ref p) H)) (tCons te tNil)) σ H xs := fun H1 e Q q =>
  h H1 e _ fun p H2 hp e2 g2 => ⟨p, xs, rfl, .inl ⟨sq_of g2, fun l hl => q l _ (fresh_back e2 hl) (e2.trans (Ex.new hl)) upd_same⟩⟩
theorem tlc_lstM {t1 te : TE} {vs : List Nat} {xs : List V} {j : Nat} {σ : L2.St} {H : Hp} {Q : VK} (h : EvS K t1 σ H xs)
    (k : ∀ p H1, Ex H H1 → SqL K H1 p xs → ∀ Dl, H1 Dl = none → ∃ Pv : Nat → Hp → Prop, Pv 0 (upd H1 Dl (.lst [])) ∧ (∀ (i : Nat) H', Pv i H' → SqL K H' p xs) ∧ (∀ (i : Nat) (x : V) H', xs[i]? = some x → Pv i H' → wipe ((wipe σ vs).set j (some x)) vs = wipe σ vs ∧ te ((wipe σ vs).set j (some x)) H' fun y H4 => ∃ acc, H4 Dl = some (.lst acc) ∧ acc.length < sizeLine ∧ Pv (i + 1) (upd H4 Dl (.lst (acc ++ [y])))) ∧ (∀ H', Pv xs.length H' → Q (.ref Dl) H')) :
    tLc (iList K t1) (gName j) tYes te vs σ H Q := h H (Ex.refl H) _ fun p H1 e1 hp => ⟨p, rfl, ⟨xs, hp⟩, fun Dl hD => by
  obtain ⟨Pv, h0, hl, hs, hd⟩ := k p H1 e1 hp Dl hD
  exact lc_list (xs := xs) Pv h0 (fun i H' _ p => hl i H' p) (fun i x H' hi p => hs i x H' hi p) hd⟩
theorem q_asgQ {te : TE} {g : TG} {tz : TS} {D : Ends} {σ : L2.St} {H : Hp} (h : te σ H fun x H2 => g x σ H2 (tz D)) : tSeq (tAsg te g) tz D σ H := h
def sp_entries : Sp := fun vs H Q _ => ∃ (B : Hp) (a : Addr) (n m : Nat) (f : Nat → List Int), vs = [.ref a, .int (m : Int)] ∧ PtAt B H a n f ∧ m ≤ 1 ∧ n ≤ 40000 ∧ (∀ i, i < n → (f i).length ≤ 40000) ∧ ∀ t tc rs H', Ex H H' → H' t = some (.tup [.ref tc, .int (totF f n m)]) → H' tc = some (.tup rs) → CodAt H' rs (codsF f n m) → Q (.ref t) H'
theorem ok_entries (T : TX K mg) : FnOk P w K mg base CX0 2 T.a_entries T.d_entries ["parts", "method"] sp_entries := by
  refine T.F_entries.ok sc_entries (fun vs H Q E h => by obtain ⟨B, a, n, m, f, rfl, _⟩ := h; rfl) (fun cdv A outer s0 H vs Q E hr h => ?_)
  obtain ⟨B, a, n, m, f, rfl, ⟨xs, ga, -, hxl, hx⟩, hm, hn, hf, q⟩ := h
  refine ⟨_, (pss_cons (ps_setLc (i := 2) (own := [("part", 4)]) (g := gName 4) (tt := tYes) rfl sc_entries.nd rfl rfl (sw_true rfl rfl rfl (by decide +kernel)) (pi_list (pv 0)) (blkOk_by (N := ["parts", "method", "entries", "codings", "part", "coding", "_", "bits"]) (sc := defScope s_entries) (by decide +kernel)) (fun _ _ _ _ _ => pg_name (i := 4) sc_entries.nd rfl (Or.inl rfl)) (fun _ _ _ _ _ => pts_nil) (fun _ _ _ _ _ => (pe_call (ok_entry T) (hr.mono (by decide)) (by rfl) T.g_entry T.F_entry.kp T.b_entry .nil pass0 (pa_cons (pv 4) (pa_cons (pv 1) pa_nil)))))
      (pss_cons (ps_set (i := 3) sc_entries.nd rfl (Or.inl rfl) (pe_callTy call_tuple_of (by rfl) T.m_tuple PyProof.Rows.boot_tuple (pa_cons (pe_lc (own := [("coding", 5), ("_", 6)]) (g := (gTup K 2 (gCons (gName 5) (gCons (gName 6) gNil)))) (tt := tYes) rfl sc_entries.nd (pi_list (pv 2)) (blkOk_by (N := ["parts", "method", "entries", "codings", "part", "coding", "_", "bits"]) (sc := defScope s_entries) (by decide +kernel)) (fun _ _ _ _ _ => (pg_tup rfl (pgs_cons (pg_name (i := 5) sc_entries.nd rfl (Or.inl rfl)) (pgs_cons (pg_name (i := 6) sc_entries.nd rfl (Or.inl rfl)) pgs_nil)))) (fun _ _ _ _ _ => pts_nil) (fun _ _ _ _ _ => (pv 5))) pa_nil)))
      (pss_one (ps_ret (pe_tup (pa_cons (pv 3) (pa_cons (pe_op op_add (pe_glob (by rfl) T.c_HEAD_BITS T.r_HEAD_BITS) (pe_callB (r := rSum K) (cr_sum rfl) (by rfl) T.m_sum PyProof.Rows.boot_sum (pa_cons (pe_lc (own := [("_", 6), ("bits", 7)]) (g := (gTup K 2 (gCons (gName 6) (gCons (gName 7) gNil)))) (tt := tYes) rfl sc_entries.nd (pi_list (pv 2)) (blkOk_by (N := ["parts", "method", "entries", "codings", "part", "coding", "_", "bits"]) (sc := defScope s_entries) (by decide +kernel)) (fun _ _ _ _ _ => (pg_tup rfl (pgs_cons (pg_name (i := 6) sc_entries.nd rfl (Or.inl rfl)) (pgs_cons (pg_name (i := 7) sc_entries.nd rfl (Or.inl rfl)) pgs_nil)))) (fun _ _ _ _ _ => pts_nil) (fun _ _ _ _ _ => (pv 7))) pa_nil))) pa_nil))))))), ?_⟩
  refine q_asgQ ?_
  refine tlc_lstM (Ev.s (ev_var rfl) (sq_of ga)) fun p H1 e1 hp Dl hD => ⟨fun i H' => Ex H1 H' ∧ ∃ acc : List V, H' Dl = some (.lst acc) ∧ acc.length = i ∧ ∀ j, j < i → ∃ v, acc[j]? = some v ∧ EntV H' v (entF (f j) m), ⟨Ex.new hD, [], upd_same, rfl, fun j hj => by omega⟩, fun i H' h => ex_l h.1 hp, ?_, ?_⟩
  · rintro i x H' hi ⟨ex, acc, gD, hal, ha⟩
    have hin : i < n := by have := (List.getElem?_eq_some_iff.mp hi).1; omega
    obtain ⟨v, hv, hv2⟩ := hx i hin
    rw [hi] at hv
    cases hv
    refine ⟨rfl, ea_go (ea_cons (ev_var rfl) (ea_cons (ev_var rfl) ea_nil)) fun H2 e2 => ⟨B, x, f i, m, rfl, hv2.ex (e1.trans (ex.trans e2)), hm, hf i hin, fun v H3 e3 hv => ⟨acc, (e2.trans e3) _ _ gD, sz_lt (by omega), Ex.mut (ex.trans (e2.trans e3)) hD, acc ++ [v], upd_same, by rw [List.length_append, hal]; rfl, fun j hj => ?_⟩⟩⟩
    have hT : TxH H3 (upd H3 Dl (.lst (acc ++ [v]))) := TxH.upd ((e2.trans e3) _ _ gD)
    by_cases hj2 : j < i
    · obtain ⟨y, hy, hy2⟩ := ha j hj2
      exact ⟨y, by rw [List.getElem?_append_left (by omega)]; exact hy, (hy2.ex (e2.trans e3)).tx hT⟩
    · obtain rfl : j = i := by omega
      exact ⟨v, by rw [List.getElem?_append_right (by omega), hal, Nat.sub_self]; rfl, hv.tx hT⟩
  rintro H2 ⟨ex, acc, gD, hal, ha⟩
  rw [hxl] at hal ha
  obtain ⟨rs, hrl, hrs⟩ := ent_refs n ha
  have e12 := e1.trans ex
  refine q_asgU (xs := rs) (eu_tupOf (el_lcP rs (Ev.s (ev_var rfl) (sq_of gD)) (by omega) (by omega) (fun _ _ => rfl) fun i x hx => ?_)) fun tc H3 htc e3 gtc => ?_
  · obtain ⟨t, t2, h1, h2, h3, h4⟩ := hrs i (by have := (List.getElem?_eq_some_iff.mp hx).1; omega)
    rw [hx] at h1
    cases h1
    exact ⟨t, _, _, .ref t2, rfl, h3, h2, fun H1 e => ev_var rfl⟩
  have gD3 := e3 _ _ gD
  refine s_retU (xs := [.ref tc, .int (totF f n m)]) (eu_tup (ea_cons (ev_var rfl) (ea_cons (ev_I0 (g := fun i j => .int (i + j)) (ev_relC T.r_HEAD_BITS) (ev_sum (ns := (List.range n).map fun k => (entF (f k) m).2) (EvR.s (EvL.r (el_lcP _ (Ev.s (ev_var rfl) (sq_of gD3)) (by rw [List.length_map, List.length_map, List.length_range]; omega) (by rw [List.length_map, List.length_map, List.length_range]; omega) (fun _ _ => rfl) fun i x hx => ?_))))) ea_nil)) (Nat.le_of_ble_eq_true rfl)) fun t H4 ht e4 g4 => q t tc rs H4 (e12.trans (e3.trans e4)) g4 (e4 _ _ gtc) ⟨by unfold codsF; rw [List.length_map, List.length_range, hrl], fun i c hc => ?_⟩
  · have hi : i < n := by have := (List.getElem?_eq_some_iff.mp hx).1; omega
    obtain ⟨t, t2, h1, h2, h3, h4⟩ := hrs i hi
    rw [hx] at h1
    cases h1
    exact ⟨t, _, _, .int (entF (f i) m).2, rfl, e3 _ _ h3, at_int (by rw [List.getElem?_map, List.getElem?_range hi]; rfl), fun H1 e => ev_var rfl⟩
  · unfold codsF at hc
    have hi : i < n := by have := (List.getElem?_eq_some_iff.mp hc).1; rw [List.length_map, List.length_range] at this; omega
    rw [List.getElem?_map, List.getElem?_range hi] at hc
    cases hc
    obtain ⟨t, t2, h1, h2, h3, h4⟩ := hrs i hi
    exact ⟨t2, h2, (e3.trans e4) _ _ h4⟩

/-! ### the best coding -/
def chk (ns : List Int) (g p : Nat) (k : Nat) : List Int := cutN ns (k * ((ns.length + g) / 2 ^ p) - g) ((k + 1) * ((ns.length + g) / 2 ^ p) - g)
def qdF (ns : List Int) (g m p : Nat) : Qd := ⟨totF (chk ns g p) (2 ^ p) m, m, p, codsF (chk ns g p) (2 ^ p) m⟩
def LegP (s g p : Nat) : Prop := s % 2 ^ p = 0 ∧ g < s / 2 ^ p
instance (s g p : Nat) : Decidable (LegP s g p) := inferInstanceAs (Decidable (_ ∧ _))
def LegQ (s g hi M m p : Nat) : Prop := m < M ∧ p ≤ hi ∧ LegP s g p
def BestQ (ns : List Int) (g hi M : Nat) (x : Qd) : Prop := ∃ m p, LegQ (ns.length + g) g hi M m p ∧ x = qdF ns g m p ∧ ∀ m' p', LegQ (ns.length + g) g hi M m' p' → ¬ ltQ (qdF ns g m' p') x
theorem BestQ.uniq {ns : List Int} {g hi M : Nat} {x y : Qd} (h1 : BestQ ns g hi M x) (h2 : BestQ ns g hi M y) : x = y := by
  obtain ⟨m, p, l1, rfl, a1⟩ := h1
  obtain ⟨m', p', l2, rfl, a2⟩ := h2
  have b1 := a1 m' p' l2
  have b2 := a2 m p l1
  unfold ltQ qdF at b1 b2
  have e : m = m' ∧ p = p' := by
    dsimp only at b1 b2
    omega
  rw [e.1, e.2]
theorem legP_zero {s g : Nat} (h : g < s) : LegP s g 0 := ⟨by rw [Nat.pow_zero]; exact Nat.mod_one s, by rw [Nat.pow_zero, Nat.div_one]; exact h⟩
theorem legP_down {s g p : Nat} (h : LegP s g (p + 1)) : LegP s g p := by
  obtain ⟨h1, h2⟩ := h
  rw [Nat.pow_succ] at h1 h2
  refine ⟨Nat.mod_eq_zero_of_dvd (Nat.dvd_trans ⟨2, rfl⟩ (Nat.dvd_of_mod_eq_zero h1)), ?_⟩
  rw [← Nat.div_div_eq_div_mul] at h2
  omega
theorem legP_le {s g p : Nat} : ∀ d, LegP s g (p + d) → LegP s g p
  | 0, h => h
  | d + 1, h => legP_le d (legP_down h)
theorem chk_join {ns : List Int} {g p : Nat} (h : LegP (ns.length + g) g (p + 1)) (k : Nat) : chk ns g (p + 1) (2 * k) ++ chk ns g (p + 1) (2 * k + 1) = chk ns g p k := by
  have e : (ns.length + g) / 2 ^ p = 2 * ((ns.length + g) / 2 ^ (p + 1)) := by
    have h1 := h.1
    rw [Nat.pow_succ] at h1 ⊢
    rw [← Nat.div_div_eq_div_mul]
    have hp := Nat.two_pow_pos p
    have h0 : (ns.length + g) % 2 ^ p = 0 := Nat.mod_eq_zero_of_dvd (Nat.dvd_trans ⟨2, rfl⟩ (Nat.dvd_of_mod_eq_zero h1))
    have h2 : ((ns.length + g) / 2 ^ p) % 2 = 0 := by
      obtain ⟨c, hc⟩ := Nat.dvd_of_mod_eq_zero h1
      rw [hc, Nat.mul_assoc, Nat.mul_div_cancel_left _ hp]
      omega
    omega
  unfold chk
  rw [e]
  generalize (ns.length + g) / 2 ^ (p + 1) = W
  have a1 : 2 * k * W ≤ (2 * k + 1) * W := Nat.mul_le_mul_right _ (by omega)
  have a2 : (2 * k + 1) * W ≤ (2 * k + 1 + 1) * W := Nat.mul_le_mul_right _ (by omega)
  rw [cutN_join ns (by omega) (by omega)]
  congr 1
  · rw [← Nat.mul_assoc, Nat.mul_comm k 2]
  · rw [← Nat.mul_assoc, Nat.add_mul k 1 2, Nat.mul_comm k 2]
theorem two_half (d : Nat) : 2 ^ (d + 1) / 2 = 2 ^ d := by rw [Nat.pow_succ, Nat.mul_div_cancel _ (by decide)]
theorem PtAt.congr {B H : Hp} {a : Addr} {n n' : Nat} {f f' : Nat → List Int} (h : PtAt B H a n f) (hn : n = n') (e : ∀ i, i < n → f i = f' i) : PtAt B H a n' f' := by
  subst hn
  obtain ⟨vs, h1, h2, h3, h4⟩ := h
  exact ⟨vs, h1, h2, h3, fun i hi => by rw [← e i hi]; exact h4 i hi⟩
/-- the candidates -/
def rowQ (ns : List Int) (g p M : Nat) : List Qd := (List.range M).map fun m => qdF ns g m p
def qsF (ns : List Int) (g top M : Nat) : Nat → List Qd
  | 0 => []
  | i + 1 => qsF ns g top M i ++ rowQ ns g (top - i) M
theorem mem_row {ns : List Int} {g p M : Nat} {x : Qd} : x ∈ rowQ ns g p M ↔ ∃ m, m < M ∧ x = qdF ns g m p := by
  unfold rowQ
  rw [List.mem_map]
  exact ⟨fun ⟨m, h1, h2⟩ => ⟨m, List.mem_range.mp h1, h2.symm⟩, fun ⟨m, h1, h2⟩ => ⟨m, List.mem_range.mpr h1, h2.symm⟩⟩
theorem mem_qs {ns : List Int} {g top M : Nat} {x : Qd} : ∀ {i : Nat}, x ∈ qsF ns g top M i ↔ ∃ j m, j < i ∧ m < M ∧ x = qdF ns g m (top - j)
  | 0 => ⟨fun h => (List.not_mem_nil h).elim, fun ⟨j, m, h, _⟩ => absurd h (by omega)⟩
  | i + 1 => by
    unfold qsF
    rw [List.mem_append, mem_qs, mem_row]
    refine ⟨fun h => ?_, fun ⟨j, m, hj, hm, hx⟩ => ?_⟩
    · rcases h with ⟨j, m, hj, hm, hx⟩ | ⟨m, hm, hx⟩
      · exact ⟨j, m, by omega, hm, hx⟩
      · exact ⟨i, m, by omega, hm, hx⟩
    · by_cases h : j < i
      · exact .inl ⟨j, m, h, hm, hx⟩
      · obtain rfl : j = i := by omega
        exact .inr ⟨m, hm, hx⟩
theorem row_pw (ns : List Int) (g p : Nat) : ∀ M, (rowQ ns g p M).Pairwise difQ
  | 0 => List.Pairwise.nil
  | M + 1 => by
    unfold rowQ
    rw [List.range_succ, List.map_append, List.pairwise_append]
    refine ⟨row_pw ns g p M, List.pairwise_singleton .., fun x hx y hy => ?_⟩
    obtain ⟨m, hm, rfl⟩ := mem_row.mp hx
    rw [List.mem_singleton.mp hy]
    unfold difQ qdF
    dsimp only
    omega
theorem qs_pw (ns : List Int) (g top M : Nat) : ∀ i, i ≤ top + 1 → (qsF ns g top M i).Pairwise difQ
  | 0, _ => List.Pairwise.nil
  | i + 1, h => by
    unfold qsF
    rw [List.pairwise_append]
    refine ⟨qs_pw ns g top M i (by omega), row_pw .., fun x hx y hy => ?_⟩
    obtain ⟨j, m, hj, hm, rfl⟩ := mem_qs.mp hx
    obtain ⟨m', hm', rfl⟩ := mem_row.mp hy
    unfold difQ qdF
    dsimp only
    omega
def QdAt (H : Hp) (v : V) (x : Qd) : Prop := ∃ (t tc : Addr) (rs : List V), v = .ref t ∧ H t = some (.tup [.int x.b, .int (x.m : Int), .int (x.p : Int), .ref tc]) ∧ H tc = some (.tup rs) ∧ CodAt H rs x.cs
theorem QdAt.tx {H H' : Hp} {v : V} {x : Qd} (h : QdAt H v x) (t : TxH H H') : QdAt H' v x := by obtain ⟨a, tc, rs, h0, h1, h2, h3⟩ := h; exact ⟨a, tc, rs, h0, t _ _ h1, t _ _ h2, h3.tx t⟩
def QdsAt (H : Hp) : List V → List Qd → Prop
  | [], [] => True
  | v :: vs, x :: xs => QdAt H v x ∧ QdsAt H vs xs
  | _, _ => False
theorem QdsAt.tx {H H' : Hp} (t : TxH H H') : ∀ {vs : List V} {xs : List Qd}, QdsAt H vs xs → QdsAt H' vs xs
  | [], [], _ => trivial
  | _ :: _, _ :: _, h => ⟨h.1.tx t, QdsAt.tx t h.2⟩
  | [], _ :: _, h => h.elim
  | _ :: _, [], h => h.elim
theorem QdsAt.snoc {H : Hp} {v : V} {x : Qd} (hv : QdAt H v x) : ∀ {vs : List V} {xs : List Qd}, QdsAt H vs xs → QdsAt H (vs ++ [v]) (xs ++ [x])
  | [], [], _ => ⟨hv, trivial⟩
  | _ :: _, _ :: _, h => ⟨h.1, QdsAt.snoc hv h.2⟩
  | [], _ :: _, h => h.elim
  | _ :: _, [], h => h.elim
theorem QdsAt.len {H : Hp} : ∀ {vs : List V} {xs : List Qd}, QdsAt H vs xs → vs.length = xs.length
  | [], [], _ => rfl
  | _ :: _, _ :: _, h => congrArg (· + 1) (QdsAt.len h.2)
  | [], _ :: _, h => h.elim
  | _ :: _, [], h => h.elim
theorem QdsAt.d {H : Hp} : ∀ {vs : List V} {xs : List Qd}, QdsAt H vs xs → DpAll K H vs (xs.map quadD)
  | [], [], _ => .nil
  | _ :: _, _ :: _, h => by
    obtain ⟨⟨t, tc, rs, rfl, h1, h2, h3⟩, hr⟩ := h
    exact .cons (.tup (st_of h1) (.cons (.int _) (.cons (.int _) (.cons (.int _) (.cons (.tup (st_of h2) h3.d) .nil))))) hr.d
  | [], _ :: _, h => h.elim
  | _ :: _, [], h => h.elim
/-- [j for j in range(n) if c] -/
theorem el_lcF {ta : TA} {te : TE} {tt : TT} {vs : List Nat} {n : Int} {j : Nat} {σ : L2.St} {H : Hp} {c : Nat → Bool} (h1 : EvA ta σ H [.int n]) (hn : 0 ≤ n ∧ n ≤ 50000) (hw : ∀ x, wipe ((wipe σ vs).set j (some x)) vs = wipe σ vs)
    (hc : ∀ (i : Nat) H1, Ex H H1 → (i : Int) < n → EvT tt ((wipe σ vs).set j (some (.int (i : Int)))) H1 (c i)) (hv : ∀ (i : Nat) H1, Ev te ((wipe σ vs).set j (some (.int (i : Int)))) H1 (.int (i : Int))) :
    EvL (tLc (iRng1 ta) (gName j) tt te vs) σ H (((List.range n.toNat).filter c).map fun (i : Nat) => V.int (i : Int)) := fun H0 e Q q =>
  h1 H0 e _ fun H1 e1 => ⟨n, rfl, by omega, by omega, fun D hD => lc_range (lo := 0) (n := n.toNat) (fun i H' => Ex H1 H' ∧ H' D = some (.lst (((List.range i).filter c).map fun (i : Nat) => V.int (i : Int)))) ⟨Ex.new hD, upd_same⟩
    (fun i H' hi h => by
      rw [Int.zero_add]
      refine ⟨hw _, hc i H' ((e.trans e1).trans h.1) (by omega) H' (Ex.refl _) _ fun H3 e3 => ?_⟩
      have hst : ((List.range (i + 1)).filter c).map (fun (i : Nat) => V.int (i : Int)) = ((List.range i).filter c).map (fun (i : Nat) => V.int (i : Int)) ++ (if c i = true then [V.int (i : Int)] else []) := by
        rw [List.range_succ, List.filter_append, List.map_append, List.filter_cons, List.filter_nil]
        split <;> rfl
      cases hb : c i with
      | true =>
        rw [if_pos rfl]
        refine hv i H3 H3 (Ex.refl _) _ fun H4 e4 => ⟨_, (e3.trans e4) _ _ h.2, sz_lt (by rw [List.length_map]; exact Nat.lt_of_le_of_lt (List.length_filter_le ..) (by rw [List.length_range]; omega)), Ex.mut (h.1.trans (e3.trans e4)) hD, ?_⟩
        rw [upd_same, hst, if_pos hb]
      | false =>
        rw [if_neg (by decide)]
        refine ⟨h.1.trans e3, ?_⟩
        rw [hst, if_neg (by rw [hb]; decide), List.append_nil]
        exact e3 _ _ h.2)
    (fun H' h => q D H' (fresh_back e1 hD) (e1.trans h.1) h.2)⟩
theorem top_of {n : Nat} {c : Nat → Bool} (h0 : c 0 = true) (hn : 0 < n) : ∃ t : Nat, maxI 0 (((List.range n).filter c).map fun (i : Nat) => (i : Int)) = (t : Int) ∧ t < n ∧ c t = true ∧ ∀ i, i < n → c i = true → i ≤ t := by
  have hnn : ∀ u ∈ ((List.range n).filter c).map (fun (i : Nat) => (i : Int)), 0 ≤ u := fun u hu => by
    obtain ⟨i, _, rfl⟩ := List.mem_map.mp hu
    omega
  obtain ⟨a, b, d⟩ := maxI_nn hnn
  have hmem : ∀ i, i < n → c i = true → (i : Int) ∈ ((List.range n).filter c).map (fun (i : Nat) => (i : Int)) := fun i hi hc => List.mem_map_of_mem (f := fun i : Nat => (i : Int)) (List.mem_filter.mpr ⟨List.mem_range.mpr hi, hc⟩)
  rcases b with h | h
  · refine ⟨0, h, hn, h0, fun i hi hc => ?_⟩
    have := d _ (hmem i hi hc)
    omega
  · obtain ⟨t, ht, e⟩ := List.mem_map.mp h
    obtain ⟨h1, h2⟩ := List.mem_filter.mp ht
    refine ⟨t, e.symm, List.mem_range.mp h1, h2, fun i hi hc => ?_⟩
    have := d _ (hmem i hi hc)
    omega
theorem rs_m1 (t : Nat) : Builtin.Range.rangeSize (t : Int) (-1) (-1) = ((t + 1 : Nat) : Int) := by
  unfold Builtin.Range.rangeSize
  rw [if_neg (by decide), show (-(-1) : Int) = 1 from rfl]
  split <;> omega
theorem rg_m1 {t : Nat} (ht : t ≤ 1000) : RgC (t : Int) (-1) (-1) (t + 1) := by
  refine ⟨by decide, by omega, ?_, rs_m1 t⟩
  unfold Builtin.Range.small
  rw [rs_m1]
  simp only [Builtin.Range.rangeFitsLong, Bool.and_eq_true, Bool.or_eq_true, decide_eq_true_eq, beq_iff_eq, show ¬ ((-1 : Int) > 0) by decide, if_false]
  omega
def bcD (x : Qd) : PyData := .tuple [.tuple [.int (x.m : Int), .int (x.p : Int), .tuple (x.cs.map codD)], .int x.b]
theorem ev_legN {σ : L2.St} {H : Hp} {t1 t2 t3 : TE} {E : XK} {s o m : Nat} (h1 : Ev t1 σ H (.int (s : Int))) (h2 : Ev t2 σ H (.int (o : Int))) (h3 : Ev t3 σ H (.int (m : Int))) (hm : m ≤ 16) : Ev (tCall sp_legal [] E (tCons t1 (tCons t2 (tCons t3 tNil)))) σ H (.bl (decide (LegP s o m))) := by
  refine Ev.is (ev_legal h1 h2 h3 hm) (congrArg V.bl ?_)
  rw [← Bool.decide_and]
  refine decide_eq_decide.mpr ?_
  unfold LegP
  rw [p2c, ← Int.natCast_emod, ← Int.natCast_ediv]
  omega
theorem q_asgC2 {t1 t2 : TE} {v : V} {xs : List V} {g : TG} {sp : Sp} {dvs : List V} {E : XK} {tz : TS} {D : Ends} {σ : L2.St} {H : Hp} (h1 : Ev t1 σ H v) (h2 : EvL t2 σ H xs) (k : ∀ H1 p, H p = none → Ex H H1 → H1 p = some (.lst xs) → sp ([v, .ref p] ++ dvs) H1 (fun x H2 => g x σ H2 (tz D)) E) : tSeq (tAsg (tCall sp dvs E (tCons t1 (tCons t2 tNil))) g) tz D σ H := h1 H (Ex.refl _) _ fun H1 e1 => h2 H1 e1 _ fun p H2 hp e2 g2 => k H2 p (fresh_back e1 hp) (e1.trans e2) g2
theorem q_asgCG {tA : TA} {g : TG} {sp : Sp} {dvs vs : List V} {E : XK} {tz : TS} {D : Ends} {σ : L2.St} {H : Hp} (h : EvA tA σ H vs) (k : ∀ H1, Ex H H1 → sp (vs ++ dvs) H1 (fun x H2 => g x σ H2 (tz D)) E) : tSeq (tAsg (tCall sp dvs E tA) g) tz D σ H := h H (Ex.refl H) _ fun H1 e => k H1 e
theorem s_asgCG {tA : TA} {g : TG} {sp : Sp} {dvs vs : List V} {E : XK} {D : Ends} {σ : L2.St} {H : Hp} (h : EvA tA σ H vs) (k : ∀ H1, Ex H H1 → sp (vs ++ dvs) H1 (fun x H2 => g x σ H2 D.nx) E) : tAsg (tCall sp dvs E tA) g D σ H := h H (Ex.refl H) _ fun H1 e => k H1 e
theorem s_appE {σ : L2.St} {H : Hp} {ta te : TE} {l : Addr} {xs : List V} {D : Ends} {S : V → Hp → Prop} (hl : H l = some (.lst xs)) (ha : Ev ta σ H (.ref l)) (h : EvX te σ H S) (hz : xs.length < 100000) (k : ∀ v H1, Ex H H1 → S v H1 → D.nx σ (upd H1 l (.lst (xs ++ [v])))) : tDrop (tBM K "list" rAppend ta (tCons te tNil)) D σ H :=
  ha H (Ex.refl _) _ fun H1 e1 => ⟨.inl ⟨rfl, xs, sq_of (e1 _ _ hl)⟩, h H1 e1 _ fun v H2 e2 hv => ⟨l, xs, v, rfl, rfl, (e1.trans e2) _ _ hl, sz_lt hz, k v H2 (e1.trans e2) hv⟩⟩
theorem eu_if {c : TT} {ta tb : TE} {σ : L2.St} {H : Hp} {b : Bool} {xs : List V} (h : EvT c σ H b) (h1 : b = true → EvU ta σ H xs) (h2 : b = false → EvU tb σ H xs) : EvU (tIf c ta tb) σ H xs := fun H1 e Q q => h H1 e _ fun H2 e2 => by
  cases b with
  | true =>
    rw [if_pos rfl]
    exact h1 rfl H2 (e.trans e2) Q fun p H3 hp e3 g => q p H3 (fresh_back e2 hp) (e2.trans e3) g
  | false =>
    rw [if_neg (by decide)]
    exact h2 rfl H2 (e.trans e2) Q fun p H3 hp e3 g => q p H3 (fresh_back e2 hp) (e2.trans e3) g
theorem EvU.is {te : TE} {σ : L2.St} {H : Hp} {xs ys : List V} (h : EvU te σ H xs) (e : xs = ys) : EvU te σ H ys := e ▸ h
theorem st_fro {c t : Addr} {B H' : Hp} {xs ys : List V} (f : FrO c B H') (hc : B c = some (.lst ys)) (ht : B t = some (.tup xs)) : H' t = some (.tup xs) := f _ _ (by rintro rfl; rw [hc] at ht; cases ht) ht
theorem qs_len (ns : List Int) (g top M : Nat) : ∀ i, (qsF ns g top M i).length = i * M
  | 0 => by rw [Nat.zero_mul]; rfl
  | i + 1 => by
    unfold qsF rowQ
    rw [List.length_append, qs_len, List.length_map, List.length_range, Nat.add_mul i 1 M, Nat.one_mul]
theorem row_len (ns : List Int) (g p M : Nat) : (rowQ ns g p M).length = M := by unfold rowQ; rw [List.length_map, List.length_range]
theorem row_succ (ns : List Int) (g p M : Nat) : rowQ ns g p (M + 1) = rowQ ns g p M ++ [qdF ns g M p] := by unfold rowQ; rw [List.range_succ, List.map_append]; rfl
theorem ed_tup3 {t1 t2 t3 : TE} {σ : L2.St} {H : Hp} {d1 d2 d3 : PyData} (h1 : EvD K t1 σ H d1) (h2 : EvD K t2 σ H d2) (h3 : EvD K t3 σ H d3) : EvD K (tTup (tCons t1 (tCons t2 (tCons t3 tNil)))) σ H (.tuple [d1, d2, d3]) := fun H1 e Q q => h1 H1 e _ fun v H2 e2 hv => h2 H2 (e.trans e2) _ fun u H3 e3 hu => h3 H3 ((e.trans e2).trans e3) _ fun w' H4 e4 hw =>
  ⟨sz_of (show 3 ≤ 100000 by decide), fun p hp => q (.ref p) _ (((e2.trans e3).trans e4).trans (Ex.new hp)) (.tup (st_of upd_same) (.cons (dp_ex ((e3.trans e4).trans (Ex.new hp)) _ _ hv) (.cons (dp_ex (e4.trans (Ex.new hp)) _ _ hu) (.cons (dp_ex (Ex.new hp) _ _ hw) .nil))))⟩
theorem s_retD {te : TE} {σ : L2.St} {H : Hp} {d : PyData} {D : Ends} (h : EvD K te σ H d) (k : ∀ v H1, Ex H H1 → Dp K H1 v d → D.rt v H1) : tRet te D σ H := h H (Ex.refl H) _ k
theorem QdsAt.at {H : Hp} : ∀ {vs : List V} {xs : List Qd} {i : Nat} {v : V} {x : Qd}, QdsAt H vs xs → vs[i]? = some v → xs[i]? = some x → QdAt H v x
  | [], _, i, v, x, _, hv, _ => by simp at hv
  | _ :: _, [], _, _, _, h, _, _ => h.elim
  | y :: _, z :: _, 0, _, _, h, hv, hx => by cases hv; cases hx; exact h.1
  | _ :: _, _ :: _, i + 1, _, _, h, hv, hx => QdsAt.at h.2 hv hx
def BcAt (H : Hp) (v : V) (x : Qd) : Prop := ∃ (t t1 tc : Addr) (rs : List V), v = .ref t ∧ H t = some (.tup [.ref t1, .int x.b]) ∧ H t1 = some (.tup [.int (x.m : Int), .int (x.p : Int), .ref tc]) ∧ H tc = some (.tup rs) ∧ CodAt H rs x.cs
theorem BcAt.d {H : Hp} {v : V} {x : Qd} (h : BcAt H v x) : Dp K H v (bcD x) := by
  obtain ⟨t, t1, tc, rs, rfl, h1, h2, h3, h4⟩ := h
  exact .tup (st_of h1) (.cons (.tup (st_of h2) (.cons (.int _) (.cons (.int _) (.cons (.tup (st_of h3) h4.d) .nil)))) (.cons (.int _) .nil))
def sp_bc (K : PySem.W.Frag) : Sp := fun vs H Q _ => ∃ (a : Addr) (ns : List Int) (g hi : Nat) (wd : Bool), vs = [.ref a, .int (g : Int), .int (hi : Int), .bl wd] ∧ SqL K H a (ns.map V.int) ∧ 0 < ns.length ∧ ns.length + g ≤ 1000 ∧ hi ≤ 15 ∧ ∀ v H' x, Ex H H' → BestQ ns g hi (if wd = true then 2 else 1) x → BcAt H' v x → Q v H'
theorem chk_len (ns : List Int) (g p k : Nat) : (chk ns g p k).length ≤ ns.length := cutN_len ..
theorem ok_best_coding (T : TX K mg) : FnOk P w K mg base CX0 4 T.a_best_coding T.d_best_coding ["residuals", "order", "highest", "wide"] (sp_bc K) := by
  refine T.F_best_coding.ok sc_best_coding (fun vs H Q E h => by obtain ⟨a, ns, g, hi, wd, rfl, _⟩ := h; rfl) (fun cdv A outer s0 H vs Q E hr h => ?_)
  obtain ⟨a, ns, g, hi, wd, rfl, hA, hnl, hs, hhi, q⟩ := h
  refine ⟨_, (pss_cons (ps_set (i := 4) sc_best_coding.nd rfl (Or.inr rfl) (pe_op op_add (pe_callB (r := rLenS K) call_len_seq (by rfl) T.m_len PySem.boot_len (pa_cons (pv 0) pa_nil)) (pv 1)))
      (pss_cons (ps_set (i := 5) sc_best_coding.nd rfl (Or.inl rfl) (pe_callBK (cr_maxDef (hu64 hr)) (by rfl) T.m_max PyProof.Rows.boot_max (pa_cons (pe_lc (own := [("p", 13)]) (g := gName 13)  rfl sc_best_coding.nd (pi_range1 (by rfl) T.m_range (pa_cons (pe_op op_add (pv 2) pe_int) pa_nil)) (blkOk_by (N := ["residuals", "order", "highest", "wide", "size", "top", "methods", "candidates", "parts", "partition_order", "method", "codings", "bits", "p"]) (sc := defScope s_best_coding) (by decide +kernel)) (fun _ _ _ _ _ => pg_name (i := 13) sc_best_coding.nd rfl (Or.inl rfl)) (fun _ _ _ _ _ => pts_one (pt_val (pe_call (ok_legal_partition_order T) (hr.mono (by decide)) (by rfl) T.g_legal_partition_order T.F_legal_partition_order.kp T.b_legal_partition_order .nil pass0 (pa_cons (pv 4) (pa_cons (pv 1) (pa_cons (pv 13) pa_nil)))))) (fun _ _ _ _ _ => (pv 13))) pa_nil) (pk_cons pe_int pk_nil)))
      (pss_cons (ps_set (i := 6) sc_best_coding.nd rfl (Or.inl rfl) (pe_ifExp (pt_val (pv 3)) (pe_tup (pa_cons pe_int (pa_cons pe_int pa_nil))) (pe_tup (pa_cons pe_int pa_nil))))
      (pss_cons (ps_set (i := 7) sc_best_coding.nd rfl (Or.inl rfl) (pe_lst pa_nil))
      (pss_cons (ps_set (i := 8) sc_best_coding.nd rfl (Or.inl rfl) (pe_call (ok_measured_parts T) (hr.mono (by decide)) (by rfl) T.g_measured_parts T.F_measured_parts.kp T.b_measured_parts .nil pass0 (pa_cons (pv 0) (pa_cons (pe_call (ok_partition_sizes T) (hr.mono (by decide)) (by rfl) T.g_partition_sizes T.F_partition_sizes.kp T.b_partition_sizes .nil pass0 (pa_cons (pv 4) (pa_cons (pv 1) (pa_cons (pv 5) pa_nil)))) pa_nil))))
      (pss_cons (ps_for PassesOwn.leaving rfl (pi_range3 (by rfl) T.m_range (pa_cons (pv 5) (pa_cons (pe_un un_neg pe_int) (pa_cons (pe_un un_neg pe_int) pa_nil)))) (pg_name (i := 9) sc_best_coding.nd rfl (Or.inl rfl)) (pss_cons (ps_for PassesOwn.leaving rfl (pi_tup (pv 6)) (pg_name (i := 10) sc_best_coding.nd rfl (Or.inl rfl)) (pss_cons (ps_asg (pe_call (ok_entries T) (hr.mono (by decide)) (by rfl) T.g_entries T.F_entries.kp T.b_entries .nil pass0 (pa_cons (pv 8) (pa_cons (pv 10) pa_nil))) (pg_tup rfl (pgs_cons (pg_name (i := 11) sc_best_coding.nd rfl (Or.inl rfl)) (pgs_cons (pg_name (i := 12) sc_best_coding.nd rfl (Or.inl rfl)) pgs_nil))))
          (pss_one (ps_expr (pe_bm PySem.F.plainAttrs_list PySem.F.slot_list_append PySem.F.type_list_append mt_append (pv 7) (pa_cons (pe_tup (pa_cons (pv 12) (pa_cons (pv 10) (pa_cons (pv 9) (pa_cons (pv 11) pa_nil))))) pa_nil))))))
        (pss_one (ps_set (i := 8) sc_best_coding.nd rfl (Or.inl rfl) (pe_call (ok_joined_in_pairs T) (hr.mono (by decide)) (by rfl) T.g_joined_in_pairs T.F_joined_in_pairs.kp T.b_joined_in_pairs .nil pass0 (pa_cons (pv 8) pa_nil))))))
      (pss_cons (ps_asg (pe_callB (cr_minQ (hu64 hr) rfl) (by rfl) T.m_min PyProof.Rows.boot_min (pa_cons (pv 7) pa_nil)) (pg_tup rfl (pgs_cons (pg_name (i := 12) sc_best_coding.nd rfl (Or.inl rfl)) (pgs_cons (pg_name (i := 10) sc_best_coding.nd rfl (Or.inl rfl)) (pgs_cons (pg_name (i := 9) sc_best_coding.nd rfl (Or.inl rfl)) (pgs_cons (pg_name (i := 11) sc_best_coding.nd rfl (Or.inl rfl)) pgs_nil))))))
      (pss_one (ps_ret (pe_tup (pa_cons (pe_tup (pa_cons (pv 10) (pa_cons (pv 9) (pa_cons (pv 11) pa_nil)))) (pa_cons (pv 12) pa_nil)))))))))))), ?_⟩
  refine q_asg (v := .int ((ns.length + g : Nat) : Int)) (Ev.is (ev_I0 (g := fun i j => .int (i + j)) (ev_lenS (Ev.s (ev_var rfl) hA)) (ev_var rfl)) (congrArg V.int (by rw [List.length_map]; omega))) fun H1 e1 => ?_
  obtain ⟨s, hsd⟩ : ∃ s, s = ns.length + g := ⟨_, rfl⟩
  rw [← hsd]
  obtain ⟨top, ht1, ht2, ht3, ht4⟩ := top_of (n := hi + 1) (c := fun p => decide (LegP s g p)) (decide_eq_true (legP_zero (by omega))) (by omega)
  have hleg : LegP s g top := of_decide_eq_true ht3
  refine q_asg (v := .int (top : Int)) (Ev.is (ev_maxD (ns := ((List.range (hi + 1)).filter fun p => decide (LegP s g p)).map fun (i : Nat) => (i : Int)) (EvR.s (EvL.r (EvL.is (el_lcF (n := ((hi + 1 : Nat) : Int)) (c := fun p => decide (LegP s g p)) (ea_cons (Ev.is (ev_I0 (g := fun i j => .int (i + j)) (ev_var rfl) ev_c) (congrArg V.int (by omega))) ea_nil) (by omega) (fun _ => rfl) (fun i H' e' hi' => et_B (ev_legN (ev_var rfl) (ev_var rfl) (ev_var rfl) (by omega))) fun i H' => ev_var rfl) (by rw [Int.toNat_natCast, List.map_map]; rfl)))) ev_c) (congrArg V.int ht1)) fun H2 e2 => ?_
  obtain ⟨M, hM⟩ : ∃ M, M = if wd = true then 2 else 1 := ⟨_, rfl⟩
  rw [← hM] at q
  have hM12 : M = 1 ∨ M = 2 := by split at hM <;> omega
  refine q_asgU (xs := (List.range M).map fun (m : Nat) => V.int (m : Int)) (eu_if (et_B (ev_var rfl)) (fun hb => EvU.is (eu_tup (ea_cons ev_c (ea_cons ev_c ea_nil)) (Nat.le_of_ble_eq_true rfl)) (by rw [hM, if_pos hb]; rfl)) fun hb => EvU.is (eu_tup (ea_cons ev_c ea_nil) (Nat.le_of_ble_eq_true rfl)) (by rw [hM, if_neg (by rw [hb]; decide)]; rfl)) fun tm H3 htm e3 gtm => ?_
  refine q_asgL (xs := []) (el_lst ea_nil (by decide)) fun c B hc e4 gc => ?_
  have e14 := e1.trans (e2.trans (e3.trans e4))
  have hcH : H c = none := fresh_back (e1.trans (e2.trans e3)) hc
  have gtmB := e4 _ _ gtm
  have hp2 : 2 ^ top ≤ 1000 := by
    have := hleg.2
    have h2 : 2 ^ top ≤ s := Nat.le_of_not_lt fun z => by rw [Nat.div_eq_of_lt z] at this; omega
    omega
  have hW : ∀ i, i < 2 ^ top → ((((s : Int) / 2 ^ top - (g : Int)) :: List.replicate (2 ^ top - 1) ((s : Int) / 2 ^ top)) : List Int)[i]? = some ((((i + 1) * (s / 2 ^ top) - g : Nat) : Int) - ((i * (s / 2 ^ top) - g : Nat) : Int)) := fun i hi' => by
    have hl := hleg.2
    rw [p2c, ← Int.natCast_ediv]
    generalize s / 2 ^ top = W at *
    cases i with
    | zero =>
      show some _ = _
      rw [Nat.zero_mul, Nat.zero_add, Nat.one_mul]
      congr 1
      omega
    | succ i =>
      show (List.replicate _ _)[i]? = _
      rw [List.getElem?_replicate, if_pos (by omega)]
      have h1 : 1 * W ≤ (i + 1) * W := Nat.mul_le_mul_right _ (by omega)
      have h2 : (i + 1 + 1) * W = (i + 1) * W + W := by rw [Nat.add_mul (i + 1) 1 W, Nat.one_mul]
      congr 1
      omega
  refine q_asgC2 (v := .ref a) (ev_var rfl) (el_sizes (s := (s : Int)) (o := (g : Int)) (m := top) (ev_var rfl) (ev_var rfl) (ev_var rfl) (by omega)) fun H6 pz hpz e6 gz => ?_
  refine ⟨a, pz, ns, _, 2 ^ top, fun k => k * (s / 2 ^ top) - g, rfl, ex_l (e14.trans e6) hA, sq_of gz, ?_, by omega, by omega, by show 0 * _ - g = 0; rw [Nat.zero_mul, Nat.zero_sub], hW, fun pp H7 e7 hP0 => ?_⟩
  · rw [List.length_cons, List.length_replicate]
    have := Nat.two_pow_pos top
    omega
  have e57 := e6.trans e7
  have hP : PtAt B H7 pp (2 ^ top) (chk ns g top) := (hP0.back (c := c) (o := .lst []) (FrO.ex e6) (e6 _ _ gc)).congr rfl fun i _ => by rw [hsd]; rfl
  refine q_forRC (a := (top : Int)) (b := -1) (c := -1) (n := top + 1) (ea_cons (ev_var rfl) (ea_cons (ev_negI ev_c) (ea_cons (ev_negI ev_c) ea_nil))) (rg_m1 (by omega)) (fun i σ' H' => ∃ (pp : Addr) (L : List V) (z9 z10 z11 z12 : Option V), σ' = [some (.ref a), some (.int (g : Int)), some (.int (hi : Int)), some (.bl wd), some (.int (s : Int)), some (.int (top : Int)), some (.ref tm), some (.ref c), some (.ref pp), z9, z10, z11, z12, none] ∧ FrO c B H' ∧ H' c = some (.lst L) ∧ QdsAt H' L (qsF ns g top M i) ∧ (i ≤ top → PtAt B H' pp (2 ^ (top - i)) (chk ns g (top - i)))) (fun H8 e8 => ⟨pp, [], none, none, none, none, rfl, FrO.ex (e57.trans e8), (e57.trans e8) _ _ gc, trivial, fun _ => hP.ex e8⟩) ?_ ?_
  · rintro i σ' H8 hi' ⟨pp, L, z9, z10, z11, z12, rfl, f, gL, hL, hP⟩
    have hP := hP (by omega)
    have hnb : 2 ^ (top - i) ≤ 40000 := Nat.le_trans (Nat.pow_le_pow_right (by decide) (Nat.sub_le top i)) (by omega)
    have hiM : i * M ≤ 1000 * 2 := Nat.mul_le_mul (by omega) (by omega)
    rw [show ((top : Int) + ((i : Nat) : Int) * (-1)) = ((top - i : Nat) : Int) by omega]
    refine q_forT (K := K) (a := tm) (ev_var rfl) (st_of (st_fro f gc gtmB)) (fun k σ' H' => ∃ (L : List V) (z10 z11 z12 : Option V), σ' = [some (.ref a), some (.int (g : Int)), some (.int (hi : Int)), some (.bl wd), some (.int (s : Int)), some (.int (top : Int)), some (.ref tm), some (.ref c), some (.ref pp), some (.int ((top - i : Nat) : Int)), z10, z11, z12, none] ∧ FrO c B H' ∧ H' c = some (.lst L) ∧ QdsAt H' L (qsF ns g top M i ++ rowQ ns g (top - i) k) ∧ PtAt B H' pp (2 ^ (top - i)) (chk ns g (top - i))) (fun H9 e9 => ⟨L, z10, z11, z12, rfl, f.trans (FrO.ex e9), e9 _ _ gL, ?_, hP.ex e9⟩) (fun k σ' H' _ h => ?_) ?_ ?_
    · have : rowQ ns g (top - i) 0 = [] := rfl
      rw [this, List.append_nil]
      exact hL.tx (TxH.ex e9)
    · obtain ⟨_, _, _, _, _, f, _⟩ := h
      exact st_of (st_fro f gc gtmB)
    · rintro k x σ' H9 hx ⟨L, z10, z11, z12, rfl, f, gL, hL, hP⟩
      have hkM : k < M := by have := (List.getElem?_eq_some_iff.mp hx).1; rwa [List.length_map, List.length_range] at this
      rw [List.getElem?_map, List.getElem?_range hkM] at hx
      obtain rfl := Option.some.inj hx
      have hLl := hL.len
      rw [List.length_append, qs_len, row_len] at hLl
      refine q_asgCG (vs := [.ref pp, .int (k : Int)]) (ea_cons (ev_var rfl) (ea_cons (ev_var rfl) ea_nil)) fun H10 e10 => ⟨B, pp, 2 ^ (top - i), k, chk ns g (top - i), rfl, hP.ex e10, by omega, hnb, fun j _ => Nat.le_trans (chk_len ..) (by omega), fun t tc rs H11 e11 gt gtc hcod => ⟨t, _, rfl, st_of gt, rfl, .ref tc, [_], rfl, _, [], rfl, rfl, ?_⟩⟩
      have e911 := e10.trans e11
      refine s_appE (S := fun v G => QdAt G v (qdF ns g k (top - i))) (e911 _ _ gL) (ev_var rfl) (fun H1 e Q' q' => ?_) (by omega) fun v H12 e12 hv => ?_
      · exact eu_tup (vs := [.int (totF (chk ns g (top - i)) (2 ^ (top - i)) k), .int (k : Int), .int ((top - i : Nat) : Int), .ref tc]) (ea_cons (ev_var rfl) (ea_cons (ev_var rfl) (ea_cons (ev_var rfl) (ea_cons (ev_var rfl) ea_nil)))) (Nat.le_of_ble_eq_true rfl) H1 e _ fun p H2 hp e2 g2 => q' (.ref p) H2 e2 ⟨p, tc, rs, rfl, g2, (e.trans e2) _ _ gtc, hcod.tx (TxH.ex (e.trans e2))⟩
      · have e912 := e911.trans e12
        have hT : TxH H12 (upd H12 c (.lst (L ++ [v]))) := TxH.upd (e912 _ _ gL)
        refine ⟨L ++ [v], some (.int (k : Int)), some (.ref tc), some (.int (totF (chk ns g (top - i)) (2 ^ (top - i)) k)), rfl, (f.trans (FrO.ex e912)).upd, upd_same, ?_, (hP.ex e912).fro gc (FrO.upd (FrO.ex (Ex.refl _)))⟩
        rw [row_succ, ← List.append_assoc]
        exact QdsAt.snoc (hv.tx hT) ((hL.tx (TxH.ex e912)).tx hT)
    · rintro σ' H9 ⟨L, z10, z11, z12, rfl, f, gL, hL, hP⟩
      rw [List.length_map, List.length_range] at hL
      refine s_asgCG (vs := [.ref pp]) (ea_cons (ev_var rfl) ea_nil) fun H10 e10 => ⟨B, pp, 2 ^ (top - i), chk ns g (top - i), rfl, hP.ex e10, hnb, fun p2 H11 e11 hP2 => ⟨p2, L, some (.int ((top - i : Nat) : Int)), z10, z11, z12, rfl, f.trans (FrO.ex (e10.trans e11)), (e10.trans e11) _ _ gL, hL.tx (TxH.ex (e10.trans e11)), fun hle => ?_⟩⟩
      obtain ⟨d, hd⟩ : ∃ d, top - i = d + 1 := ⟨top - i - 1, by omega⟩
      have hb := hP2.back (c := c) (o := .lst L) (f.trans (FrO.ex e10)) (e10 _ _ gL)
      rw [hd] at hb
      rw [show top - (i + 1) = d by omega]
      exact hb.congr (two_half d) fun k _ => chk_join (by rw [← hsd]; exact legP_le (top - (d + 1)) (by rw [show d + 1 + (top - (d + 1)) = top by omega]; exact hleg)) k
  · rintro σ' H8 ⟨pp, L, z9, z10, z11, z12, rfl, f, gL, hL, -⟩
    obtain ⟨q0, qs, hqs⟩ : ∃ q0 qs, qsF ns g top M (top + 1) = q0 :: qs := by
      have h : qdF ns g 0 top ∈ qsF ns g top M (top + 1) := mem_qs.mpr ⟨0, 0, by omega, by omega, rfl⟩
      cases e : qsF ns g top M (top + 1) with
      | nil => rw [e] at h; cases h
      | cons x r => exact ⟨x, r, rfl⟩
    refine q_asgCB1 ?_
    refine ev_go (ev_var (v := .ref c) rfl) fun H9 e9 => ?_
    refine ⟨c, L, q0, qs, rfl, sq_of (e9 _ _ gL), by rw [← hqs]; exact (hL.tx (TxH.ex e9)).d, by rw [← hqs]; exact qs_pw ns g top M _ (Nat.le_refl _), fun i v z hv hzi hm => ?_⟩
    rw [← hqs] at hzi hm
    have hz := List.mem_of_getElem? hzi
    obtain ⟨tp, tc, rs, rfl, gtp, gtc, hC⟩ := (hL.at hv hzi).tx (TxH.ex e9)
    have hbest : BestQ ns g hi M z := by
      obtain ⟨j, m, hj, hm', rfl⟩ := mem_qs.mp hz
      refine ⟨m, top - j, ⟨hm', by omega, by rw [← hsd]; exact legP_le j (by rw [show top - j + j = top by omega]; exact hleg)⟩, rfl, fun m' p' hl => ?_⟩
      rw [← hsd] at hl
      have hp' := ht4 p' (Nat.lt_succ_of_le hl.2.1) (decide_eq_true hl.2.2)
      exact hm _ (mem_qs.mpr ⟨top - p', m', by omega, hl.1, by rw [show top - (top - p') = p' by omega]⟩)
    refine ⟨tp, _, rfl, st_of gtp, rfl, .int z.b, [.int (z.m : Int), .int (z.p : Int), .ref tc], rfl, .int (z.m : Int), [.int (z.p : Int), .ref tc], rfl, .int (z.p : Int), [.ref tc], rfl, .ref tc, [], rfl, rfl, ?_⟩
    refine ⟨.int (z.m : Int), rfl, .int (z.p : Int), rfl, .ref tc, rfl, sz_of (show 3 ≤ 100000 by decide), fun t1 h1 => ⟨.int z.b, rfl, sz_of (show 2 ≤ 100000 by decide), fun t h => ?_⟩⟩
    have x1 : Ex H9 (upd H9 t1 (.tup [.int (z.m : Int), .int (z.p : Int), .ref tc])) := Ex.new h1
    have x2 := Ex.new (o := .tup [.ref t1, .int z.b]) h
    exact q _ _ z ((FrO.after f e14 hcH).trans (e9.trans (x1.trans x2))) hbest ⟨t, t1, tc, rs, rfl, upd_same, x2 _ _ upd_same, (x1.trans x2) _ _ gtc, hC.tx (TxH.ex (x1.trans x2))⟩

theorem bitsN_valL : ∀ l : List Bool, bitsN l.length (valL l) = l
  | [] => rfl
  | b :: r => by
    have ih := bitsN_valL r
    rw [valL_cons, List.length_cons, Nat.add_comm r.length 1, bitsN_cat (valL_lt r), ih]
    cases b <;> rfl
theorem us_any : ∀ (k : Nat) (B : List Bool), B.length = 8 * k → ∃ us : List Nat, us.flatMap bits8 = B ∧ ∀ u ∈ us, u < 256
  | 0, B, h => ⟨[], by rw [List.flatMap_nil, List.eq_nil_of_length_eq_zero h], fun u hu => by cases hu⟩
  | k + 1, B, h => by
    obtain ⟨us, h1, h2⟩ := us_any k (B.drop 8) (by rw [List.length_drop]; omega)
    have hl : (B.take 8).length = 8 := by rw [List.length_take]; omega
    have hb := bitsN_valL (B.take 8)
    have hv := valL_lt (B.take 8)
    rw [hl] at hb hv
    refine ⟨valL (B.take 8) :: us, ?_, fun u hu => ?_⟩
    · rw [List.flatMap_cons, h1, bits8_N, hb, List.take_append_drop]
    · rcases List.mem_cons.mp hu with rfl | hu
      · exact hv
      · exact h2 u hu
theorem us_pad (ms : List Bool) : ∃ us : List Nat, us.flatMap bits8 = ms ++ List.replicate (padN ms.length) false ∧ (∀ u ∈ us, u < 256) ∧ 8 * us.length = ms.length + padN ms.length ∧ padN ms.length ≤ 7 := by
  have hp : padN ms.length ≤ 7 := by unfold padN; omega
  have hl : (ms ++ List.replicate (padN ms.length) false).length = 8 * ((ms.length + padN ms.length) / 8) := by
    rw [List.length_append, List.length_replicate]
    unfold padN
    omega
  obtain ⟨us, h1, h2⟩ := us_any _ _ hl
  refine ⟨us, h1, h2, ?_, hp⟩
  have := congrArg List.length h1
  rw [bits_flat_len, List.length_append, List.length_replicate] at this
  exact this

theorem q_mk_r0 {C : Addr} {E : XK} {σ : L2.St} {H : Hp} {D : Ends} {tz : TS} {i : Nat} {t1 : TE} {xs : List V} (h1 : EvL t1 σ H xs) (k : ∀ a d H', H a = none → a ≠ d → H d = none → Ex H H' → H' d = some (.lst xs) → RdAt C H' a d 0 → tz D (σ.set i (some (.ref a))) H') : tSeq (tAsg (tMake C (sp_rinit C) [.int 0] E (tCons t1 tNil)) (gName i)) tz D σ H :=
  h1 H (Ex.refl H) _ fun d H1 hd e1 g1 => fun x dx hx hdx hne => by
    have hxd : d ≠ x := fresh_ne hx g1
    have hex : ∀ b o, H1 b = some o → upd (upd H1 dx (HO.own x)) x (HO.ins C dx []) b = some o := fun b o hb => by
      rw [upd_ne (fresh_ne hx hb), upd_ne (fresh_ne hdx hb)]
      exact hb
    refine ⟨x, dx, d, 0, rfl, upd_same, by decide, fun H' hF hR => ⟨rfl, k x d H' ?_ hxd.symm hd (fun b o hb => hF b o (fresh_ne hx (e1 _ _ hb)) (hex b o (e1 _ _ hb))) (hF d _ hxd (hex d _ g1)) hR⟩⟩
    cases h : H x with
    | none => rfl
    | some o => rw [e1 _ _ h] at hx; cases hx

theorem q_mkw {C : Addr} {E : XK} {σ : L2.St} {H : Hp} {D : Ends} {tz : TS} {i : Nat} (k : ∀ a L H', H a = none → H L = none → Ex H H' → WrAt C H' a L [] → tz D (σ.set i (some (.ref a))) H') : tSeq (tAsg (tMake C (sp_winit C) [] E tNil) (gName i)) tz D σ H := mk_w (σ := σ) (Q := fun x H' => tz D (σ.set i (some x)) H') k
theorem ev_wmany {σ : L2.St} {H : Hp} {to : TE} {E : XK} {C a L : Addr} {ms : List Bool} (h : Ev to σ H (.ref a)) (hW : WrAt C H a L ms) : Ev (tMeth C "bits_written" (sp_wmany C) [] E to tNil) σ H (.int (ms.length : Int)) := by
  obtain ⟨dx, ws, hd, n, ha, _⟩ := hW.len
  exact ev_mth h ha rfl ea_nil fun H1 e Q q _ => ⟨a, L, ms, rfl, hW.ex e, q⟩

def cdD (c : Cd) : PyData := .tuple [.str (kstr c.raw), .int (c.num : Int)]
def planD (m n : Nat) (cds : List Cd) : PyData := .tuple [.int (m : Int), .int (n : Int), .tuple (cds.map cdD)]
theorem canLay_cds : ∀ cs : List Cd, PyData.canLayAll0 (cs.map cdD) = true
  | [] => rfl
  | c :: r => by
    have ih := canLay_cds r
    obtain ⟨raw, n⟩ := c
    cases raw with
    | true =>
      simp only [List.map_cons, PyData.canLayAll0, ih, cdD, PyData.canLay0]
      decide +kernel
    | false =>
      simp only [List.map_cons, PyData.canLayAll0, ih, cdD, PyData.canLay0]
      decide +kernel
theorem depth_cds : ∀ cs : List Cd, PyData.depthAll (cs.map cdD) ≤ 3
  | [] => by simp [PyData.depthAll]
  | c :: r => by
    have ih := depth_cds r
    simp only [List.map_cons, PyData.depthAll, cdD, PyData.depth]
    omega
theorem shaped_plan (m n : Nat) (cds : List Cd) : SeqAt.shaped (planD m n cds) = true := by
  have h1 := canLay_cds cds
  have h2 := depth_cds cds
  unfold SeqAt.shaped planD
  rw [Bool.and_eq_true, decide_eq_true_iff]
  refine ⟨by simp only [PyData.canLay0, PyData.canLayAll0, h1, Bool.and_self], ?_⟩
  simp only [PyData.depth, PyData.depthAll]
  omega
theorem dpa_cds {H : Hp} : ∀ (qs : List Addr) (cds : List Cd), qs.length = cds.length → (∀ (i : Nat) q c, qs[i]? = some q → cds[i]? = some c → CdAt H q c) → DpAll K H (qs.map V.ref) (cds.map cdD)
  | [], [], _, _ => .nil
  | q :: qs, c :: cds, hl, h => .cons (.tup (st_of (h 0 q c rfl rfl)) (.cons (.str _) (.cons (.int _) .nil))) (dpa_cds qs cds (by simpa using hl) fun i q' c' h1 h2 => h (i + 1) q' c' h1 h2)
theorem dp_plan {H : Hp} {t tc : Addr} {m n : Nat} {qs : List Addr} {cds : List Cd} (ht : H t = some (.tup [.int (m : Int), .int (n : Int), .ref tc])) (hc : CdsT H tc qs cds) : Dp K H (.ref t) (planD m n cds) := .tup (st_of ht) (.cons (.int _) (.cons (.int _) (.cons (.tup (st_of hc.1) (dpa_cds qs cds hc.2.1 hc.2.2)) .nil)))

/-! ### the best coding as a plan -/
theorem bestN_val (f : Nat → Int) : ∀ i, (bestN f i).1 = f (bestN f i).2
  | 0 => rfl
  | i + 1 => by
    have ih := bestN_val f i
    unfold bestN
    split
    · rfl
    · exact ih
def cdE (ns : List Int) (m : Nat) : Cd := if widI ns ≤ 31 ∧ rawI ns m < (bestN (costI ns m) (14 + 16 * m)).1 then ⟨true, widI ns⟩ else ⟨false, (bestN (costI ns m) (14 + 16 * m)).2⟩
theorem clen_sum (k : Nat) : ∀ ns : List Int, (((ns.map (clenN k)).sum : Nat) : Int) = (ns.length : Int) * (1 + (k : Int)) + sumI ns k
  | [] => by unfold sumI; simp
  | n :: ns => by
    have ih := clen_sum k ns
    have hf : ((((foldI n).toNat / 2 ^ k : Nat)) : Int) = foldI n / 2 ^ k := by rw [pow_cast, Int.natCast_ediv, Int.toNat_of_nonneg (foldI_nn n)]
    unfold sumI at *
    rw [List.map_cons, List.map_cons, List.sum_cons, List.sum_cons, List.length_cons, Int.natCast_add, ih]
    unfold clenN
    rw [Int.natCast_add, Int.natCast_add, hf, Int.natCast_add, Int.add_mul]
    omega
theorem entF_cd (ns : List Int) (m : Nat) : (entF ns m).1 = (kstr (cdE ns m).raw, ((cdE ns m).num : Int)) ∧ (entF ns m).2 = ((pbits m (cdE ns m) ns : Nat) : Int) := by
  unfold entF cdE
  split
  · refine ⟨rfl, ?_⟩
    unfold rawI pbits
    rw [if_pos rfl, Nat.mul_comm (widI ns)]
    rw [Int.natCast_add, Int.natCast_add, Int.natCast_add, Int.natCast_mul]
    omega
  · refine ⟨rfl, ?_⟩
    show (bestN (costI ns m) (14 + 16 * m)).1 = _
    rw [bestN_val]
    generalize (bestN (costI ns m) (14 + 16 * m)).2 = k
    unfold costI pbits
    rw [if_neg (show ¬ false = true by decide), Int.natCast_add, clen_sum, Int.natCast_add]
    rfl
theorem cdE_ok (ns : List Int) {m : Nat} (hm : m ≤ 1) : cdOk m (cdE ns m) := by
  unfold cdE
  have hb := bestN_le (costI ns m) (14 + 16 * m)
  split
  · rename_i h
    exact ⟨h.1, fun z => by cases z⟩
  · exact ⟨by show (bestN (costI ns m) (14 + 16 * m)).2 ≤ 31; omega, fun _ => by show (bestN (costI ns m) (14 + 16 * m)).2 < 15 + 16 * m; omega⟩
theorem sumI_mem {ns : List Int} {v : Int} (k : Nat) (h : v ∈ ns) : foldI v / 2 ^ k ≤ sumI ns k := by
  induction ns with
  | nil => cases h
  | cons a r ih =>
    have hp := pow_pos2 k
    have h0 : ∀ x : Int, 0 ≤ foldI x / 2 ^ k := fun x => Int.ediv_nonneg (foldI_nn x) (by omega)
    have hs : 0 ≤ sumI r k := by
      unfold sumI
      clear ih h
      induction r with
      | nil => exact Int.le_refl _
      | cons b t ih2 => rw [List.map_cons, List.sum_cons]; have := h0 b; omega
    have e : sumI (a :: r) k = foldI a / 2 ^ k + sumI r k := by unfold sumI; rw [List.map_cons, List.sum_cons]
    rw [e]
    have := h0 a
    rcases List.mem_cons.mp h with rfl | h
    · omega
    · have := ih h
      omega
theorem cdE_val {ns : List Int} {m : Nat} (hl : ns.length ≤ 600) (hb : ∀ v ∈ ns, -1073741824 < v ∧ v < 1073741824) : ∀ v ∈ ns, valW (cdE ns m) v := fun v hv => by
  have hw31 : widI ns ≤ 31 := widI_le.mpr fun n hn => by
    have := hb n hn
    unfold foldI
    show _ < (2147483648 : Int)
    split <;> omega
  have hfl : foldI v ≤ 4294967294 := by have := hb v hv; unfold foldI; split <;> omega
  unfold valW cdE
  by_cases h : widI ns ≤ 31 ∧ rawI ns m < (bestN (costI ns m) (14 + 16 * m)).1
  · rw [if_pos h]
    rw [if_pos rfl]
    have hf := widI_le.mp (Nat.le_refl (widI ns)) v hv
    show fitR (widI ns) v = true
    generalize widI ns = w at *
    unfold fitR
    cases w with
    | zero =>
      rw [if_pos rfl]
      have : foldI v < 1 := hf
      exact decide_eq_true (by unfold foldI at this; split at this <;> omega)
    | succ w =>
      rw [if_neg (by omega), Nat.add_sub_cancel]
      rw [pow_cast, Nat.pow_succ] at hf
      generalize 2 ^ w = q at *
      rw [Bool.and_eq_true]
      unfold foldI at hf
      exact ⟨decide_eq_true (by split at hf <;> omega), decide_eq_true (by split at hf <;> omega)⟩
  · rw [if_neg h, if_neg (show ¬ false = true by decide)]
    have hc : (bestN (costI ns m) (14 + 16 * m)).1 ≤ rawI ns m := by
      by_cases h2 : rawI ns m < (bestN (costI ns m) (14 + 16 * m)).1
      · exact absurd ⟨hw31, h2⟩ h
      · omega
    rw [bestN_val] at hc
    show (foldI v).toNat / 2 ^ (bestN (costI ns m) (14 + 16 * m)).2 ≤ 20000 ∧ _
    generalize (bestN (costI ns m) (14 + 16 * m)).2 = k at *
    have hs := sumI_mem k hv
    have hq : ((((foldI v).toNat / 2 ^ k : Nat)) : Int) = foldI v / 2 ^ k := by rw [pow_cast, Int.natCast_ediv, Int.toNat_of_nonneg (foldI_nn v)]
    unfold costI rawI at hc
    have h1 : (ns.length : Int) * (widI ns : Int) ≤ 600 * 31 := Int.mul_le_mul (by omega) (by omega) (by omega) (by decide)
    have h2 : (0 : Int) ≤ (ns.length : Int) * (1 + (k : Int)) := Int.mul_nonneg (by omega) (by omega)
    exact ⟨by omega, hfl⟩
def cdsE (ns : List Int) (g m p : Nat) : List Cd := (List.range (2 ^ p)).map fun k => cdE (chk ns g p k) m
theorem cdsE_len (ns : List Int) (g m p : Nat) : (cdsE ns g m p).length = 2 ^ p := by unfold cdsE; rw [List.length_map, List.length_range]
theorem cdsE_at {ns : List Int} {g m p k : Nat} (h : k < 2 ^ p) : (cdsE ns g m p)[k]? = some (cdE (chk ns g p k) m) := by unfold cdsE; rw [List.getElem?_map, List.getElem?_range h]; rfl
theorem cdsE_getD {ns : List Int} {g m p k : Nat} (h : k < 2 ^ p) : (cdsE ns g m p).getD k ⟨false, 0⟩ = cdE (chk ns g p k) m := by rw [List.getD_eq_getElem?_getD, cdsE_at h]; rfl
theorem chk_part {ns : List Int} {g p k : Nat} (hw : g ≤ (ns.length + g) / 2 ^ p) : chk ns g p k = partL ns g ((ns.length + g) / 2 ^ p) k := by
  unfold chk cutN partL
  have := start_next (i := k) hw
  unfold startN at *
  generalize (ns.length + g) / 2 ^ p = w at *
  rw [show (k + 1) * w - g - (k * w - g) = sizeN g w k by omega]
theorem tot_bits {ns : List Int} {g m p : Nat} (hw : g ≤ (ns.length + g) / 2 ^ p) : totF (chk ns g p) (2 ^ p) m = ((rbits m (cdsE ns g m p) ns g ((ns.length + g) / 2 ^ p) (2 ^ p) : Nat) : Int) := by
  have h : ∀ i, i ≤ 2 ^ p → 6 + ((List.range i).map fun k => (entF (chk ns g p k) m).2).sum = ((rbits m (cdsE ns g m p) ns g ((ns.length + g) / 2 ^ p) i : Nat) : Int) := fun i => by
    induction i with
    | zero => intro _; rfl
    | succ i ih =>
      intro hi
      have ih := ih (by omega)
      rw [List.range_succ, List.map_append, List.sum_append]
      unfold rbits
      rw [cdsE_getD (by omega), ← chk_part hw, Int.natCast_add, ← ih, ← (entF_cd (chk ns g p i) m).2]
      rw [List.map_cons, List.map_nil, List.sum_cons, List.sum_nil]
      omega
  exact h _ (Nat.le_refl _)
theorem refs_of : ∀ rs : List V, (∀ i, i < rs.length → ∃ t : Addr, rs[i]? = some (.ref t)) → ∃ qs : List Addr, rs = qs.map V.ref
  | [], _ => ⟨[], rfl⟩
  | v :: r, h => by
    obtain ⟨t, ht⟩ := h 0 (by simp)
    cases ht
    obtain ⟨qs, rfl⟩ := refs_of r fun i hi => by
      have := h (i + 1) (by rw [List.length_cons]; omega)
      rwa [List.getElem?_cons_succ] at this
    exact ⟨t :: qs, rfl⟩
theorem cods_cds {H : Hp} {tc : Addr} {rs : List V} {ns : List Int} {g m p : Nat} (ht : H tc = some (.tup rs)) (h : CodAt H rs (codsF (chk ns g p) (2 ^ p) m)) : ∃ qs, CdsT H tc qs (cdsE ns g m p) := by
  have hlen : (codsF (chk ns g p) (2 ^ p) m).length = 2 ^ p := by unfold codsF; rw [List.length_map, List.length_range]
  have hat : ∀ i, i < 2 ^ p → (codsF (chk ns g p) (2 ^ p) m)[i]? = some (entF (chk ns g p i) m).1 := fun i hi => by unfold codsF; rw [List.getElem?_map, List.getElem?_range hi]; rfl
  obtain ⟨qs, rfl⟩ := refs_of rs fun i hi => by
    obtain ⟨t, h1, _⟩ := h.2 i _ (hat i (by have := h.1; omega))
    exact ⟨t, h1⟩
  have hl := h.1
  rw [List.length_map, hlen] at hl
  refine ⟨qs, ht, by rw [cdsE_len, hl], fun i q c h1 h2 => ?_⟩
  have hi : i < 2 ^ p := by have := (List.getElem?_eq_some_iff.mp h1).1; omega
  rw [cdsE_at hi] at h2
  cases h2
  obtain ⟨t, h3, h4⟩ := h.2 i _ (hat i hi)
  rw [List.getElem?_map, h1] at h3
  cases h3
  rw [(entF_cd (chk ns g p i) m).1] at h4
  exact h4
theorem cdsE_ok {ns : List Int} {g m p : Nat} (hm : m ≤ 1) : ∀ c ∈ cdsE ns g m p, cdOk m c := fun c hc => by
  unfold cdsE at hc
  obtain ⟨k, _, rfl⟩ := List.mem_map.mp hc
  exact cdE_ok _ hm
theorem cdsE_val {ns : List Int} {g m p : Nat} (hw : g ≤ (ns.length + g) / 2 ^ p) (hl : ns.length ≤ 600) (hb : ∀ v ∈ ns, -1073741824 < v ∧ v < 1073741824) : ∀ i, i < 2 ^ p → ∀ v ∈ partL ns g ((ns.length + g) / 2 ^ p) i, valW ((cdsE ns g m p).getD i ⟨false, 0⟩) v := fun i hi v hv => by
  rw [cdsE_getD hi]
  rw [← chk_part hw] at hv
  refine cdE_val (by have := chk_len ns g p i; omega) (fun x hx => hb x ?_) v hv
  unfold chk cutN at hx
  exact List.mem_of_mem_drop (List.mem_of_mem_take hx)
theorem sum_le {α : Type} {f : α → Nat} {b : Nat} : ∀ l : List α, (∀ x ∈ l, f x ≤ b) → (l.map f).sum ≤ b * l.length
  | [], _ => Nat.le_refl _
  | x :: l, h => by
    have h1 := sum_le l fun y hy => h y (List.mem_cons_of_mem _ hy)
    have h2 := h x (List.mem_cons_self ..)
    rw [List.map_cons, List.sum_cons, List.length_cons, Nat.mul_succ]
    omega
theorem rb_le {ns : List Int} {g m p n : Nat} (hm : m ≤ 1) (hl : ns.length = n - g) (hn : n ≤ 48) (hw : g < (ns.length + g) / 2 ^ p) (hb : ∀ v ∈ ns, -1073741824 < v ∧ v < 1073741824) : rbits m (cdsE ns g m p) ns g ((ns.length + g) / 2 ^ p) (2 ^ p) ≤ 100000 := by
  have hpb : ∀ k, k < 2 ^ p → pbits m (cdE (chk ns g p k) m) (chk ns g p k) ≤ 10 + 31 * 48 := fun k hk => by
    have hck := chk_len ns g p k
    have hw31 : widI (chk ns g p k) ≤ 31 := widI_le.mpr fun x hx => by
      have := hb x (by unfold chk cutN at hx; exact List.mem_of_mem_drop (List.mem_of_mem_take hx))
      unfold foldI
      show _ < (2147483648 : Int)
      split <;> omega
    have he := (entF_cd (chk ns g p k) m).2
    have h2 : ((chk ns g p k).length : Int) * (widI (chk ns g p k) : Int) ≤ 48 * 31 := Int.mul_le_mul (by omega) (by omega) (by omega) (by decide)
    have hle : (entF (chk ns g p k) m).2 ≤ rawI (chk ns g p k) m := by
      unfold entF
      split
      · exact Int.le_refl _
      · rename_i h
        show (bestN (costI (chk ns g p k) m) (14 + 16 * m)).1 ≤ _
        by_cases h3 : rawI (chk ns g p k) m < (bestN (costI (chk ns g p k) m) (14 + 16 * m)).1
        · exact absurd ⟨hw31, h3⟩ h
        · omega
    unfold rawI at hle
    omega
  have h : ∀ i, i ≤ 2 ^ p → rbits m (cdsE ns g m p) ns g ((ns.length + g) / 2 ^ p) i ≤ 6 + 1498 * i := fun i => by
    induction i with
    | zero => intro _; unfold rbits; omega
    | succ i ih =>
      intro hi
      have ih := ih (by omega)
      have := hpb i (by omega)
      unfold rbits
      rw [cdsE_getD (by omega), ← chk_part (Nat.le_of_lt hw)]
      omega
  have h1 := h _ (Nat.le_refl _)
  have h2 : 2 ^ p ≤ ns.length + g := by
    have h3 : 1 ≤ (ns.length + g) / 2 ^ p := by omega
    have h4 := (Nat.le_div_iff_mul_le (Nat.two_pow_pos p)).mp h3
    omega
  have h5 : ns.length + g ≤ 48 ∨ n < g := by omega
  rcases h5 with h5 | h5
  · omega
  · have h6 : ns.length = 0 := by omega
    rw [h6, Nat.zero_add] at hw
    have := Nat.div_le_self g (2 ^ p)
    omega

theorem q_asgKN {t tk : TA} {vs zs : List V} {n m i : Nat} {sp : Sp} {gV : List V → List V → List V} {E : XK} {tz : TS} {D : Ends} {σ : L2.St} {H : Hp} (h : EvA t σ H vs) (hz : EvA tk σ H zs) (l1 : vs.length = n) (l2 : zs.length = m) (k : ∀ H1, Ex H H1 → sp (gV vs zs) H1 (fun x H2 => tz D (σ.set i (some x)) H2) E) : tSeq (tAsg (tCallN n m sp gV E t tk) (gName i)) tz D σ H := h H (Ex.refl _) _ fun H1 e1 => hz H1 e1 _ fun H2 e2 => ⟨l1, l2, k H2 (e1.trans e2)⟩
theorem q_asgKL {t1 t2 : TE} {tk : TA} {xs zs : List V} {y : V} {m i : Nat} {sp : Sp} {gV : List V → List V → List V} {E : XK} {tz : TS} {D : Ends} {σ : L2.St} {H : Hp} (h1 : EvL t1 σ H xs) (h2 : Ev t2 σ H y) (hz : EvA tk σ H zs) (l2 : zs.length = m) (k : ∀ p H1, H p = none → Ex H H1 → H1 p = some (.lst xs) → sp (gV [.ref p, y] zs) H1 (fun x H2 => tz D (σ.set i (some x)) H2) E) : tSeq (tAsg (tCallN 2 m sp gV E (tCons t1 (tCons t2 tNil)) tk) (gName i)) tz D σ H := h1 H (Ex.refl _) _ fun p H1 hp e1 g1 => h2 H1 e1 _ fun H2 e2 => hz H2 (e1.trans e2) _ fun H3 e3 => ⟨rfl, l2, k p H3 hp (e1.trans (e2.trans e3)) ((e2.trans e3) _ _ g1)⟩
theorem q_dropC4 {t1 t2 t3 t4 : TE} {x y z : V} {xs dvs : List V} {sp : Sp} {E : XK} {tz : TS} {D : Ends} {σ : L2.St} {H : Hp} (h1 : Ev t1 σ H x) (h2 : Ev t2 σ H y) (h3 : EvL t3 σ H xs) (h4 : Ev t4 σ H z) (k : ∀ p H1, H p = none → Ex H H1 → H1 p = some (.lst xs) → sp ([x, y, .ref p, z] ++ dvs) H1 (fun _ H2 => tz D σ H2) E) : tSeq (tDrop (tCall sp dvs E (tCons t1 (tCons t2 (tCons t3 (tCons t4 tNil)))))) tz D σ H :=
  h1 H (Ex.refl _) _ fun H1 e1 => h2 H1 e1 _ fun H2 e2 => h3 H2 (e1.trans e2) _ fun p H3 hp e3 g3 => h4 H3 (e1.trans (e2.trans e3)) _ fun H4 e4 => k p H4 (fresh_back (e1.trans e2) hp) (e1.trans (e2.trans (e3.trans e4))) (e4 _ _ g3)
theorem ev_isiTup {σ : L2.St} {H : Hp} {ta : TE} {a : Addr} {xs : List V} (ha : Ev ta σ H (.ref a)) (h : H a = some (.tup xs)) : Ev (tCB (rIsi K) (tCons ta (tCons (tC (.ty "tuple")) tNil))) σ H (.bl true) := ev_isi ha (isi_tup h) kit_tt
theorem ev_lenTup {σ : L2.St} {H : Hp} {ta : TE} {a : Addr} {xs : List V} (ha : Ev ta σ H (.ref a)) (h : H a = some (.tup xs)) : Ev (tCB (rLenS K) (tCons ta tNil)) σ H (.int (xs.length : Int)) := ev_lenT (Ev.p ha (st_of h))
def sp_lints : Sp := fun vs H Q _ => ∃ (p : Addr) (rs : List Int), vs = [.ref p] ∧ H p = some (.lst (rs.map V.int)) ∧ rs.length ≤ 40000 ∧ RetV (.bl true) H Q
theorem ok_law_integers (T : TX K mg) : FnOk P w K mg base CX0 2 T.a_law_integers T.d_law_integers ["values"] sp_lints := by
  refine T.F_law_integers.ok sc_law_integers (fun vs H Q E h => by obtain ⟨p, rs, rfl, _⟩ := h; rfl) (fun cdv A outer s H vs Q E hr h => ?_)
  obtain ⟨p, rs, rfl, hp, hl, k⟩ := h
  refine ⟨_, (pss_cons (ps_if (pt_not (pt_val (pe_callB (r := rIsi K) call_isi (by rfl) T.m_isinstance PyProof.Rows.boot_isinstance (pa_cons (pv 0) (pa_cons (pe_bltn (v := V.ty "list") (by rfl) T.m_list PyProof.Rows.boot_list rfl) pa_nil))))) (pss_one (ps_ret pe_bl)) pss_nil)
      (pss_one (ps_ret (pe_callB (r := rAll K) (cr_all rfl) (by rfl) T.m_all PyProof.Rows.boot_all (pa_cons (pe_lc (own := [("value", 1)]) (g := gName 1) (tt := tYes) rfl sc_law_integers.nd (pi_list (pv 0)) (blkOk_by (N := ["values", "value"]) (sc := defScope s_law_integers) (by decide +kernel)) (fun _ _ _ _ _ => pg_name (i := 1) sc_law_integers.nd rfl (Or.inl rfl)) (fun _ _ _ _ _ => pts_nil) (fun _ _ _ _ _ => (pe_call (ok_law_integer T) (hr.mono (by decide)) (by rfl) T.g_law_integer T.F_law_integer.kp T.b_law_integer .nil pass0 (pa_cons (pv 1) pa_nil)))) pa_nil))))), ?_⟩
  refine q_when (b := false) (et_is (et_not (et_B (ev_isiL (ev_var rfl) hp))) rfl) (fun hb => by cases hb) fun _ H1 e1 => ?_
  refine s_ret (v := .bl true) (ev_all (bs := rs.map fun _ => true) (EvR.s (EvL.r (EvL.is (xs := rs.map fun _ => V.bl true) (el_lcS _ (Ev.s (ev_var rfl) (sq_of (e1 _ _ hp))) (by rw [List.length_map, List.length_map]) (by rw [List.length_map]; omega) (fun _ => rfl) fun i x H2 e2 hx => ?_) (by rw [List.map_map]; rfl)))) ?_) fun H2 e2 => k H2 (e1.trans e2)
  · obtain ⟨v, hv, hi, rfl⟩ := int_at hx
    exact ⟨_, by rw [List.getElem?_map, hv]; rfl, ev_isint (ev_var rfl)⟩
  · rw [List.all_map]
    exact List.all_eq_true.mpr fun _ _ => rfl
def sp_law (K : PySem.W.Frag) : Sp := fun vs H Q _ => ∃ (a : Addr) (ns : List Int), vs = [.ref a] ∧ SqL K H a (ns.map V.int) ∧ ns.length ≤ 63 ∧ ∀ H', Q (.bl true) H'
theorem ok_law (T : TX K mg) : FnOk P w K mg base CX0 8 T.a_law T.d_law ["script"] (sp_law K) := by
  refine T.F_law.ok sc_law (fun vs H Q E h => by obtain ⟨a, ns, rfl, _⟩ := h; rfl) (fun cdv A outer s H vs Q E hr h => ?_)
  obtain ⟨a, ns, rfl, hS, hlen, k⟩ := h
  refine ⟨_, (pss_cons (ps_set (i := 1) sc_law.nd rfl (Or.inl rfl) (pe_call (ok_law_cell T) (hr.mono (by decide)) (by rfl) T.g_law_cell T.F_law_cell.kp T.b_law_cell .nil pass0 (pa_cons (pv 0) (pa_cons pe_int pa_nil))))
      (pss_cons (ps_set (i := 2) sc_law.nd rfl (Or.inl rfl) (pe_op op_add pe_int (pe_op op_mod (pe_callTy call_int1 (by rfl) T.m_int PyProof.Rows.boot_int (pa_cons (pv 1) pa_nil)) pe_int)))
      (pss_cons (ps_set (i := 3) sc_law.nd rfl (Or.inl rfl) (pe_op op_mod (pe_callTy call_int1 (by rfl) T.m_int PyProof.Rows.boot_int (pa_cons (pe_call (ok_law_cell T) (hr.mono (by decide)) (by rfl) T.g_law_cell T.F_law_cell.kp T.b_law_cell .nil pass0 (pa_cons (pv 0) (pa_cons pe_int pa_nil))) pa_nil)) (pv 2)))
      (pss_cons (ps_set (i := 4) sc_law.nd rfl (Or.inl rfl) (pe_call (ok_law_residuals T) (hr.mono (by decide)) (by rfl) T.g_law_residuals T.F_law_residuals.kp T.b_law_residuals .nil pass0 (pa_cons (pe_call (ok_law_cell T) (hr.mono (by decide)) (by rfl) T.g_law_cell T.F_law_cell.kp T.b_law_cell .nil pass0 (pa_cons (pv 0) (pa_cons pe_int pa_nil))) (pa_cons (pe_op op_sub (pv 2) (pv 3)) (pa_cons (pe_op op_mod (pe_op op_fdivW (pe_callTy call_int1 (by rfl) T.m_int PyProof.Rows.boot_int (pa_cons (pv 1) pa_nil)) pe_int) pe_int) pa_nil)))))
      (pss_cons (ps_set (i := 5) sc_law.nd rfl (Or.inl rfl) (pe_cmpR op_eq (pe_op op_mod (pe_callTy call_int1 (by rfl) T.m_int PyProof.Rows.boot_int (pa_cons (pe_call (ok_law_cell T) (hr.mono (by decide)) (by rfl) T.g_law_cell T.F_law_cell.kp T.b_law_cell .nil pass0 (pa_cons (pv 0) (pa_cons pe_int pa_nil))) pa_nil)) pe_int) pe_int (nomark _)))
      (pss_cons (ps_set (i := 6) sc_law.nd rfl (Or.inl rfl) (pe_op op_mod (pe_op op_fdivW (pe_callTy call_int1 (by rfl) T.m_int PyProof.Rows.boot_int (pa_cons (pe_call (ok_law_cell T) (hr.mono (by decide)) (by rfl) T.g_law_cell T.F_law_cell.kp T.b_law_cell .nil pass0 (pa_cons (pv 0) (pa_cons pe_int pa_nil))) pa_nil)) pe_int) pe_int))
      (pss_cons (ps_set (i := 7) sc_law.nd rfl (Or.inl rfl) (pe_callN (ok_best_coding T) (hr.mono (by decide)) (by rfl) T.g_best_coding T.F_best_coding.kp T.k2_highest_wide_best_coding pass0 (pa_cons (pe_callTy (r := rListS K) call_list_of (by rfl) T.m_list PyProof.Rows.boot_list (pa_cons (pv 4) pa_nil)) (pa_cons (pv 3) pa_nil)) (pk_cons (pe_op op_mod (pe_callTy call_int1 (by rfl) T.m_int PyProof.Rows.boot_int (pa_cons (pe_call (ok_law_cell T) (hr.mono (by decide)) (by rfl) T.g_law_cell T.F_law_cell.kp T.b_law_cell .nil pass0 (pa_cons (pv 0) (pa_cons pe_int pa_nil))) pa_nil)) pe_int) (pk_cons (pv 5) pk_nil))))
      (pss_cons (ps_if (PW.pt (pw_or (pt_not (pt_val (pe_callB (r := rIsi K) call_isi (by rfl) T.m_isinstance PyProof.Rows.boot_isinstance (pa_cons (pv 7) (pa_cons (pe_bltn (v := V.ty "tuple") (by rfl) T.m_tuple PyProof.Rows.boot_tuple rfl) pa_nil))))) (pw_or1 (pt_cmpR op_ne (pe_callB (r := rLenS K) call_len_seq (by rfl) T.m_len PySem.boot_len (pa_cons (pv 7) pa_nil)) pe_int (nomark _))))) (pss_one (ps_ret pe_bl)) pss_nil)
      (pss_cons (ps_set (i := 8) sc_law.nd rfl (Or.inl rfl) (pe_ix (r := rIxT K) ix_tup (pv 7) pe_int (fun _ _ => rfl)))
      (pss_cons (ps_set (i := 9) sc_law.nd rfl (Or.inl rfl) (pe_make0 T.M_BitWriter (ok_BitWriter_init T) (hr.mono (by decide)) (by rfl) T.g_BitWriter T.b_BitWriter_init .nil pass0))
      (pss_cons (ps_expr (pe_meth (pv 9) T.cl_BitWriter T.me_BitWriter_write (ok_BitWriter_write T) (hr.mono (by decide)) T.b_BitWriter_write .nil pass0 (pa_cons (pv 6) (pa_cons pe_int pa_nil))))
      (pss_cons (ps_expr (pe_call (ok_write_residuals T) (hr.mono (by decide)) (by rfl) T.g_write_residuals T.F_write_residuals.kp T.b_write_residuals .nil pass0 (pa_cons (pv 9) (pa_cons (pv 8) (pa_cons (pe_callTy (r := rListS K) call_list_of (by rfl) T.m_list PyProof.Rows.boot_list (pa_cons (pv 4) pa_nil)) (pa_cons (pv 3) pa_nil))))))
      (pss_cons (ps_if (pt_cmpR op_ne (pe_meth0 (pv 9) T.cl_BitWriter T.me_BitWriter_bits_written (ok_BitWriter_bits_written T) (hr.mono (by decide)) T.b_BitWriter_bits_written .nil pass0) (pe_op op_add (pv 6) (pe_ix (r := rIxT K) ix_tup (pv 7) pe_int (fun _ _ => rfl))) (nomark _)) (pss_one (ps_ret pe_bl)) pss_nil)
      (pss_cons (ps_expr (pe_meth0 (pv 9) T.cl_BitWriter T.me_BitWriter_pad (ok_BitWriter_pad T) (hr.mono (by decide)) T.b_BitWriter_pad .nil pass0))
      (pss_cons (ps_set (i := 10) sc_law.nd rfl (Or.inl rfl) (pe_make T.M_BitReader (ok_BitReader_init T) (hr.mono (by decide)) (by rfl) T.g_BitReader T.b2_BitReader_init T.v2_BitReader_init pass0 (pa_cons (pe_meth0 (pv 9) T.cl_BitWriter T.me_BitWriter_byte_list (ok_BitWriter_byte_list T) (hr.mono (by decide)) T.b_BitWriter_byte_list .nil pass0) pa_nil)))
      (pss_cons (ps_expr (pe_meth (pv 10) T.cl_BitReader T.me_BitReader_read (ok_BitReader_read T) (hr.mono (by decide)) T.b_BitReader_read .nil pass0 (pa_cons (pv 6) pa_nil)))
      (pss_cons (ps_set (i := 11) sc_law.nd rfl (Or.inl rfl) (pe_call (ok_read_residuals T) (hr.mono (by decide)) (by rfl) T.g_read_residuals T.F_read_residuals.kp T.b_read_residuals .nil pass0 (pa_cons (pv 10) (pa_cons (pv 2) (pa_cons (pv 3) pa_nil)))))
      (pss_cons (ps_if (PW.pt (pw_or (pt_not (pt_val (pe_callB (r := rIsi K) call_isi (by rfl) T.m_isinstance PyProof.Rows.boot_isinstance (pa_cons (pv 11) (pa_cons (pe_bltn (v := V.ty "tuple") (by rfl) T.m_tuple PyProof.Rows.boot_tuple rfl) pa_nil))))) (pw_or (pt_cmpR op_ne (pe_callB (r := rLenS K) call_len_seq (by rfl) T.m_len PySem.boot_len (pa_cons (pv 11) pa_nil)) pe_int (nomark _)) (pw_or1 (pt_not (pt_val (pe_call (ok_law_integers T) (hr.mono (by decide)) (by rfl) T.g_law_integers T.F_law_integers.kp T.b_law_integers .nil pass0 (pa_cons (pe_ix (r := rIxT K) ix_tup (pv 11) pe_int (fun _ _ => rfl)) pa_nil)))))))) (pss_one (ps_ret pe_bl)) pss_nil)
      (pss_one (ps_ret (pe_and (pe_cmpR (op_eqD (hu64 hr)) (pe_ix (r := rIxT K) ix_tup (pv 11) pe_int (fun _ _ => rfl)) (pv 8) (nomark _)) (pe_one (pe_cmpR (op_eqD (hu64 hr)) (pe_ix (r := rIxT K) ix_tup (pv 11) pe_int (fun _ _ => rfl)) (pv 4) (nomark _)))))))))))))))))))))))), ?_⟩
  have cell : ∀ (H' : Hp) (σ : L2.St) (E : XK) (i : Int), σ[0]? = some (some (.ref a)) → Ex H H' → 0 ≤ i → Ev (tCall (sp_cell K) [] E (tCons (tVar 0) (tCons (tC (.int i)) tNil))) σ H' (.int (cellI ns i)) := fun H' σ E i hσ e hi => ev_cell (ev_var hσ) (ex_l e hS) ev_c hi
  refine q_asg (cell H _ _ 0 rfl (Ex.refl _) (by decide)) fun H1 e1 => ?_
  generalize cellI ns 0 = c0
  obtain ⟨sz, hsz⟩ : ∃ sz : Nat, 1 + c0 % 48 = (sz : Int) := ⟨(1 + c0 % 48).toNat, by omega⟩
  have hz1 : 1 ≤ sz := by omega
  have hz2 : sz ≤ 48 := by omega
  refine q_asg (v := .int (sz : Int)) (Ev.is (ev_I0 (g := fun i j => .int (i + j)) ev_c (ev_I (ev_int1 (ev_var rfl)) ev_c (by decide))) (congrArg V.int hsz)) fun H2 e2 => ?_
  obtain ⟨dg, hdg⟩ : ∃ dg : Nat, cellI ns 2 % (sz : Int) = (dg : Int) := ⟨(cellI ns 2 % (sz : Int)).toNat, by have := Int.emod_nonneg (cellI ns 2) (show (sz : Int) ≠ 0 by omega); omega⟩
  have hdg1 : dg < sz := by have := Int.emod_lt_of_pos (cellI ns 2) (show (0 : Int) < (sz : Int) by omega); omega
  refine q_asg (v := .int (dg : Int)) (Ev.is (ev_I (ev_int1 (cell H2 _ _ 2 rfl (e1.trans e2) (by decide))) (ev_var rfl) (by show (0 : Int) < _; omega)) (congrArg V.int hdg)) fun H3 e3 => ?_
  have e13 := e1.trans (e2.trans e3)
  refine q_asgC (vs := [.int (cellI ns 1), .int ((sz - dg : Nat) : Int), .int (c0 / 48 % 6)]) (ea_cons (cell H3 _ _ 1 rfl e13 (by decide)) (ea_cons (Ev.is (ev_I0 (g := fun i j => .int (i - j)) (ev_var rfl) (ev_var rfl)) (congrArg V.int (by omega))) (ea_cons (ev_I (ev_I (ev_int1 (ev_var rfl)) ev_c ⟨by decide, by decide⟩) ev_c (by decide)) ea_nil))) fun H4 e4 => ⟨cellI ns 1, c0 / 48 % 6, sz - dg, rfl, by omega, by omega, fun pv ms H5 hpv e5 g5 hml hmb => ?_⟩
  have e15 := e13.trans (e4.trans e5)
  obtain ⟨wd, hwd⟩ : ∃ wd, decide (V.int (cellI ns 4 % 2) = V.int 1) = wd := ⟨_, rfl⟩
  refine q_asg (v := .bl wd) (Ev.is (ev_eq (ev_I (ev_int1 (cell H5 _ _ 4 rfl e15 (by decide))) ev_c (by decide)) ev_c rfl) (congrArg V.bl hwd)) fun H6 e6 => ?_
  obtain ⟨ld, hld⟩ : ∃ ld : Nat, cellI ns 4 / 2 % 8 = (ld : Int) := ⟨(cellI ns 4 / 2 % 8).toNat, by omega⟩
  have hld8 : ld ≤ 8 := by omega
  have e16 := e15.trans e6
  refine q_asg (v := .int (ld : Int)) (Ev.is (ev_I (ev_I (ev_int1 (cell H6 _ _ 4 rfl e16 (by decide))) ev_c ⟨by decide, by decide⟩) ev_c (by decide)) (congrArg V.int hld)) fun H7 e7 => ?_
  show tSeq _ _ _ [some (.ref a), some (.int c0), some (.int (sz : Int)), some (.int (dg : Int)), some (.ref pv), some (.bl wd), some (.int (ld : Int)), none, none, none, none, none] _
  obtain ⟨hi, hhi⟩ : ∃ hi : Nat, cellI ns 3 % 6 = (hi : Int) := ⟨(cellI ns 3 % 6).toNat, by omega⟩
  have e17 := e16.trans e7
  have g7 := (e6.trans e7) _ _ g5
  refine q_asgKL (xs := ms.map V.int) (y := .int (dg : Int)) (zs := [.int (hi : Int), .bl wd]) (el_of (K := K) (Ev.s (ev_var rfl) (sq_of g7))) (ev_var rfl) (ea_cons (Ev.is (ev_I (ev_int1 (cell H7 _ _ 3 rfl e17 (by decide))) ev_c (by decide)) (congrArg V.int hhi)) (ea_cons (ev_var rfl) ea_nil)) rfl fun pg H8 hpg e8 g8 => ⟨pg, ms, dg, hi, wd, rfl, sq_of g8, by omega, by omega, by omega, fun v H9 x e9 hx hv => ?_⟩
  obtain ⟨t, t1, tc, rs, rfl, gt, gt1, gtc, hC⟩ := hv
  obtain ⟨m, p, hleg, rfl, -⟩ := hx
  obtain ⟨hm2, hphi, hlp1, hlp2⟩ := hleg
  have hm : m ≤ 1 := by split at hm2 <;> omega
  have hp15 : p ≤ 15 := by omega
  have hp2 := Nat.two_pow_pos p
  obtain ⟨qs, hcd⟩ := cods_cds gtc hC
  have hS0 : ms.length + dg = sz := by omega
  have hval := cdsE_val (m := m) (Nat.le_of_lt hlp2) (by omega) hmb
  have hok := cdsE_ok (ns := ms) (g := dg) (p := p) hm
  have htb : (qdF ms dg m p).b = ((rbits m (cdsE ms dg m p) ms dg ((ms.length + dg) / 2 ^ p) (2 ^ p) : Nat) : Int) := tot_bits (Nat.le_of_lt hlp2)
  rw [htb] at gt
  have gt1 : H9 t1 = some (.tup [.int (m : Int), .int (p : Int), .ref tc]) := gt1
  have hcl := cdsE_len ms dg m p
  have hsw : ms.length + dg = (ms.length + dg) / 2 ^ p * 2 ^ p := by
    have := Nat.div_add_mod (ms.length + dg) (2 ^ p)
    rw [hlp1, Nat.add_zero, Nat.mul_comm] at this
    exact this.symm
  have hbl : (planB m p (cdsE ms dg m p) ms dg ((ms.length + dg) / 2 ^ p) (2 ^ p)).length = rbits m (cdsE ms dg m p) ms dg ((ms.length + dg) / 2 ^ p) (2 ^ p) := planB_len ..
  have hbnd : rbits m (cdsE ms dg m p) ms dg ((ms.length + dg) / 2 ^ p) (2 ^ p) ≤ 100000 := by
    exact rb_le hm hml hz2 hlp2 hmb
  clear hC
  generalize cdsE ms dg m p = cds at *
  generalize (ms.length + dg) / 2 ^ p = w at *
  have g9 := (e8.trans e9) _ _ g7
  clear e1 e2 e3 e4 e5 e6 e7 e13 e15 e16 e17 g5 g7 g8 hpg hpv
  refine q_when (b := false) (et_is (et_or (a := false) (b := false) (et_is (et_not (et_B (ev_isiTup (ev_var rfl) gt))) rfl) fun _ => et_is (et_test (ev_ne (ev_lenTup (ev_var rfl) gt) ev_c rfl)) rfl) rfl) (fun hb => by cases hb) fun _ H10 e10 => ?_
  refine q_asg (v := .ref t1) (ev_atT (n := 0) (ev_var rfl) (st_of (e10 _ _ gt)) ev_c (at_of (j := 0) rfl rfl)) fun H11 e11 => ?_
  refine q_mkw (C := T.C_BitWriter) fun wa L H12 hwa hL e12 hW12 => ?_
  have e912 := e10.trans (e11.trans e12)
  have nvL : pv ≠ L := by rintro rfl; rw [(e10.trans e11) _ _ g9] at hL; cases hL
  obtain ⟨dx12, ws12, hd12, nn12, ha12, _⟩ := hW12.len
  refine q_dropM (vs := [.int (ld : Int), .int 0]) (ev_var rfl) ha12 rfl (ea_cons (ev_var rfl) (ea_cons ev_c ea_nil)) fun H13 e13 => ⟨wa, L, [], ld, 0, rfl, hW12.ex e13, by omega, by show 0 + ld ≤ _; omega, fun H14 hF14 hW14 => ?_⟩
  rw [bitsN_z, List.nil_append] at hW14
  have hW13 := hW12.ex e13
  have e913 := e912.trans e13
  have gt14 := hW13.frT hF14 (e913 _ _ gt)
  have gt114 := hW13.frT hF14 (e913 _ _ gt1)
  have hcd14 := (hcd.ex e913).fr hW13 hF14
  have gv14 := hF14 _ _ (hW13.neL (e913 _ _ g9)) nvL (e913 _ _ g9)
  clear gt gt1 hcd g9 hF14 hW13 e13 ha12 hW12 e12 e11 e10 e9 e8 e913 e912 hL hwa gtc
  have hmz : (List.replicate ld false).length ≤ 8 := by rw [List.length_replicate]; omega
  refine q_dropC4 (x := .ref wa) (y := .ref t1) (z := .int (dg : Int)) (ev_var rfl) (ev_var rfl) (el_of (K := K) (Ev.s (ev_var rfl) (sq_of gv14))) (ev_var rfl) fun pl H15 hpl e15 gpl => ?_
  have nlL : pl ≠ L := by
    obtain ⟨_, _, _, _, _, hL, _⟩ := hW14
    rintro rfl
    rw [hL] at hpl
    cases hpl
  refine ⟨wa, L, t1, tc, pl, qs, cds, _, m, p, dg, w, ms, rfl, hW14.ex e15, e15 _ _ gt114, hcd14.ex e15, gpl, nlL, hp15, hm, hcl, hsw, by omega, by omega, hok, hval, by omega, fun H16 hF16 hW16 => ?_⟩
  obtain ⟨bs, hbs⟩ : ∃ bs, List.replicate ld false ++ planB m p cds ms dg w (2 ^ p) = bs := ⟨_, rfl⟩
  rw [hbs] at hW16
  have hbsl : bs.length = ld + rbits m cds ms dg w (2 ^ p) := by rw [← hbs, List.length_append, List.length_replicate, hbl]
  have hW15 := hW14.ex e15
  have gt16 := hW15.frT hF16 (e15 _ _ gt14)
  have gt116 := hW15.frT hF16 (e15 _ _ gt114)
  have hcd16 := (hcd14.ex e15).fr hW15 hF16
  have gv16 := hF16 _ _ (hW15.neL (e15 _ _ gv14)) nvL (e15 _ _ gv14)
  clear gt14 gt114 hcd14 gv14 hF16 hW15 gpl hpl e15 hW14
  refine q_when (b := false) (et_is (et_test (ev_ne (y := .int ((bs.length : Nat) : Int)) (ev_wmany (ev_var rfl) hW16) (Ev.is (ev_I0 (g := fun i j => .int (i + j)) (ev_var rfl) (ev_atT (n := 1) (v := .int ((rbits m cds ms dg w (2 ^ p) : Nat) : Int)) (ev_var rfl) (st_of gt16) ev_c (at_of (j := 1) rfl rfl))) (congrArg V.int (by omega))) rfl)) (by rw [decide_eq_true rfl]; rfl)) (fun hb => by cases hb) fun _ H17 e17 => ?_
  have hW17 := hW16.ex e17
  obtain ⟨dx17, ws17, hd17, nn17, ha17, _⟩ := hW17.len
  refine q_dropM (vs := []) (ev_var rfl) ha17 rfl ea_nil fun H18 e18 => ⟨wa, L, bs, rfl, hW17.ex e18, by omega, fun H19 hF19 hW19 => ?_⟩
  have hW18 := hW17.ex e18
  have e1618 := e17.trans e18
  have gt119 := hW18.frT hF19 (e1618 _ _ gt116)
  have hcd19 := (hcd16.ex e1618).fr hW18 hF19
  have gv19 := hF19 _ _ (hW18.neL (e1618 _ _ gv16)) nvL (e1618 _ _ gv16)
  clear gt16 gt116 hcd16 gv16 hF19 hW18 e1618 e18 ha17 hW17 e17 hW16
  obtain ⟨us, hus, hul, hulen, hpad⟩ := us_pad (bs ++ List.replicate (padN bs.length) false)
  have hbp : padN bs.length ≤ 7 := by unfold padN; omega
  have hul2 : (bs ++ List.replicate (padN bs.length) false).length = bs.length + padN bs.length := by rw [List.length_append, List.length_replicate]
  rw [hul2] at hulen hpad
  refine q_mk_r0 (C := T.C_BitReader) (xs := (cs us).map V.int) (er_list (ev_var rfl) hW19 (by omega) hus hul) fun ra dd H20 hra nrd hdd e20 gdd hR20 => ?_
  have hRD20 : RdD T.C_BitReader H20 ra dd us 0 := ⟨hR20, gdd, hul, by omega⟩
  obtain ⟨dx20, ha20⟩ := id hR20
  refine q_dropM (sp := sp_readN T.C_BitReader) (m := "read") (dvs := []) (vs := [.int (ld : Int)]) (ev_var rfl) ha20 rfl (ea_cons (ev_var rfl) ea_nil) fun H21 e21 => ⟨ra, dd, us, 0, ld, rfl, (hRD20.ex e21).1, (hRD20.ex e21).2.1, hul, by omega, by omega, by omega, fun H22 hF22 hR22 => ?_⟩
  rw [Nat.zero_add] at hR22
  have hRD21 := hRD20.ex e21
  have hRD22 := hRD21.to hF22 hR22
  have e1921 := e20.trans e21
  have gt122 := hF22 _ _ (hRD21.neT (e1921 _ _ gt119)) (e1921 _ _ gt119)
  have hcd22 : CdsT H22 tc qs cds := ⟨hF22 _ _ (hRD21.neT (e1921 _ _ hcd19.1)) (e1921 _ _ hcd19.1), hcd19.2.1, fun i q c h1 h2 => hF22 _ _ (hRD21.neT (e1921 _ _ (hcd19.2.2 i q c h1 h2))) (e1921 _ _ (hcd19.2.2 i q c h1 h2))⟩
  have gv22 := hF22 _ _ (hRD21.1.ne (e1921 _ _ gv19)) (e1921 _ _ gv19)
  clear gt119 hcd19 gv19 hW19 hF22 hRD21 e1921 e21 ha20 hRD20 e20 gdd hR20 hdd hra
  have hB : Has (us.flatMap bits8) ld (planB m p cds ms dg w (2 ^ p)) := ⟨List.replicate ld false, List.replicate (padN bs.length) false ++ List.replicate (padN (bs ++ List.replicate (padN bs.length) false).length) false, by rw [hus, ← hbs]; simp only [List.append_assoc], List.length_replicate⟩
  refine q_asgC (vs := [.ref ra, .int ((w * 2 ^ p : Nat) : Int), .int (dg : Int)]) (ea_cons (ev_var rfl) (ea_cons (Ev.is (ev_var rfl) (congrArg V.int (by omega))) (ea_cons (ev_var rfl) ea_nil))) fun H23 e23 => ⟨ra, dd, us, ld, m, p, dg, w, cds, ms, rfl, hRD22.ex e23, hp15, hm, hcl, hsw, hlp2, by omega, hok, hval, hB, fun t2 tp2 tc2 pr2 qs2 H24 ht2 hpr2 hF24 g2 gp2 hc2 gr2 hR24 => ?_⟩
  have hRD23 := hRD22.ex e23
  have gt124 := hF24 _ _ (hRD23.neT (e23 _ _ gt122)) (e23 _ _ gt122)
  have hcd24 : CdsT H24 tc qs cds := ⟨hF24 _ _ (hRD23.neT (e23 _ _ hcd22.1)) (e23 _ _ hcd22.1), hcd22.2.1, fun i q c h1 h2 => hF24 _ _ (hRD23.neT (e23 _ _ (hcd22.2.2 i q c h1 h2))) (e23 _ _ (hcd22.2.2 i q c h1 h2))⟩
  have gv24 := hF24 _ _ (hRD23.1.ne (e23 _ _ gv22)) (e23 _ _ gv22)
  clear gt122 hcd22 gv22 hF24 hRD23 e23 hRD22
  show tSeq _ _ _ [some (.ref a), some (.int c0), some (.int (sz : Int)), some (.int (dg : Int)), some (.ref pv), some (.bl wd), some (.int (ld : Int)), some (.ref t), some (.ref t1), some (.ref wa), some (.ref ra), some (.ref t2)] _
  refine q_when (b := false) (et_is (et_or (a := false) (b := false) (et_is (et_not (et_B (ev_isiTup (ev_var rfl) g2))) rfl) fun _ => et_or (a := false) (b := false) (et_is (et_test (ev_ne (ev_lenTup (ev_var rfl) g2) ev_c rfl)) rfl) fun _ => et_is (et_not (et_B (ev_call (z := .bl true) (vs := [.ref pr2]) (ea_cons (ev_atT (n := 1) (ev_var rfl) (st_of g2) ev_c (at_of (j := 1) rfl rfl)) ea_nil) fun G e Q q _ => ⟨pr2, ms, rfl, e _ _ gr2, by omega, q⟩))) rfl) rfl) (fun hb => by cases hb) fun _ H25 e25 => ?_
  refine s_ret (v := .bl true) (Ev.is (ev_andV (a := true) (b := true) (ev_eqDD (EvD.of (ev_atT (n := 0) (ev_var rfl) (st_of (e25 _ _ g2)) ev_c (at_of (j := 0) rfl rfl)) (dp_plan (e25 _ _ gp2) (hc2.ex e25))) (EvD.of (ev_var rfl) (dp_plan (e25 _ _ gt124) (hcd24.ex e25))) (shaped_plan m p cds)) fun _ => Ev.is (ev_eqI (ns := ms) (ms := ms) (Ev.s (ev_atT (n := 1) (ev_var rfl) (st_of (e25 _ _ g2)) ev_c (at_of (j := 1) rfl rfl)) (sq_of (e25 _ _ gr2))) (Ev.s (ev_var rfl) (sq_of (e25 _ _ gv24)))) (by rw [decide_eq_true rfl])) rfl) fun H26 e26 => k _

end
set_option maxHeartbeats 0 in
theorem all_mk {l : PySem.W.OpenLaw} {w : World} {K : PySem.W.Frag} {h : Heap} {mg : Str → Option Value} {fa : Addr} {f1 f2 f3 f4 f5 f6 f7 f8 f9 f10 f11 f12 f13 f14 f15 f16 f17 f18 f19 f20 f21 f22 f23 f24 f25 f26 f27 f28 f29 f30 f31 f32 f33 f34 f35 f36 f37 f38 f39 f40 f41 f42 f43 f44 f45 C_BitWriter C_BitReader A_PARAMETERS : Addr} (X : K.In h) (G : h.Ns mainGlobals mg) (hfa : mg "law" = some (.ref fa))
    {od1 an1 : Option Addr} {sl1 : Array (Option Value)} {oc1 dc1 pm1 cd1 ct1 : Value} {kV1 : Value} {od2 an2 : Option Addr} {sl2 : Array (Option Value)} {oc2 dc2 pm2 cd2 ct2 : Value} {kV2 : Value} {od3 an3 : Option Addr} {sl3 : Array (Option Value)} {oc3 dc3 pm3 cd3 ct3 : Value} {kV3 : Value} {od4 an4 : Option Addr} {sl4 : Array (Option Value)} {oc4 dc4 pm4 cd4 ct4 : Value} {kV4 : Value} {od5 an5 : Option Addr} {sl5 : Array (Option Value)} {oc5 dc5 pm5 cd5 ct5 : Value} {kV5 : Value} {od6 an6 : Option Addr} {sl6 : Array (Option Value)} {oc6 dc6 pm6 cd6 ct6 : Value} {kV6 : Value} {od7 an7 : Option Addr} {sl7 : Array (Option Value)} {oc7 dc7 pm7 cd7 ct7 : Value} {kV7 : Value} {od8 an8 : Option Addr} {sl8 : Array (Option Value)} {oc8 dc8 pm8 cd8 ct8 : Value} {kV8 : Value} {od9 an9 : Option Addr} {sl9 : Array (Option Value)} {oc9 dc9 pm9 cd9 ct9 : Value} {kV9 : Value} {od10 an10 : Option Addr} {sl10 : Array (Option Value)} {oc10 dc10 pm10 cd10 ct10 : Value} {kV10 : Value} {od11 an11 : Option Addr} {sl11 : Array (Option Value)} {oc11 dc11 pm11 cd11 ct11 : Value} {kV11 : Value} {od12 an12 : Option Addr} {sl12 : Array (Option Value)} {oc12 dc12 pm12 cd12 ct12 : Value} {kV12 : Value} {od13 an13 : Option Addr} {sl13 : Array (Option Value)} {oc13 dc13 pm13 cd13 ct13 : Value} {kV13 : Value} {od14 an14 : Option Addr} {sl14 : Array (Option Value)} {oc14 dc14 pm14 cd14 ct14 : Value} {kV14 : Value} {od15 an15 : Option Addr} {sl15 : Array (Option Value)} {oc15 dc15 pm15 cd15 ct15 : Value} {kV15 : Value} {od16 an16 : Option Addr} {sl16 : Array (Option Value)} {oc16 dc16 pm16 cd16 ct16 : Value} {kV16 : Value} {od17 an17 : Option Addr} {sl17 : Array (Option Value)} {oc17 dc17 pm17 cd17 ct17 : Value} {kV17 : Value} {od18 an18 : Option Addr} {sl18 : Array (Option Value)} {oc18 dc18 pm18 cd18 ct18 : Value} {kV18 : Value} {od19 an19 : Option Addr} {sl19 : Array (Option Value)} {oc19 dc19 pm19 cd19 ct19 : Value} {kV19 : Value} {od20 an20 : Option Addr} {sl20 : Array (Option Value)} {oc20 dc20 pm20 cd20 ct20 : Value} {kV20 : Value} {od21 an21 : Option Addr} {sl21 : Array (Option Value)} {oc21 dc21 pm21 cd21 ct21 : Value} {kV21 : Value} {od22 an22 : Option Addr} {sl22 : Array (Option Value)} {oc22 dc22 pm22 cd22 ct22 : Value} {kV22 : Value} {od23 an23 : Option Addr} {sl23 : Array (Option Value)} {oc23 dc23 pm23 cd23 ct23 : Value} {kV23 : Value} {od24 an24 : Option Addr} {sl24 : Array (Option Value)} {oc24 dc24 pm24 cd24 ct24 : Value} {kV24 : Value} {od25 an25 : Option Addr} {sl25 : Array (Option Value)} {oc25 dc25 pm25 cd25 ct25 : Value} {kV25 : Value} {od26 an26 : Option Addr} {sl26 : Array (Option Value)} {oc26 dc26 pm26 cd26 ct26 : Value} {kV26 : Value} {od27 an27 : Option Addr} {sl27 : Array (Option Value)} {oc27 dc27 pm27 cd27 ct27 : Value} {kV27 : Value} {od28 an28 : Option Addr} {sl28 : Array (Option Value)} {oc28 dc28 pm28 cd28 ct28 : Value} {kV28 : Value} {od29 an29 : Option Addr} {sl29 : Array (Option Value)} {oc29 dc29 pm29 cd29 ct29 : Value} {kV29 : Value} {od30 an30 : Option Addr} {sl30 : Array (Option Value)} {oc30 dc30 pm30 cd30 ct30 : Value} {kV30 : Value} {od31 an31 : Option Addr} {sl31 : Array (Option Value)} {oc31 dc31 pm31 cd31 ct31 : Value} {kV31 : Value} {od32 an32 : Option Addr} {sl32 : Array (Option Value)} {oc32 dc32 pm32 cd32 ct32 : Value} {kV32 : Value} {od33 an33 : Option Addr} {sl33 : Array (Option Value)} {oc33 dc33 pm33 cd33 ct33 : Value} {kV33 : Value} {od34 an34 : Option Addr} {sl34 : Array (Option Value)} {oc34 dc34 pm34 cd34 ct34 : Value} {kV34 : Value} {DT34 : Addr} {du34_0 tc34 : Value} {td34 : Option Addr} {tn34 : Nat} {tsl34 : Array (Option Value)} {od35 an35 : Option Addr} {sl35 : Array (Option Value)} {oc35 dc35 pm35 cd35 ct35 : Value} {kV35 : Value} {od36 an36 : Option Addr} {sl36 : Array (Option Value)} {oc36 dc36 pm36 cd36 ct36 : Value} {kV36 : Value} {od37 an37 : Option Addr} {sl37 : Array (Option Value)} {oc37 dc37 pm37 cd37 ct37 : Value} {kV37 : Value} {od38 an38 : Option Addr} {sl38 : Array (Option Value)} {oc38 dc38 pm38 cd38 ct38 : Value} {kV38 : Value} {od39 an39 : Option Addr} {sl39 : Array (Option Value)} {oc39 dc39 pm39 cd39 ct39 : Value} {kV39 : Value} {od40 an40 : Option Addr} {sl40 : Array (Option Value)} {oc40 dc40 pm40 cd40 ct40 : Value} {kV40 : Value} {od41 an41 : Option Addr} {sl41 : Array (Option Value)} {oc41 dc41 pm41 cd41 ct41 : Value} {kV41 : Value} {od42 an42 : Option Addr} {sl42 : Array (Option Value)} {oc42 dc42 pm42 cd42 ct42 : Value} {kV42 : Value} {od43 an43 : Option Addr} {sl43 : Array (Option Value)} {oc43 dc43 pm43 cd43 ct43 : Value} {kV43 : Value} {od44 an44 : Option Addr} {sl44 : Array (Option Value)} {oc44 dc44 pm44 cd44 ct44 : Value} {kV44 : Value} {od45 an45 : Option Addr} {sl45 : Array (Option Value)} {oc45 dc45 pm45 cd45 ct45 : Value} {kV45 : Value} {u_BOUND : Value} {wPARAMETERS_0 wPARAMETERS_1 : Value} {dxPARAMETERS : Option Addr} {nxPARAMETERS : Nat} {sxPARAMETERS : Array (Option Value)} {u_MOST_RAW_WIDTH : Value} {u_HEAD_BITS : Value} {u_MOST_ZEROS : Value}
    (a1 : PySem.W.nsIn K mainGlobals "fold" = some (some (.ref f1)))
    (l1 : K.lookup f1 = some ⟨oc1, od1, .func (PySem.W.fnOf "fold" "fold" (defArgs s_fold) (defBody s_fold) (defScope s_fold) .none kV1 dc1 pm1 an1 cd1 ct1), sl1⟩) (c1 : PySem.W.codeIn K cd1 "fold" = true) (k1 : PySem.W.keepIn K (.ref f1) = true)
    (a2 : PySem.W.nsIn K mainGlobals "unfold" = some (some (.ref f2)))
    (l2 : K.lookup f2 = some ⟨oc2, od2, .func (PySem.W.fnOf "unfold" "unfold" (defArgs s_unfold) (defBody s_unfold) (defScope s_unfold) .none kV2 dc2 pm2 an2 cd2 ct2), sl2⟩) (c2 : PySem.W.codeIn K cd2 "unfold" = true) (k2 : PySem.W.keepIn K (.ref f2) = true)
    (a3 : PySem.W.nsIn K mainGlobals "write_code" = some (some (.ref f3)))
    (l3 : K.lookup f3 = some ⟨oc3, od3, .func (PySem.W.fnOf "write_code" "write_code" (defArgs s_write_code) (defBody s_write_code) (defScope s_write_code) .none kV3 dc3 pm3 an3 cd3 ct3), sl3⟩) (c3 : PySem.W.codeIn K cd3 "write_code" = true) (k3 : PySem.W.keepIn K (.ref f3) = true)
    (a4 : PySem.W.nsIn K mainGlobals "read_code" = some (some (.ref f4)))
    (l4 : K.lookup f4 = some ⟨oc4, od4, .func (PySem.W.fnOf "read_code" "read_code" (defArgs s_read_code) (defBody s_read_code) (defScope s_read_code) .none kV4 dc4 pm4 an4 cd4 ct4), sl4⟩) (c4 : PySem.W.codeIn K cd4 "read_code" = true) (k4 : PySem.W.keepIn K (.ref f4) = true)
    (a5 : PySem.W.nsIn K mainGlobals "legal_partition_order" = some (some (.ref f5)))
    (l5 : K.lookup f5 = some ⟨oc5, od5, .func (PySem.W.fnOf "legal_partition_order" "legal_partition_order" (defArgs s_legal_partition_order) (defBody s_legal_partition_order) (defScope s_legal_partition_order) .none kV5 dc5 pm5 an5 cd5 ct5), sl5⟩) (c5 : PySem.W.codeIn K cd5 "legal_partition_order" = true) (k5 : PySem.W.keepIn K (.ref f5) = true)
    (a6 : PySem.W.nsIn K mainGlobals "partition_sizes" = some (some (.ref f6)))
    (l6 : K.lookup f6 = some ⟨oc6, od6, .func (PySem.W.fnOf "partition_sizes" "partition_sizes" (defArgs s_partition_sizes) (defBody s_partition_sizes) (defScope s_partition_sizes) .none kV6 dc6 pm6 an6 cd6 ct6), sl6⟩) (c6 : PySem.W.codeIn K cd6 "partition_sizes" = true) (k6 : PySem.W.keepIn K (.ref f6) = true)
    (a7 : PySem.W.nsIn K mainGlobals "write_residuals" = some (some (.ref f7)))
    (l7 : K.lookup f7 = some ⟨oc7, od7, .func (PySem.W.fnOf "write_residuals" "write_residuals" (defArgs s_write_residuals) (defBody s_write_residuals) (defScope s_write_residuals) .none kV7 dc7 pm7 an7 cd7 ct7), sl7⟩) (c7 : PySem.W.codeIn K cd7 "write_residuals" = true) (k7 : PySem.W.keepIn K (.ref f7) = true)
    (a8 : PySem.W.nsIn K mainGlobals "read_residuals" = some (some (.ref f8)))
    (l8 : K.lookup f8 = some ⟨oc8, od8, .func (PySem.W.fnOf "read_residuals" "read_residuals" (defArgs s_read_residuals) (defBody s_read_residuals) (defScope s_read_residuals) .none kV8 dc8 pm8 an8 cd8 ct8), sl8⟩) (c8 : PySem.W.codeIn K cd8 "read_residuals" = true) (k8 : PySem.W.keepIn K (.ref f8) = true)
    (a9 : PySem.W.nsIn K mainGlobals "_parts" = some (some (.ref f9)))
    (l9 : K.lookup f9 = some ⟨oc9, od9, .func (PySem.W.fnOf "_parts" "_parts" (defArgs s_parts) (defBody s_parts) (defScope s_parts) .none kV9 dc9 pm9 an9 cd9 ct9), sl9⟩) (c9 : PySem.W.codeIn K cd9 "_parts" = true) (k9 : PySem.W.keepIn K (.ref f9) = true)
    (a10 : PySem.W.nsIn K mainGlobals "_coding_width" = some (some (.ref f10)))
    (l10 : K.lookup f10 = some ⟨oc10, od10, .func (PySem.W.fnOf "_coding_width" "_coding_width" (defArgs s_coding_width) (defBody s_coding_width) (defScope s_coding_width) .none kV10 dc10 pm10 an10 cd10 ct10), sl10⟩) (c10 : PySem.W.codeIn K cd10 "_coding_width" = true) (k10 : PySem.W.keepIn K (.ref f10) = true)
    (a11 : PySem.W.nsIn K mainGlobals "_raw_mark" = some (some (.ref f11)))
    (l11 : K.lookup f11 = some ⟨oc11, od11, .func (PySem.W.fnOf "_raw_mark" "_raw_mark" (defArgs s_raw_mark) (defBody s_raw_mark) (defScope s_raw_mark) .none kV11 dc11 pm11 an11 cd11 ct11), sl11⟩) (c11 : PySem.W.codeIn K cd11 "_raw_mark" = true) (k11 : PySem.W.keepIn K (.ref f11) = true)
    (a12 : PySem.W.nsIn K mainGlobals "_write_coding" = some (some (.ref f12)))
    (l12 : K.lookup f12 = some ⟨oc12, od12, .func (PySem.W.fnOf "_write_coding" "_write_coding" (defArgs s_write_coding) (defBody s_write_coding) (defScope s_write_coding) .none kV12 dc12 pm12 an12 cd12 ct12), sl12⟩) (c12 : PySem.W.codeIn K cd12 "_write_coding" = true) (k12 : PySem.W.keepIn K (.ref f12) = true)
    (a13 : PySem.W.nsIn K mainGlobals "_write_part" = some (some (.ref f13)))
    (l13 : K.lookup f13 = some ⟨oc13, od13, .func (PySem.W.fnOf "_write_part" "_write_part" (defArgs s_write_part) (defBody s_write_part) (defScope s_write_part) .none kV13 dc13 pm13 an13 cd13 ct13), sl13⟩) (c13 : PySem.W.codeIn K cd13 "_write_part" = true) (k13 : PySem.W.keepIn K (.ref f13) = true)
    (a14 : PySem.W.nsIn K mainGlobals "_read_method" = some (some (.ref f14)))
    (l14 : K.lookup f14 = some ⟨oc14, od14, .func (PySem.W.fnOf "_read_method" "_read_method" (defArgs s_read_method) (defBody s_read_method) (defScope s_read_method) .none kV14 dc14 pm14 an14 cd14 ct14), sl14⟩) (c14 : PySem.W.codeIn K cd14 "_read_method" = true) (k14 : PySem.W.keepIn K (.ref f14) = true)
    (a15 : PySem.W.nsIn K mainGlobals "_read_partition_order" = some (some (.ref f15)))
    (l15 : K.lookup f15 = some ⟨oc15, od15, .func (PySem.W.fnOf "_read_partition_order" "_read_partition_order" (defArgs s_read_partition_order) (defBody s_read_partition_order) (defScope s_read_partition_order) .none kV15 dc15 pm15 an15 cd15 ct15), sl15⟩) (c15 : PySem.W.codeIn K cd15 "_read_partition_order" = true) (k15 : PySem.W.keepIn K (.ref f15) = true)
    (a16 : PySem.W.nsIn K mainGlobals "_read_coding" = some (some (.ref f16)))
    (l16 : K.lookup f16 = some ⟨oc16, od16, .func (PySem.W.fnOf "_read_coding" "_read_coding" (defArgs s_read_coding) (defBody s_read_coding) (defScope s_read_coding) .none kV16 dc16 pm16 an16 cd16 ct16), sl16⟩) (c16 : PySem.W.codeIn K cd16 "_read_coding" = true) (k16 : PySem.W.keepIn K (.ref f16) = true)
    (a17 : PySem.W.nsIn K mainGlobals "_read_part" = some (some (.ref f17)))
    (l17 : K.lookup f17 = some ⟨oc17, od17, .func (PySem.W.fnOf "_read_part" "_read_part" (defArgs s_read_part) (defBody s_read_part) (defScope s_read_part) .none kV17 dc17 pm17 an17 cd17 ct17), sl17⟩) (c17 : PySem.W.codeIn K cd17 "_read_part" = true) (k17 : PySem.W.keepIn K (.ref f17) = true)
    (a18 : PySem.W.nsIn K mainGlobals "_read_residual" = some (some (.ref f18)))
    (l18 : K.lookup f18 = some ⟨oc18, od18, .func (PySem.W.fnOf "_read_residual" "_read_residual" (defArgs s_read_residual) (defBody s_read_residual) (defScope s_read_residual) .none kV18 dc18 pm18 an18 cd18 ct18), sl18⟩) (c18 : PySem.W.codeIn K cd18 "_read_residual" = true) (k18 : PySem.W.keepIn K (.ref f18) = true)
    (a19 : PySem.W.nsIn K mainGlobals "best_coding" = some (some (.ref f19)))
    (l19 : K.lookup f19 = some ⟨oc19, od19, .func (PySem.W.fnOf "best_coding" "best_coding" (defArgs s_best_coding) (defBody s_best_coding) (defScope s_best_coding) .none kV19 dc19 pm19 an19 cd19 ct19), sl19⟩) (c19 : PySem.W.codeIn K cd19 "best_coding" = true) (k19 : PySem.W.keepIn K (.ref f19) = true)
    (a20 : PySem.W.nsIn K mainGlobals "_width" = some (some (.ref f20)))
    (l20 : K.lookup f20 = some ⟨oc20, od20, .func (PySem.W.fnOf "_width" "_width" (defArgs s_width) (defBody s_width) (defScope s_width) .none kV20 dc20 pm20 an20 cd20 ct20), sl20⟩) (c20 : PySem.W.codeIn K cd20 "_width" = true) (k20 : PySem.W.keepIn K (.ref f20) = true)
    (a21 : PySem.W.nsIn K mainGlobals "_measured" = some (some (.ref f21)))
    (l21 : K.lookup f21 = some ⟨oc21, od21, .func (PySem.W.fnOf "_measured" "_measured" (defArgs s_measured) (defBody s_measured) (defScope s_measured) .none kV21 dc21 pm21 an21 cd21 ct21), sl21⟩) (c21 : PySem.W.codeIn K cd21 "_measured" = true) (k21 : PySem.W.keepIn K (.ref f21) = true)
    (a22 : PySem.W.nsIn K mainGlobals "_measured_parts" = some (some (.ref f22)))
    (l22 : K.lookup f22 = some ⟨oc22, od22, .func (PySem.W.fnOf "_measured_parts" "_measured_parts" (defArgs s_measured_parts) (defBody s_measured_parts) (defScope s_measured_parts) .none kV22 dc22 pm22 an22 cd22 ct22), sl22⟩) (c22 : PySem.W.codeIn K cd22 "_measured_parts" = true) (k22 : PySem.W.keepIn K (.ref f22) = true)
    (a23 : PySem.W.nsIn K mainGlobals "_joined_in_pairs" = some (some (.ref f23)))
    (l23 : K.lookup f23 = some ⟨oc23, od23, .func (PySem.W.fnOf "_joined_in_pairs" "_joined_in_pairs" (defArgs s_joined_in_pairs) (defBody s_joined_in_pairs) (defScope s_joined_in_pairs) .none kV23 dc23 pm23 an23 cd23 ct23), sl23⟩) (c23 : PySem.W.codeIn K cd23 "_joined_in_pairs" = true) (k23 : PySem.W.keepIn K (.ref f23) = true)
    (a24 : PySem.W.nsIn K mainGlobals "_joined" = some (some (.ref f24)))
    (l24 : K.lookup f24 = some ⟨oc24, od24, .func (PySem.W.fnOf "_joined" "_joined" (defArgs s_joined) (defBody s_joined) (defScope s_joined) .none kV24 dc24 pm24 an24 cd24 ct24), sl24⟩) (c24 : PySem.W.codeIn K cd24 "_joined" = true) (k24 : PySem.W.keepIn K (.ref f24) = true)
    (a25 : PySem.W.nsIn K mainGlobals "_entry" = some (some (.ref f25)))
    (l25 : K.lookup f25 = some ⟨oc25, od25, .func (PySem.W.fnOf "_entry" "_entry" (defArgs s_entry) (defBody s_entry) (defScope s_entry) .none kV25 dc25 pm25 an25 cd25 ct25), sl25⟩) (c25 : PySem.W.codeIn K cd25 "_entry" = true) (k25 : PySem.W.keepIn K (.ref f25) = true)
    (a26 : PySem.W.nsIn K mainGlobals "_entries" = some (some (.ref f26)))
    (l26 : K.lookup f26 = some ⟨oc26, od26, .func (PySem.W.fnOf "_entries" "_entries" (defArgs s_entries) (defBody s_entries) (defScope s_entries) .none kV26 dc26 pm26 an26 cd26 ct26), sl26⟩) (c26 : PySem.W.codeIn K cd26 "_entries" = true) (k26 : PySem.W.keepIn K (.ref f26) = true)
    (a27 : PySem.W.findIn K (.ref C_BitWriter) "__init__" = some (some (.ref f27))) (i27 : PySem.W.isFn K (.ref f27) = true)
    (l27 : K.lookup f27 = some ⟨oc27, od27, .func (PySem.W.fnOf "__init__" "BitWriter.__init__" (defArgs s_BitWriter_init) (defBody s_BitWriter_init) (defScope s_BitWriter_init) .none kV27 dc27 pm27 an27 cd27 ct27), sl27⟩) (c27 : PySem.W.codeIn K cd27 "BitWriter.__init__" = true) (k27 : PySem.W.keepIn K (.ref f27) = true)
    (a28 : PySem.W.findIn K (.ref C_BitWriter) "write" = some (some (.ref f28))) (i28 : PySem.W.isFn K (.ref f28) = true)
    (l28 : K.lookup f28 = some ⟨oc28, od28, .func (PySem.W.fnOf "write" "BitWriter.write" (defArgs s_BitWriter_write) (defBody s_BitWriter_write) (defScope s_BitWriter_write) .none kV28 dc28 pm28 an28 cd28 ct28), sl28⟩) (c28 : PySem.W.codeIn K cd28 "BitWriter.write" = true) (k28 : PySem.W.keepIn K (.ref f28) = true)
    (a29 : PySem.W.findIn K (.ref C_BitWriter) "write_signed" = some (some (.ref f29))) (i29 : PySem.W.isFn K (.ref f29) = true)
    (l29 : K.lookup f29 = some ⟨oc29, od29, .func (PySem.W.fnOf "write_signed" "BitWriter.write_signed" (defArgs s_BitWriter_write_signed) (defBody s_BitWriter_write_signed) (defScope s_BitWriter_write_signed) .none kV29 dc29 pm29 an29 cd29 ct29), sl29⟩) (c29 : PySem.W.codeIn K cd29 "BitWriter.write_signed" = true) (k29 : PySem.W.keepIn K (.ref f29) = true)
    (a30 : PySem.W.findIn K (.ref C_BitWriter) "write_unary" = some (some (.ref f30))) (i30 : PySem.W.isFn K (.ref f30) = true)
    (l30 : K.lookup f30 = some ⟨oc30, od30, .func (PySem.W.fnOf "write_unary" "BitWriter.write_unary" (defArgs s_BitWriter_write_unary) (defBody s_BitWriter_write_unary) (defScope s_BitWriter_write_unary) .none kV30 dc30 pm30 an30 cd30 ct30), sl30⟩) (c30 : PySem.W.codeIn K cd30 "BitWriter.write_unary" = true) (k30 : PySem.W.keepIn K (.ref f30) = true)
    (a31 : PySem.W.findIn K (.ref C_BitWriter) "pad" = some (some (.ref f31))) (i31 : PySem.W.isFn K (.ref f31) = true)
    (l31 : K.lookup f31 = some ⟨oc31, od31, .func (PySem.W.fnOf "pad" "BitWriter.pad" (defArgs s_BitWriter_pad) (defBody s_BitWriter_pad) (defScope s_BitWriter_pad) .none kV31 dc31 pm31 an31 cd31 ct31), sl31⟩) (c31 : PySem.W.codeIn K cd31 "BitWriter.pad" = true) (k31 : PySem.W.keepIn K (.ref f31) = true)
    (a32 : PySem.W.findIn K (.ref C_BitWriter) "byte_list" = some (some (.ref f32))) (i32 : PySem.W.isFn K (.ref f32) = true)
    (l32 : K.lookup f32 = some ⟨oc32, od32, .func (PySem.W.fnOf "byte_list" "BitWriter.byte_list" (defArgs s_BitWriter_byte_list) (defBody s_BitWriter_byte_list) (defScope s_BitWriter_byte_list) .none kV32 dc32 pm32 an32 cd32 ct32), sl32⟩) (c32 : PySem.W.codeIn K cd32 "BitWriter.byte_list" = true) (k32 : PySem.W.keepIn K (.ref f32) = true)
    (a33 : PySem.W.findIn K (.ref C_BitWriter) "bits_written" = some (some (.ref f33))) (i33 : PySem.W.isFn K (.ref f33) = true)
    (l33 : K.lookup f33 = some ⟨oc33, od33, .func (PySem.W.fnOf "bits_written" "BitWriter.bits_written" (defArgs s_BitWriter_bits_written) (defBody s_BitWriter_bits_written) (defScope s_BitWriter_bits_written) .none kV33 dc33 pm33 an33 cd33 ct33), sl33⟩) (c33 : PySem.W.codeIn K cd33 "BitWriter.bits_written" = true) (k33 : PySem.W.keepIn K (.ref f33) = true)
    (a34 : PySem.W.findIn K (.ref C_BitReader) "__init__" = some (some (.ref f34))) (i34 : PySem.W.isFn K (.ref f34) = true)
    (l34 : K.lookup f34 = some ⟨oc34, od34, .func (PySem.W.fnOf "__init__" "BitReader.__init__" (defArgs s_BitReader_init) (defBody s_BitReader_init) (defScope s_BitReader_init) (.ref DT34) kV34 dc34 pm34 an34 cd34 ct34), sl34⟩) (c34 : PySem.W.codeIn K cd34 "BitReader.__init__" = true) (k34 : PySem.W.keepIn K (.ref f34) = true)
    (t34 : K.lookup DT34 = some ⟨tc34, td34, .seq (List.toArray [du34_0]) tn34, tsl34⟩)
    (rd34_0 : RelV (V.int 0) du34_0)
    (a35 : PySem.W.findIn K (.ref C_BitReader) "read" = some (some (.ref f35))) (i35 : PySem.W.isFn K (.ref f35) = true)
    (l35 : K.lookup f35 = some ⟨oc35, od35, .func (PySem.W.fnOf "read" "BitReader.read" (defArgs s_BitReader_read) (defBody s_BitReader_read) (defScope s_BitReader_read) .none kV35 dc35 pm35 an35 cd35 ct35), sl35⟩) (c35 : PySem.W.codeIn K cd35 "BitReader.read" = true) (k35 : PySem.W.keepIn K (.ref f35) = true)
    (a36 : PySem.W.findIn K (.ref C_BitReader) "read_signed" = some (some (.ref f36))) (i36 : PySem.W.isFn K (.ref f36) = true)
    (l36 : K.lookup f36 = some ⟨oc36, od36, .func (PySem.W.fnOf "read_signed" "BitReader.read_signed" (defArgs s_BitReader_read_signed) (defBody s_BitReader_read_signed) (defScope s_BitReader_read_signed) .none kV36 dc36 pm36 an36 cd36 ct36), sl36⟩) (c36 : PySem.W.codeIn K cd36 "BitReader.read_signed" = true) (k36 : PySem.W.keepIn K (.ref f36) = true)
    (a37 : PySem.W.findIn K (.ref C_BitReader) "read_unary" = some (some (.ref f37))) (i37 : PySem.W.isFn K (.ref f37) = true)
    (l37 : K.lookup f37 = some ⟨oc37, od37, .func (PySem.W.fnOf "read_unary" "BitReader.read_unary" (defArgs s_BitReader_read_unary) (defBody s_BitReader_read_unary) (defScope s_BitReader_read_unary) .none kV37 dc37 pm37 an37 cd37 ct37), sl37⟩) (c37 : PySem.W.codeIn K cd37 "BitReader.read_unary" = true) (k37 : PySem.W.keepIn K (.ref f37) = true)
    (a38 : PySem.W.findIn K (.ref C_BitReader) "_rest_of_byte" = some (some (.ref f38))) (i38 : PySem.W.isFn K (.ref f38) = true)
    (l38 : K.lookup f38 = some ⟨oc38, od38, .func (PySem.W.fnOf "_rest_of_byte" "BitReader._rest_of_byte" (defArgs s_BitReader_rest_of_byte) (defBody s_BitReader_rest_of_byte) (defScope s_BitReader_rest_of_byte) .none kV38 dc38 pm38 an38 cd38 ct38), sl38⟩) (c38 : PySem.W.codeIn K cd38 "BitReader._rest_of_byte" = true) (k38 : PySem.W.keepIn K (.ref f38) = true)
    (a39 : PySem.W.findIn K (.ref C_BitReader) "byte_place" = some (some (.ref f39))) (i39 : PySem.W.isFn K (.ref f39) = true)
    (l39 : K.lookup f39 = some ⟨oc39, od39, .func (PySem.W.fnOf "byte_place" "BitReader.byte_place" (defArgs s_BitReader_byte_place) (defBody s_BitReader_byte_place) (defScope s_BitReader_byte_place) .none kV39 dc39 pm39 an39 cd39 ct39), sl39⟩) (c39 : PySem.W.codeIn K cd39 "BitReader.byte_place" = true) (k39 : PySem.W.keepIn K (.ref f39) = true)
    (a40 : PySem.W.nsIn K mainGlobals "_law_cell" = some (some (.ref f40)))
    (l40 : K.lookup f40 = some ⟨oc40, od40, .func (PySem.W.fnOf "_law_cell" "_law_cell" (defArgs s_law_cell) (defBody s_law_cell) (defScope s_law_cell) .none kV40 dc40 pm40 an40 cd40 ct40), sl40⟩) (c40 : PySem.W.codeIn K cd40 "_law_cell" = true) (k40 : PySem.W.keepIn K (.ref f40) = true)
    (a41 : PySem.W.nsIn K mainGlobals "_law_integer" = some (some (.ref f41)))
    (l41 : K.lookup f41 = some ⟨oc41, od41, .func (PySem.W.fnOf "_law_integer" "_law_integer" (defArgs s_law_integer) (defBody s_law_integer) (defScope s_law_integer) .none kV41 dc41 pm41 an41 cd41 ct41), sl41⟩) (c41 : PySem.W.codeIn K cd41 "_law_integer" = true) (k41 : PySem.W.keepIn K (.ref f41) = true)
    (a42 : PySem.W.nsIn K mainGlobals "_law_integers" = some (some (.ref f42)))
    (l42 : K.lookup f42 = some ⟨oc42, od42, .func (PySem.W.fnOf "_law_integers" "_law_integers" (defArgs s_law_integers) (defBody s_law_integers) (defScope s_law_integers) .none kV42 dc42 pm42 an42 cd42 ct42), sl42⟩) (c42 : PySem.W.codeIn K cd42 "_law_integers" = true) (k42 : PySem.W.keepIn K (.ref f42) = true)
    (a43 : PySem.W.nsIn K mainGlobals "_law_row" = some (some (.ref f43)))
    (l43 : K.lookup f43 = some ⟨oc43, od43, .func (PySem.W.fnOf "_law_row" "_law_row" (defArgs s_law_row) (defBody s_law_row) (defScope s_law_row) .none kV43 dc43 pm43 an43 cd43 ct43), sl43⟩) (c43 : PySem.W.codeIn K cd43 "_law_row" = true) (k43 : PySem.W.keepIn K (.ref f43) = true)
    (a44 : PySem.W.nsIn K mainGlobals "_law_residuals" = some (some (.ref f44)))
    (l44 : K.lookup f44 = some ⟨oc44, od44, .func (PySem.W.fnOf "_law_residuals" "_law_residuals" (defArgs s_law_residuals) (defBody s_law_residuals) (defScope s_law_residuals) .none kV44 dc44 pm44 an44 cd44 ct44), sl44⟩) (c44 : PySem.W.codeIn K cd44 "_law_residuals" = true) (k44 : PySem.W.keepIn K (.ref f44) = true)
    (a45 : PySem.W.nsIn K mainGlobals "law" = some (some (.ref f45)))
    (l45 : K.lookup f45 = some ⟨oc45, od45, .func (PySem.W.fnOf "law" "law" (defArgs s_law) (defBody s_law) (defScope s_law) .none kV45 dc45 pm45 an45 cd45 ct45), sl45⟩) (c45 : PySem.W.codeIn K cd45 "law" = true) (k45 : PySem.W.keepIn K (.ref f45) = true)
    (aC_BitWriter : PySem.W.nsIn K mainGlobals "BitWriter" = some (some (.ref C_BitWriter)))
    (pg_BitWriter : PySem.W.plainGet K C_BitWriter Str.empty = true) (hd_BitWriter : PySem.W.hasDictIn K C_BitWriter = true) (po_BitWriter : PySem.W.plainOver K C_BitWriter = true) (sa_BitWriter : PySem.W.findIn K (.ref C_BitWriter) "__setattr__" = some (some (.builtin "object.__setattr__"))) (mk_BitWriter : PySem.W.makesIn K C_BitWriter = true) (kc_BitWriter : PySem.W.keepIn K (.ref C_BitWriter) = true)
    (n_BitWriter_whole : PySem.W.findIn K (.ref C_BitWriter) "_whole" = some none)
    (n_BitWriter_held : PySem.W.findIn K (.ref C_BitWriter) "_held" = some none)
    (n_BitWriter_held_bits : PySem.W.findIn K (.ref C_BitWriter) "_held_bits" = some none)
    (aC_BitReader : PySem.W.nsIn K mainGlobals "BitReader" = some (some (.ref C_BitReader)))
    (pg_BitReader : PySem.W.plainGet K C_BitReader Str.empty = true) (hd_BitReader : PySem.W.hasDictIn K C_BitReader = true) (po_BitReader : PySem.W.plainOver K C_BitReader = true) (sa_BitReader : PySem.W.findIn K (.ref C_BitReader) "__setattr__" = some (some (.builtin "object.__setattr__"))) (mk_BitReader : PySem.W.makesIn K C_BitReader = true) (kc_BitReader : PySem.W.keepIn K (.ref C_BitReader) = true)
    (n_BitReader_data : PySem.W.findIn K (.ref C_BitReader) "_data" = some none)
    (n_BitReader_position : PySem.W.findIn K (.ref C_BitReader) "_position" = some none)
    (z_zip : PySem.W.nsIn K mainGlobals "zip" = some none)
    (z_tuple : PySem.W.nsIn K mainGlobals "tuple" = some none)
    (z_len : PySem.W.nsIn K mainGlobals "len" = some none)
    (z_range : PySem.W.nsIn K mainGlobals "range" = some none)
    (z_max : PySem.W.nsIn K mainGlobals "max" = some none)
    (z_min : PySem.W.nsIn K mainGlobals "min" = some none)
    (z_sum : PySem.W.nsIn K mainGlobals "sum" = some none)
    (z_list : PySem.W.nsIn K mainGlobals "list" = some none)
    (z_isinstance : PySem.W.nsIn K mainGlobals "isinstance" = some none)
    (z_int : PySem.W.nsIn K mainGlobals "int" = some none)
    (z_bool : PySem.W.nsIn K mainGlobals "bool" = some none)
    (z_all : PySem.W.nsIn K mainGlobals "all" = some none)
    (z_abs : PySem.W.nsIn K mainGlobals "abs" = some none)
    (q_BOUND : PySem.W.nsIn K mainGlobals "_BOUND" = some (some u_BOUND)) (r_BOUND : RelV (.int (2147483648)) u_BOUND)
    (q_PARAMETERS : PySem.W.nsIn K mainGlobals "_PARAMETERS" = some (some (.ref A_PARAMETERS))) (l_PARAMETERS : K.lookup A_PARAMETERS = some ⟨.type "tuple", dxPARAMETERS, .seq (List.toArray [wPARAMETERS_0, wPARAMETERS_1]) nxPARAMETERS, sxPARAMETERS⟩)
    (r_PARAMETERS_0 : RelV (.int 15) wPARAMETERS_0)
    (r_PARAMETERS_1 : RelV (.int 31) wPARAMETERS_1)
    (q_MOST_RAW_WIDTH : PySem.W.nsIn K mainGlobals "_MOST_RAW_WIDTH" = some (some u_MOST_RAW_WIDTH)) (r_MOST_RAW_WIDTH : RelV (.int (31)) u_MOST_RAW_WIDTH)
    (q_HEAD_BITS : PySem.W.nsIn K mainGlobals "_HEAD_BITS" = some (some u_HEAD_BITS)) (r_HEAD_BITS : RelV (.int (6)) u_HEAD_BITS)
    (q_MOST_ZEROS : PySem.W.nsIn K mainGlobals "_MOST_ZEROS" = some (some u_MOST_ZEROS)) (r_MOST_ZEROS : RelV (.int (56)) u_MOST_ZEROS)
    : ∃ fd : FuncData, (∀ (s : Shared) (v : Value), BindsTo s fd ⟨[v], []⟩ [("script", v)]) ∧ ∀ base : Heap, K.In base → base.Ns mainGlobals mg → FnOk l.prog w K mg base CX0 8 fa fd ["script"] (sp_law K) := by
  have e := hfa.symm.trans (PySem.W.mg_of X G a45)
  cases e
  have F1 := fun_mk (st := s_fold) l1 c1 k1
  have b1 := F1.binds (ps := ["n"]) fun _ _ _ _ _ _ us hl => match us, hl with | [_], _ => rfl
  have F2 := fun_mk (st := s_unfold) l2 c2 k2
  have b2 := F2.binds (ps := ["u"]) fun _ _ _ _ _ _ us hl => match us, hl with | [_], _ => rfl
  have F3 := fun_mk (st := s_write_code) l3 c3 k3
  have b3 := F3.binds (ps := ["writer", "k", "n"]) fun _ _ _ _ _ _ us hl => match us, hl with | [_, _, _], _ => rfl
  have F4 := fun_mk (st := s_read_code) l4 c4 k4
  have b4 := F4.binds (ps := ["reader", "k"]) fun _ _ _ _ _ _ us hl => match us, hl with | [_, _], _ => rfl
  have F5 := fun_mk (st := s_legal_partition_order) l5 c5 k5
  have b5 := F5.binds (ps := ["size", "order", "partition_order"]) fun _ _ _ _ _ _ us hl => match us, hl with | [_, _, _], _ => rfl
  have F6 := fun_mk (st := s_partition_sizes) l6 c6 k6
  have b6 := F6.binds (ps := ["size", "order", "partition_order"]) fun _ _ _ _ _ _ us hl => match us, hl with | [_, _, _], _ => rfl
  have F7 := fun_mk (st := s_write_residuals) l7 c7 k7
  have b7 := F7.binds (ps := ["writer", "plan", "residuals", "order"]) fun _ _ _ _ _ _ us hl => match us, hl with | [_, _, _, _], _ => rfl
  have F8 := fun_mk (st := s_read_residuals) l8 c8 k8
  have b8 := F8.binds (ps := ["reader", "size", "order"]) fun _ _ _ _ _ _ us hl => match us, hl with | [_, _, _], _ => rfl
  have F9 := fun_mk (st := s_parts) l9 c9 k9
  have b9 := F9.binds (ps := ["residuals", "order", "partition_order"]) fun _ _ _ _ _ _ us hl => match us, hl with | [_, _, _], _ => rfl
  have F10 := fun_mk (st := s_coding_width) l10 c10 k10
  have b10 := F10.binds (ps := ["method"]) fun _ _ _ _ _ _ us hl => match us, hl with | [_], _ => rfl
  have F11 := fun_mk (st := s_raw_mark) l11 c11 k11
  have b11 := F11.binds (ps := ["method"]) fun _ _ _ _ _ _ us hl => match us, hl with | [_], _ => rfl
  have F12 := fun_mk (st := s_write_coding) l12 c12 k12
  have b12 := F12.binds (ps := ["writer", "method", "coding"]) fun _ _ _ _ _ _ us hl => match us, hl with | [_, _, _], _ => rfl
  have F13 := fun_mk (st := s_write_part) l13 c13 k13
  have b13 := F13.binds (ps := ["writer", "coding", "part"]) fun _ _ _ _ _ _ us hl => match us, hl with | [_, _, _], _ => rfl
  have F14 := fun_mk (st := s_read_method) l14 c14 k14
  have b14 := F14.binds (ps := ["reader"]) fun _ _ _ _ _ _ us hl => match us, hl with | [_], _ => rfl
  have F15 := fun_mk (st := s_read_partition_order) l15 c15 k15
  have b15 := F15.binds (ps := ["reader", "size", "order"]) fun _ _ _ _ _ _ us hl => match us, hl with | [_, _, _], _ => rfl
  have F16 := fun_mk (st := s_read_coding) l16 c16 k16
  have b16 := F16.binds (ps := ["reader", "method"]) fun _ _ _ _ _ _ us hl => match us, hl with | [_, _], _ => rfl
  have F17 := fun_mk (st := s_read_part) l17 c17 k17
  have b17 := F17.binds (ps := ["reader", "coding", "count"]) fun _ _ _ _ _ _ us hl => match us, hl with | [_, _, _], _ => rfl
  have F18 := fun_mk (st := s_read_residual) l18 c18 k18
  have b18 := F18.binds (ps := ["reader", "k"]) fun _ _ _ _ _ _ us hl => match us, hl with | [_, _], _ => rfl
  have F19 : FunD K "best_coding" "best_coding" (defArgs s_best_coding) (defBody s_best_coding) (defScope s_best_coding) [] [] _ _ := ⟨⟨_, _, _, _, _, _, _, _, _, _, rfl, l19, c19, (.inl ⟨rfl, rfl⟩), (.inl rfl)⟩, k19⟩
  have kb2_highest_wide_19 : KBn K _ ["residuals", "order", "highest", "wide"] 2 ["highest", "wide"] (fun us ws => us ++ ws) (fun us ws => us ++ ws) := fund_kb0 F19 2 ["highest", "wide"] (fun h1 h2 => Vals.append h1 h2) fun kV doc pm an cdv ct us ws hu hw => match us, hu, ws, hw with | [_, _], _, [_, _], _ => rfl
  have F20 := fun_mk (st := s_width) l20 c20 k20
  have b20 := F20.binds (ps := ["folded"]) fun _ _ _ _ _ _ us hl => match us, hl with | [_], _ => rfl
  have F21 := fun_mk (st := s_measured) l21 c21 k21
  have b21 := F21.binds (ps := ["residuals"]) fun _ _ _ _ _ _ us hl => match us, hl with | [_], _ => rfl
  have F22 := fun_mk (st := s_measured_parts) l22 c22 k22
  have b22 := F22.binds (ps := ["residuals", "sizes"]) fun _ _ _ _ _ _ us hl => match us, hl with | [_, _], _ => rfl
  have F23 := fun_mk (st := s_joined_in_pairs) l23 c23 k23
  have b23 := F23.binds (ps := ["parts"]) fun _ _ _ _ _ _ us hl => match us, hl with | [_], _ => rfl
  have F24 := fun_mk (st := s_joined) l24 c24 k24
  have b24 := F24.binds (ps := ["part", "other"]) fun _ _ _ _ _ _ us hl => match us, hl with | [_, _], _ => rfl
  have F25 := fun_mk (st := s_entry) l25 c25 k25
  have b25 := F25.binds (ps := ["part", "method"]) fun _ _ _ _ _ _ us hl => match us, hl with | [_, _], _ => rfl
  have F26 := fun_mk (st := s_entries) l26 c26 k26
  have b26 := F26.binds (ps := ["parts", "method"]) fun _ _ _ _ _ _ us hl => match us, hl with | [_, _], _ => rfl
  have F27 := fun_mk (st := s_BitWriter_init) l27 c27 k27
  have b27 := F27.binds (ps := ["self"]) fun _ _ _ _ _ _ us hl => match us, hl with | [_], _ => rfl
  have F28 := fun_mk (st := s_BitWriter_write) l28 c28 k28
  have b28 := F28.binds (ps := ["self", "width", "value"]) fun _ _ _ _ _ _ us hl => match us, hl with | [_, _, _], _ => rfl
  have F29 := fun_mk (st := s_BitWriter_write_signed) l29 c29 k29
  have b29 := F29.binds (ps := ["self", "width", "value"]) fun _ _ _ _ _ _ us hl => match us, hl with | [_, _, _], _ => rfl
  have F30 := fun_mk (st := s_BitWriter_write_unary) l30 c30 k30
  have b30 := F30.binds (ps := ["self", "count"]) fun _ _ _ _ _ _ us hl => match us, hl with | [_, _], _ => rfl
  have F31 := fun_mk (st := s_BitWriter_pad) l31 c31 k31
  have b31 := F31.binds (ps := ["self"]) fun _ _ _ _ _ _ us hl => match us, hl with | [_], _ => rfl
  have F32 := fun_mk (st := s_BitWriter_byte_list) l32 c32 k32
  have b32 := F32.binds (ps := ["self"]) fun _ _ _ _ _ _ us hl => match us, hl with | [_], _ => rfl
  have F33 := fun_mk (st := s_BitWriter_bits_written) l33 c33 k33
  have b33 := F33.binds (ps := ["self"]) fun _ _ _ _ _ _ us hl => match us, hl with | [_], _ => rfl
  have F34 : FunD K "__init__" "BitReader.__init__" (defArgs s_BitReader_init) (defBody s_BitReader_init) (defScope s_BitReader_init) [V.int 0] [] _ _ := ⟨⟨_, _, _, _, _, _, _, _, _, _, rfl, l34, c34, (.inr ⟨by simp, DT34, _, [du34_0], tn34, rfl, t34, rfl, (.cons rd34_0 .nil)⟩), (.inl rfl)⟩, k34⟩
  obtain ⟨e2_34, v2_34, b2_34⟩ := F34.binds1 (ps := ["self", "data", "at"]) 2 0 (by simp) rfl fun T0 kV doc pm an cdv ct us its hu hi => match us, hu, its, hi with | [_, _], _, [_], _ => ⟨_, rfl, rfl⟩
  have F35 := fun_mk (st := s_BitReader_read) l35 c35 k35
  have b35 := F35.binds (ps := ["self", "width"]) fun _ _ _ _ _ _ us hl => match us, hl with | [_, _], _ => rfl
  have F36 := fun_mk (st := s_BitReader_read_signed) l36 c36 k36
  have b36 := F36.binds (ps := ["self", "width"]) fun _ _ _ _ _ _ us hl => match us, hl with | [_, _], _ => rfl
  have F37 := fun_mk (st := s_BitReader_read_unary) l37 c37 k37
  have b37 := F37.binds (ps := ["self"]) fun _ _ _ _ _ _ us hl => match us, hl with | [_], _ => rfl
  have F38 := fun_mk (st := s_BitReader_rest_of_byte) l38 c38 k38
  have b38 := F38.binds (ps := ["self"]) fun _ _ _ _ _ _ us hl => match us, hl with | [_], _ => rfl
  have F39 := fun_mk (st := s_BitReader_byte_place) l39 c39 k39
  have b39 := F39.binds (ps := ["self"]) fun _ _ _ _ _ _ us hl => match us, hl with | [_], _ => rfl
  have F40 := fun_mk (st := s_law_cell) l40 c40 k40
  have b40 := F40.binds (ps := ["script", "k"]) fun _ _ _ _ _ _ us hl => match us, hl with | [_, _], _ => rfl
  have F41 := fun_mk (st := s_law_integer) l41 c41 k41
  have b41 := F41.binds (ps := ["value"]) fun _ _ _ _ _ _ us hl => match us, hl with | [_], _ => rfl
  have F42 := fun_mk (st := s_law_integers) l42 c42 k42
  have b42 := F42.binds (ps := ["values"]) fun _ _ _ _ _ _ us hl => match us, hl with | [_], _ => rfl
  have F43 := fun_mk (st := s_law_row) l43 c43 k43
  have b43 := F43.binds (ps := ["cell", "count", "bound"]) fun _ _ _ _ _ _ us hl => match us, hl with | [_, _, _], _ => rfl
  have F44 := fun_mk (st := s_law_residuals) l44 c44 k44
  have b44 := F44.binds (ps := ["cell", "count", "shape"]) fun _ _ _ _ _ _ us hl => match us, hl with | [_, _, _], _ => rfl
  have F45 := fun_mk (st := s_law) l45 c45 k45
  have b45 := F45.binds (ps := ["script"]) fun _ _ _ _ _ _ us hl => match us, hl with | [_], _ => rfl
  let T : TX K mg := ⟨f1, _, F1, b1, (PySem.W.mg_of X G a1), f2, _, F2, b2, (PySem.W.mg_of X G a2), f3, _, F3, b3, (PySem.W.mg_of X G a3), f4, _, F4, b4, (PySem.W.mg_of X G a4), f5, _, F5, b5, (PySem.W.mg_of X G a5), f6, _, F6, b6, (PySem.W.mg_of X G a6), f7, _, F7, b7, (PySem.W.mg_of X G a7), f8, _, F8, b8, (PySem.W.mg_of X G a8), f9, _, F9, b9, (PySem.W.mg_of X G a9), f10, _, F10, b10, (PySem.W.mg_of X G a10), f11, _, F11, b11, (PySem.W.mg_of X G a11), f12, _, F12, b12, (PySem.W.mg_of X G a12), f13, _, F13, b13, (PySem.W.mg_of X G a13), f14, _, F14, b14, (PySem.W.mg_of X G a14), f15, _, F15, b15, (PySem.W.mg_of X G a15), f16, _, F16, b16, (PySem.W.mg_of X G a16), f17, _, F17, b17, (PySem.W.mg_of X G a17), f18, _, F18, b18, (PySem.W.mg_of X G a18), f19, _, F19, kb2_highest_wide_19, (PySem.W.mg_of X G a19), f20, _, F20, b20, (PySem.W.mg_of X G a20), f21, _, F21, b21, (PySem.W.mg_of X G a21), f22, _, F22, b22, (PySem.W.mg_of X G a22), f23, _, F23, b23, (PySem.W.mg_of X G a23), f24, _, F24, b24, (PySem.W.mg_of X G a24), f25, _, F25, b25, (PySem.W.mg_of X G a25), f26, _, F26, b26, (PySem.W.mg_of X G a26), f27, _, F27, b27, f28, _, F28, b28, f29, _, F29, b29, f30, _, F30, b30, f31, _, F31, b31, f32, _, F32, b32, f33, _, F33, b33, f34, _, F34, e2_34, v2_34, b2_34, f35, _, F35, b35, f36, _, F36, b36, f37, _, F37, b37, f38, _, F38, b38, f39, _, F39, b39, f40, _, F40, b40, (PySem.W.mg_of X G a40), f41, _, F41, b41, (PySem.W.mg_of X G a41), f42, _, F42, b42, (PySem.W.mg_of X G a42), f43, _, F43, b43, (PySem.W.mg_of X G a43), f44, _, F44, b44, (PySem.W.mg_of X G a44), fa, _, F45, b45, (PySem.W.mg_of X G a45), C_BitWriter, ⟨pg_BitWriter, hd_BitWriter, po_BitWriter, sa_BitWriter⟩, (PySem.W.mg_of X G aC_BitWriter), ⟨mk_BitWriter, a27, i27, kc_BitWriter⟩, ⟨a28, i28, k28⟩, ⟨a29, i29, k29⟩, ⟨a30, i30, k30⟩, ⟨a31, i31, k31⟩, ⟨a32, i32, k32⟩, ⟨a33, i33, k33⟩, n_BitWriter_whole, n_BitWriter_held, n_BitWriter_held_bits, C_BitReader, ⟨pg_BitReader, hd_BitReader, po_BitReader, sa_BitReader⟩, (PySem.W.mg_of X G aC_BitReader), ⟨mk_BitReader, a34, i34, kc_BitReader⟩, ⟨a35, i35, k35⟩, ⟨a36, i36, k36⟩, ⟨a37, i37, k37⟩, ⟨a38, i38, k38⟩, ⟨a39, i39, k39⟩, n_BitReader_data, n_BitReader_position, (PySem.W.mg_none_of X G z_zip), (PySem.W.mg_none_of X G z_tuple), (PySem.W.mg_none_of X G z_len), (PySem.W.mg_none_of X G z_range), (PySem.W.mg_none_of X G z_max), (PySem.W.mg_none_of X G z_min), (PySem.W.mg_none_of X G z_sum), (PySem.W.mg_none_of X G z_list), (PySem.W.mg_none_of X G z_isinstance), (PySem.W.mg_none_of X G z_int), (PySem.W.mg_none_of X G z_bool), (PySem.W.mg_none_of X G z_all), (PySem.W.mg_none_of X G z_abs), u_BOUND, (PySem.W.mg_of X G q_BOUND), r_BOUND, A_PARAMETERS, (PySem.W.mg_of X G q_PARAMETERS), (fun H => .inr ⟨_, _, _, l_PARAMETERS, rfl, rfl, Nat.le_of_ble_eq_true rfl, (.cons r_PARAMETERS_0 (.cons r_PARAMETERS_1 .nil))⟩), u_MOST_RAW_WIDTH, (PySem.W.mg_of X G q_MOST_RAW_WIDTH), r_MOST_RAW_WIDTH, u_HEAD_BITS, (PySem.W.mg_of X G q_HEAD_BITS), r_HEAD_BITS, u_MOST_ZEROS, (PySem.W.mg_of X G q_MOST_ZEROS), r_MOST_ZEROS⟩
  exact ⟨_, fun s v => .of_eq rfl, fun base _ _ => ok_law T⟩
end K66
open PySem PySem.W PyProof.Rows
set_option maxRecDepth 100000 in
set_option maxHeartbeats 0 in
theorem PySem.Challenge.cw_monochord_k66_best_coding_written_and_re_holds : PySem.Challenge.rw_monochord_k66_best_coding_written_and_re.Holds := by
  w_on; o_law; k_head; (case hw => w_witness2)
  k_fill
  refine L2.walk_of (l := PySem.Challenge.rw_monochord_k66_best_coding_written_and_re) (n := 63) (k := 8) (x := "script") (CX := fun _ => L2.CX0) (sp := fun w => K66.sp_law _) rfl (by decide) rfl ⟨rfl, by decide, by decide⟩ (fun w h Y => PySem.W.kIn_of Y) ?F (fun _ _ a ns hl _ hS => ⟨a, ns, rfl, hS, hl, fun _ => rfl⟩) (fun _ _ _ _ _ h => h)
  case F =>
    intro w mg fa h KX G hmg
    refine' K66.all_mk KX G hmg ?a1 ?l1 ?c1 ?k1 ?a2 ?l2 ?c2 ?k2 ?a3 ?l3 ?c3 ?k3 ?a4 ?l4 ?c4 ?k4 ?a5 ?l5 ?c5 ?k5 ?a6 ?l6 ?c6 ?k6 ?a7 ?l7 ?c7 ?k7 ?a8 ?l8 ?c8 ?k8 ?a9 ?l9 ?c9 ?k9 ?a10 ?l10 ?c10 ?k10 ?a11 ?l11 ?c11 ?k11 ?a12 ?l12 ?c12 ?k12 ?a13 ?l13 ?c13 ?k13 ?a14 ?l14 ?c14 ?k14 ?a15 ?l15 ?c15 ?k15 ?a16 ?l16 ?c16 ?k16 ?a17 ?l17 ?c17 ?k17 ?a18 ?l18 ?c18 ?k18 ?a19 ?l19 ?c19 ?k19 ?a20 ?l20 ?c20 ?k20 ?a21 ?l21 ?c21 ?k21 ?a22 ?l22 ?c22 ?k22 ?a23 ?l23 ?c23 ?k23 ?a24 ?l24 ?c24 ?k24 ?a25 ?l25 ?c25 ?k25 ?a26 ?l26 ?c26 ?k26 ?a27 ?i27 ?l27 ?c27 ?k27 ?a28 ?i28 ?l28 ?c28 ?k28 ?a29 ?i29 ?l29 ?c29 ?k29 ?a30 ?i30 ?l30 ?c30 ?k30 ?a31 ?i31 ?l31 ?c31 ?k31 ?a32 ?i32 ?l32 ?c32 ?k32 ?a33 ?i33 ?l33 ?c33 ?k33 ?a34 ?i34 ?l34 ?c34 ?k34 ?t34 ?rd34_0 ?a35 ?i35 ?l35 ?c35 ?k35 ?a36 ?i36 ?l36 ?c36 ?k36 ?a37 ?i37 ?l37 ?c37 ?k37 ?a38 ?i38 ?l38 ?c38 ?k38 ?a39 ?i39 ?l39 ?c39 ?k39 ?a40 ?l40 ?c40 ?k40 ?a41 ?l41 ?c41 ?k41 ?a42 ?l42 ?c42 ?k42 ?a43 ?l43 ?c43 ?k43 ?a44 ?l44 ?c44 ?k44 ?a45 ?l45 ?c45 ?k45 ?aC_BitWriter ?pg_BitWriter ?hd_BitWriter ?po_BitWriter ?sa_BitWriter ?mk_BitWriter ?kc_BitWriter ?n_BitWriter_whole ?n_BitWriter_held ?n_BitWriter_held_bits ?aC_BitReader ?pg_BitReader ?hd_BitReader ?po_BitReader ?sa_BitReader ?mk_BitReader ?kc_BitReader ?n_BitReader_data ?n_BitReader_position ?z_zip ?z_tuple ?z_len ?z_range ?z_max ?z_min ?z_sum ?z_list ?z_isinstance ?z_int ?z_bool ?z_all ?z_abs ?q_BOUND ?r_BOUND ?q_PARAMETERS ?l_PARAMETERS ?r_PARAMETERS_0 ?r_PARAMETERS_1 ?q_MOST_RAW_WIDTH ?r_MOST_RAW_WIDTH ?q_HEAD_BITS ?r_HEAD_BITS ?q_MOST_ZEROS ?r_MOST_ZEROS
    (case aC_BitWriter => k_is)
    (case aC_BitReader => k_is)
    (case a1 => k_is)
    (case l1 => k_is)
    (case c1 => k_is)
    (case k1 => k_is)
    (case a2 => k_is)
    (case l2 => k_is)
    (case c2 => k_is)
    (case k2 => k_is)
    (case a3 => k_is)
    (case l3 => k_is)
    (case c3 => k_is)
    (case k3 => k_is)
    (case a4 => k_is)
    (case l4 => k_is)
    (case c4 => k_is)
    (case k4 => k_is)
    (case a5 => k_is)
    (case l5 => k_is)
    (case c5 => k_is)
    (case k5 => k_is)
    (case a6 => k_is)
    (case l6 => k_is)
    (case c6 => k_is)
    (case k6 => k_is)
    (case a7 => k_is)
    (case l7 => k_is)
    (case c7 => k_is)
    (case k7 => k_is)
    (case a8 => k_is)
    (case l8 => k_is)
    (case c8 => k_is)
    (case k8 => k_is)
    (case a9 => k_is)
    (case l9 => k_is)
    (case c9 => k_is)
    (case k9 => k_is)
    (case a10 => k_is)
    (case l10 => k_is)
    (case c10 => k_is)
    (case k10 => k_is)
    (case a11 => k_is)
    (case l11 => k_is)
    (case c11 => k_is)
    (case k11 => k_is)
    (case a12 => k_is)
    (case l12 => k_is)
    (case c12 => k_is)
    (case k12 => k_is)
    (case a13 => k_is)
    (case l13 => k_is)
    (case c13 => k_is)
    (case k13 => k_is)
    (case a14 => k_is)
    (case l14 => k_is)
    (case c14 => k_is)
    (case k14 => k_is)
    (case a15 => k_is)
    (case l15 => k_is)
    (case c15 => k_is)
    (case k15 => k_is)
    (case a16 => k_is)
    (case l16 => k_is)
    (case c16 => k_is)
    (case k16 => k_is)
    (case a17 => k_is)
    (case l17 => k_is)
    (case c17 => k_is)
    (case k17 => k_is)
    (case a18 => k_is)
    (case l18 => k_is)
    (case c18 => k_is)
    (case k18 => k_is)
    (case a19 => k_is)
    (case l19 => k_is)
    (case c19 => k_is)
    (case k19 => k_is)
    (case a20 => k_is)
    (case l20 => k_is)
    (case c20 => k_is)
    (case k20 => k_is)
    (case a21 => k_is)
    (case l21 => k_is)
    (case c21 => k_is)
    (case k21 => k_is)
    (case a22 => k_is)
    (case l22 => k_is)
    (case c22 => k_is)
    (case k22 => k_is)
    (case a23 => k_is)
    (case l23 => k_is)
    (case c23 => k_is)
    (case k23 => k_is)
    (case a24 => k_is)
    (case l24 => k_is)
    (case c24 => k_is)
    (case k24 => k_is)
    (case a25 => k_is)
    (case l25 => k_is)
    (case c25 => k_is)
    (case k25 => k_is)
    (case a26 => k_is)
    (case l26 => k_is)
    (case c26 => k_is)
    (case k26 => k_is)
    (case a27 => k_is)
    (case i27 => k_is)
    (case l27 => k_is)
    (case c27 => k_is)
    (case k27 => k_is)
    (case a28 => k_is)
    (case i28 => k_is)
    (case l28 => k_is)
    (case c28 => k_is)
    (case k28 => k_is)
    (case a29 => k_is)
    (case i29 => k_is)
    (case l29 => k_is)
    (case c29 => k_is)
    (case k29 => k_is)
    (case a30 => k_is)
    (case i30 => k_is)
    (case l30 => k_is)
    (case c30 => k_is)
    (case k30 => k_is)
    (case a31 => k_is)
    (case i31 => k_is)
    (case l31 => k_is)
    (case c31 => k_is)
    (case k31 => k_is)
    (case a32 => k_is)
    (case i32 => k_is)
    (case l32 => k_is)
    (case c32 => k_is)
    (case k32 => k_is)
    (case a33 => k_is)
    (case i33 => k_is)
    (case l33 => k_is)
    (case c33 => k_is)
    (case k33 => k_is)
    (case a34 => k_is)
    (case i34 => k_is)
    (case l34 => k_is)
    (case c34 => k_is)
    (case k34 => k_is)
    (case t34 => k_is)
    (case rd34_0 => first | rfl | exact ⟨_, rfl⟩)
    (case a35 => k_is)
    (case i35 => k_is)
    (case l35 => k_is)
    (case c35 => k_is)
    (case k35 => k_is)
    (case a36 => k_is)
    (case i36 => k_is)
    (case l36 => k_is)
    (case c36 => k_is)
    (case k36 => k_is)
    (case a37 => k_is)
    (case i37 => k_is)
    (case l37 => k_is)
    (case c37 => k_is)
    (case k37 => k_is)
    (case a38 => k_is)
    (case i38 => k_is)
    (case l38 => k_is)
    (case c38 => k_is)
    (case k38 => k_is)
    (case a39 => k_is)
    (case i39 => k_is)
    (case l39 => k_is)
    (case c39 => k_is)
    (case k39 => k_is)
    (case a40 => k_is)
    (case l40 => k_is)
    (case c40 => k_is)
    (case k40 => k_is)
    (case a41 => k_is)
    (case l41 => k_is)
    (case c41 => k_is)
    (case k41 => k_is)
    (case a42 => k_is)
    (case l42 => k_is)
    (case c42 => k_is)
    (case k42 => k_is)
    (case a43 => k_is)
    (case l43 => k_is)
    (case c43 => k_is)
    (case k43 => k_is)
    (case a44 => k_is)
    (case l44 => k_is)
    (case c44 => k_is)
    (case k44 => k_is)
    (case a45 => k_is)
    (case l45 => k_is)
    (case c45 => k_is)
    (case k45 => k_is)
    (case pg_BitWriter => k_is)
    (case hd_BitWriter => k_is)
    (case po_BitWriter => k_is)
    (case sa_BitWriter => k_is)
    (case mk_BitWriter => k_is)
    (case kc_BitWriter => k_is)
    (case n_BitWriter_whole => k_is)
    (case n_BitWriter_held => k_is)
    (case n_BitWriter_held_bits => k_is)
    (case pg_BitReader => k_is)
    (case hd_BitReader => k_is)
    (case po_BitReader => k_is)
    (case sa_BitReader => k_is)
    (case mk_BitReader => k_is)
    (case kc_BitReader => k_is)
    (case n_BitReader_data => k_is)
    (case n_BitReader_position => k_is)
    (case z_zip => k_is)
    (case z_tuple => k_is)
    (case z_len => k_is)
    (case z_range => k_is)
    (case z_max => k_is)
    (case z_min => k_is)
    (case z_sum => k_is)
    (case z_list => k_is)
    (case z_isinstance => k_is)
    (case z_int => k_is)
    (case z_bool => k_is)
    (case z_all => k_is)
    (case z_abs => k_is)
    (case q_BOUND => k_is)
    (case r_BOUND => first | rfl | exact ⟨_, rfl⟩)
    (case q_PARAMETERS => k_is)
    (case l_PARAMETERS => k_is)
    (case r_PARAMETERS_0 => first | rfl | exact ⟨_, rfl⟩)
    (case r_PARAMETERS_1 => first | rfl | exact ⟨_, rfl⟩)
    (case q_MOST_RAW_WIDTH => k_is)
    (case r_MOST_RAW_WIDTH => first | rfl | exact ⟨_, rfl⟩)
    (case q_HEAD_BITS => k_is)
    (case r_HEAD_BITS => first | rfl | exact ⟨_, rfl⟩)
    (case q_MOST_ZEROS => k_is)
    (case r_MOST_ZEROS => first | rfl | exact ⟨_, rfl⟩)
