import PyProof.Rows.All
import Wide.All
import OpenK.AllK
import Wide.FinOn
import HandS.ForMost
import HandS.Steps
import HandS.Evl
import HandS.IsInst
import HandS.Defaults
import HandS.Wide
import HandS.WideBits
import PySem.Challenge.RW_monochord_k01_fields_of_a_writer
set_option Elab.async false
set_option linter.all false
set_option maxRecDepth 100000
set_option maxHeartbeats 4000000
namespace K01
open PySem PySem.Spec PyProof.Rows L2 Evl
def topS (i : Nat) : Stmt := PySem.Challenge.pw_monochord_k01_fields_of_a_writer.main.body.getD i (.Pass ⟨0, 0, 0, 0⟩)
abbrev s_BitWriter_init : Stmt := inClass (topS 2) 0
theorem sc_BitWriter_init : FnScope ["self"] ["self"] (defScope s_BitWriter_init) := ⟨rfl, rfl, rfl, by decide +kernel, rfl, by decide +kernel, by decide +kernel⟩
abbrev s_BitWriter_write : Stmt := inClass (topS 2) 1
theorem sc_BitWriter_write : FnScope ["self", "width", "value", "held", "held_bits"] ["self", "width", "value"] (defScope s_BitWriter_write) := ⟨rfl, rfl, rfl, by decide +kernel, rfl, by decide +kernel, by decide +kernel⟩
abbrev s_BitWriter_write_signed : Stmt := inClass (topS 2) 2
theorem sc_BitWriter_write_signed : FnScope ["self", "width", "value"] ["self", "width", "value"] (defScope s_BitWriter_write_signed) := ⟨rfl, rfl, rfl, by decide +kernel, rfl, by decide +kernel, by decide +kernel⟩
abbrev s_BitWriter_write_unary : Stmt := inClass (topS 2) 3
theorem sc_BitWriter_write_unary : FnScope ["self", "count", "zeros"] ["self", "count"] (defScope s_BitWriter_write_unary) := ⟨rfl, rfl, rfl, by decide +kernel, rfl, by decide +kernel, by decide +kernel⟩
abbrev s_BitWriter_pad : Stmt := inClass (topS 2) 4
theorem sc_BitWriter_pad : FnScope ["self"] ["self"] (defScope s_BitWriter_pad) := ⟨rfl, rfl, rfl, by decide +kernel, rfl, by decide +kernel, by decide +kernel⟩
abbrev s_BitWriter_append_bytes : Stmt := inClass (topS 2) 5
theorem sc_BitWriter_append_bytes : FnScope ["self", "data", "byte"] ["self", "data"] (defScope s_BitWriter_append_bytes) := ⟨rfl, rfl, rfl, by decide +kernel, rfl, by decide +kernel, by decide +kernel⟩
abbrev s_BitWriter_byte_list : Stmt := inClass (topS 2) 6
theorem sc_BitWriter_byte_list : FnScope ["self"] ["self"] (defScope s_BitWriter_byte_list) := ⟨rfl, rfl, rfl, by decide +kernel, rfl, by decide +kernel, by decide +kernel⟩
abbrev s_BitWriter_bits_written : Stmt := inClass (topS 2) 7
theorem sc_BitWriter_bits_written : FnScope ["self"] ["self"] (defScope s_BitWriter_bits_written) := ⟨rfl, rfl, rfl, by decide +kernel, rfl, by decide +kernel, by decide +kernel⟩
abbrev s_law_draw : Stmt := topS 4
theorem sc_law_draw : FnScope ["cell", "many", "bound", "numbers", "k", "seed", "mixed"] ["cell", "many", "bound"] (defScope s_law_draw) := ⟨rfl, rfl, rfl, by decide +kernel, rfl, by decide +kernel, by decide +kernel⟩
abbrev s_law_is_integer : Stmt := topS 5
theorem sc_law_is_integer : FnScope ["actual"] ["actual"] (defScope s_law_is_integer) := ⟨rfl, rfl, rfl, by decide +kernel, rfl, by decide +kernel, by decide +kernel⟩
abbrev s_law_same : Stmt := topS 6
theorem sc_law_same : FnScope ["actual", "expected", "k"] ["actual", "expected"] (defScope s_law_same) := ⟨rfl, rfl, rfl, by decide +kernel, rfl, by decide +kernel, by decide +kernel⟩
abbrev s_law_bits : Stmt := topS 7
theorem sc_law_bits : FnScope ["width", "value", "k"] ["width", "value"] (defScope s_law_bits) := ⟨rfl, rfl, rfl, by decide +kernel, rfl, by decide +kernel, by decide +kernel⟩
abbrev s_law_bytes : Stmt := topS 8
theorem sc_law_bytes : FnScope ["bits", "whole", "result", "k", "byte", "bit"] ["bits"] (defScope s_law_bytes) := ⟨rfl, rfl, rfl, by decide +kernel, rfl, by decide +kernel, by decide +kernel⟩
abbrev s_law_value : Stmt := topS 9
theorem sc_law_value : FnScope ["numbers", "width", "value"] ["numbers", "width"] (defScope s_law_value) := ⟨rfl, rfl, rfl, by decide +kernel, rfl, by decide +kernel, by decide +kernel⟩
abbrev s_law_width : Stmt := topS 10
theorem sc_law_width : FnScope ["numbers"] ["numbers"] (defScope s_law_width) := ⟨rfl, rfl, rfl, by decide +kernel, rfl, by decide +kernel, by decide +kernel⟩
abbrev s_law_zeros : Stmt := topS 11
theorem sc_law_zeros : FnScope ["numbers"] ["numbers"] (defScope s_law_zeros) := ⟨rfl, rfl, rfl, by decide +kernel, rfl, by decide +kernel, by decide +kernel⟩
abbrev s_law_step : Stmt := topS 12
theorem sc_law_step : FnScope ["writer", "bits", "numbers", "kind", "width", "value", "told", "zeros", "data", "byte", "k"] ["writer", "bits", "numbers"] (defScope s_law_step) := ⟨rfl, rfl, rfl, by decide +kernel, rfl, by decide +kernel, by decide +kernel⟩
abbrev s_law_right : Stmt := topS 13
theorem sc_law_right : FnScope ["writer", "bits", "many"] ["writer", "bits"] (defScope s_law_right) := ⟨rfl, rfl, rfl, by decide +kernel, rfl, by decide +kernel, by decide +kernel⟩
abbrev s_law : Stmt := topS 14
theorem sc_law : FnScope ["script", "writers", "bits", "cell", "numbers", "which", "told", "k", "first"] ["script"] (defScope s_law) := ⟨rfl, rfl, rfl, by decide +kernel, rfl, by decide +kernel, by decide +kernel⟩
theorem hu64 {A : Around} {k : Nat} (hr : Room k A) : A.units + 64 < cLine := hr.units
/-! ### short words for readings -/
theorem ret_eq {v w : V} {H H' : Hp} {Q : VK} (k : RetV v H Q) (ex : Ex H H') (e : w = v) : Q w H' := e ▸ k H' ex
/-- isinstance(x, T), T a built-in class -/
theorem ev_isi {K : PySem.W.Frag} {σ : L2.St} {H : Hp} {ta : TE} {x : V} {t : String} {T : String} {b : Bool} (ha : Ev ta σ H x) (ht : ∀ H1, Ex H H1 → TyX K H1 x (.type t)) (hk : kitB t T = some b) :
    Ev (tCB (rIsi K) (tCons ta (tCons (tC (.ty T)) tNil))) σ H (.bl b) :=
  ev_cb (ea_cons ha (ea_cons ev_c ea_nil)) fun H1 e Q q => ⟨x, .ty T, _, _, b, rfl, .ty T, ht H1 e, kit_ty hk, q H1 (Ex.refl H1)⟩
theorem isi_int {K : PySem.W.Frag} {H : Hp} {i : Int} : ∀ H1, Ex H H1 → TyX K H1 (V.int i) (.type "int") := fun _ _ => .base (.int _)
theorem isi_bl {K : PySem.W.Frag} {H : Hp} {b : Bool} : ∀ H1, Ex H H1 → TyX K H1 (V.bl b) (.type "bool") := fun _ _ => .base (.bl _)
theorem isi_non {K : PySem.W.Frag} {H : Hp} : ∀ H1, Ex H H1 → TyX K H1 V.non (.type "NoneType") := fun _ _ => .base .non
theorem isi_lst {K : PySem.W.Frag} {H : Hp} {a : Addr} {xs : List V} (h : H a = some (.lst xs)) : ∀ H1, Ex H H1 → TyX K H1 (V.ref a) (.type "list") := fun _ e => .base (.lst (e _ _ h))
theorem isi_tup {K : PySem.W.Frag} {H : Hp} {a : Addr} {xs : List V} (h : H a = some (.tup xs)) : ∀ H1, Ex H H1 → TyX K H1 (V.ref a) (.type "tuple") := fun _ e => .base (.tup (e _ _ h))
theorem kit_ii : kitB "int" "int" = some true := by decide +kernel
theorem kit_ib : kitB "int" "bool" = some false := by decide +kernel
theorem kit_bb : kitB "bool" "bool" = some true := by decide +kernel
theorem kit_bi : kitB "bool" "int" = some true := by decide +kernel
theorem kit_ll : kitB "list" "list" = some true := by decide +kernel
theorem kit_tt : kitB "tuple" "tuple" = some true := by decide +kernel
theorem ev_isiI {K : PySem.W.Frag} {σ : L2.St} {H : Hp} {ta : TE} {i : Int} (ha : Ev ta σ H (.int i)) : Ev (tCB (rIsi K) (tCons ta (tCons (tC (.ty "int")) tNil))) σ H (.bl true) := ev_isi ha isi_int kit_ii
theorem ev_isiB {K : PySem.W.Frag} {σ : L2.St} {H : Hp} {ta : TE} {i : Int} (ha : Ev ta σ H (.int i)) : Ev (tCB (rIsi K) (tCons ta (tCons (tC (.ty "bool")) tNil))) σ H (.bl false) := ev_isi ha isi_int kit_ib
theorem ev_isiL {K : PySem.W.Frag} {σ : L2.St} {H : Hp} {ta : TE} {a : Addr} {xs : List V} (ha : Ev ta σ H (.ref a)) (h : H a = some (.lst xs)) : Ev (tCB (rIsi K) (tCons ta (tCons (tC (.ty "list")) tNil))) σ H (.bl true) := ev_isi ha (isi_lst h) kit_ll
theorem ev_isiBB {K : PySem.W.Frag} {σ : L2.St} {H : Hp} {ta : TE} {b : Bool} (ha : Ev ta σ H (.bl b)) : Ev (tCB (rIsi K) (tCons ta (tCons (tC (.ty "bool")) tNil))) σ H (.bl true) := ev_isi ha isi_bl kit_bb
theorem ev_chain {σ : L2.St} {H : Hp} {ta tb tc : TE} {g g' : Int → Int → Bool} {a b c : Int} (ha : Ev ta σ H (.int a)) (hb : Ev tb σ H (.int b)) (hc : Ev tc σ H (.int c)) :
    Ev (tChain (rI0 fun i j => .bl (g i j)) (rI0 fun i j => .bl (g' i j)) ta tb tc) σ H (.bl (g a b && g' b c)) := fun H1 e Q q =>
  ha H1 e _ fun H2 e2 => hb H2 (e.trans e2) _ fun H3 e3 => ⟨a, b, rfl, rfl, g a b, rfl, by
    cases hg : g a b with
    | true =>
      rw [if_pos rfl]
      rw [hg, Bool.true_and] at q
      exact hc H3 ((e.trans e2).trans e3) _ fun H4 e4 => ⟨b, c, rfl, rfl, q H4 ((e2.trans e3).trans e4)⟩
    | false =>
      rw [if_neg (by decide)]
      rw [hg, Bool.false_and] at q
      exact q H3 (e2.trans e3)⟩
theorem ev_isN {σ : L2.St} {H : Hp} {ta : TE} {x : V} (ha : Ev ta σ H x) : Ev (tOp rIsN ta (tC .non)) σ H (.bl (decide (x = .non))) := fun H1 e Q q => ha H1 e _ fun H2 e2 => ⟨rfl, q H2 e2⟩
theorem ev_notN {σ : L2.St} {H : Hp} {ta : TE} {x : V} (ha : Ev ta σ H x) : Ev (tOp rNotN ta (tC .non)) σ H (.bl (!decide (x = .non))) := fun H1 e Q q => ha H1 e _ fun H2 e2 => ⟨rfl, q H2 e2⟩
theorem ev_min2 {σ : L2.St} {H : Hp} {ta tb : TE} {i j : Int} (ha : Ev ta σ H (.int i)) (hb : Ev tb σ H (.int j)) :
    Ev (tCB (fun xs H Q => ∃ i j, xs = [.int i, .int j] ∧ Q (.int (if j < i then j else i)) H) (tCons ta (tCons tb tNil))) σ H (.int (if j < i then j else i)) :=
  ev_cb (ea_cons ha (ea_cons hb ea_nil)) fun H1 _ _ q => ⟨i, j, rfl, q H1 (Ex.refl H1)⟩
theorem ev_negI {σ : L2.St} {H : Hp} {ta : TE} {i : Int} (ha : Ev ta σ H (.int i)) : Ev (tUn (rU fun i => .int (-i)) ta) σ H (.int (-i)) := ev_un ha ru_neg
theorem ev_I0 {σ : L2.St} {H : Hp} {ta tb : TE} {g : Int → Int → V} {i j : Int} (ha : Ev ta σ H (.int i)) (hb : Ev tb σ H (.int j)) : Ev (tOp (rI0 g) ta tb) σ H (g i j) := ev_op ha hb rv_I0
theorem ev_I {σ : L2.St} {H : Hp} {ta tb : TE} {C : Int → Int → Prop} {g : Int → Int → V} {i j : Int} (ha : Ev ta σ H (.int i)) (hb : Ev tb σ H (.int j)) (hc : C i j) : Ev (tOp (rI C g) ta tb) σ H (g i j) := ev_op ha hb (rv_I hc)
theorem ev_eq {σ : L2.St} {H : Hp} {ta tb : TE} {x y : V} (ha : Ev ta σ H x) (hb : Ev tb σ H y) (hs : scal x y = true) : Ev (tOp rEq ta tb) σ H (.bl (decide (x = y))) := ev_op ha hb (rv_eq hs)
theorem ev_ne {σ : L2.St} {H : Hp} {ta tb : TE} {x y : V} (ha : Ev ta σ H x) (hb : Ev tb σ H y) (hs : scal x y = true) : Ev (tOp rNe ta tb) σ H (.bl (!decide (x = y))) := ev_op ha hb (rv_ne hs)
theorem et_B' {σ : L2.St} {H : Hp} {te : TE} {x : V} {b : Bool} (h : Ev te σ H x) (e : x = .bl b) : EvT (tB te) σ H b := et_B (e ▸ h)
theorem dec_lt {a b : Nat} : decide ((a : Int) < (b : Int)) = decide (a < b) := by
  by_cases h : a < b
  · rw [decide_eq_true h, decide_eq_true (by omega)]
  · rw [decide_eq_false h, decide_eq_false (by omega)]
theorem int_at {ns : List Int} {i : Nat} {x : V} (hx : (ns.map V.int)[i]? = some x) : ∃ n, ns[i]? = some n ∧ i < ns.length ∧ x = V.int n := by
  rw [List.getElem?_map] at hx
  cases en : ns[i]? with
  | none => rw [en] at hx; cases hx
  | some n => rw [en] at hx; exact ⟨n, rfl, (List.getElem?_eq_some_iff.mp en).1, (Option.some.inj hx).symm⟩
theorem at_int {ns : List Int} {i : Nat} {n : Int} (h : ns[i]? = some n) : (ns.map V.int)[i]? = some (V.int n) := by rw [List.getElem?_map, h]; rfl
local macro_rules | `(tactic| walk_at "side") => `(tactic| first
  | omega | (show CMul _ _; unfold CMul; omega) | (show CDiv _ _; unfold CDiv; omega) | (show CPow _ _; unfold CPow; omega) | (show (_ : Int) < _; omega) | (show (_ : Int) ≤ _; omega) | decide)
local macro_rules | `(tactic| walk_at "ev") => `(tactic| first
  | exact ev_var rfl
  | exact ev_c
  | (refine' ev_I0 ?h1 ?h2; (case h1 => walk_at "ev"); (case h2 => walk_at "ev"))
  | (refine' ev_negI ?h1; (case h1 => walk_at "ev"))
  | (refine' ev_I ?h1 ?h2 ?hc; (case h1 => walk_at "ev"); (case h2 => walk_at "ev"); (case hc => walk_at "side"))
  | (refine' ev_eq ?h1 ?h2 ?hc; (case h1 => walk_at "ev"); (case h2 => walk_at "ev"); (case hc => rfl))
  | (refine' ev_ne ?h1 ?h2 ?hc; (case h1 => walk_at "ev"); (case h2 => walk_at "ev"); (case hc => rfl))
  | (refine' ev_max2 ?h1 ?h2; (case h1 => walk_at "ev"); (case h2 => walk_at "ev"))
  | (refine' ev_min2 ?h1 ?h2; (case h1 => walk_at "ev"); (case h2 => walk_at "ev"))
  | (refine' ev_chain ?h1 ?h2 ?h3; (case h1 => walk_at "ev"); (case h2 => walk_at "ev"); (case h3 => walk_at "ev"))
  | (refine' ev_isN ?h1; (case h1 => walk_at "ev"))
  | (refine' ev_notN ?h1; (case h1 => walk_at "ev"))
  | (refine' ev_isiI ?h1; (case h1 => walk_at "ev"))
  | (refine' ev_isiB ?h1; (case h1 => walk_at "ev"))
  | (refine' ev_isiBB ?h1; (case h1 => walk_at "ev"))
  | (refine' ev_andV ?h1 (fun _ => ?h2); (case h1 => walk_at "ev"); (case h2 => walk_at "ev"))
  | (refine' ev_orV ?h1 (fun _ => ?h2); (case h1 => walk_at "ev"); (case h2 => walk_at "ev"))
  | (refine' ev_notV ?h1; (case h1 => walk_at "ev"))
  | walk_at "evmore")
local macro_rules | `(tactic| walk_at "et") => `(tactic| first
  | (refine' et_test ?h1; (case h1 => walk_at "ev"))
  | (refine' et_B ?h1; (case h1 => walk_at "ev"))
  | (refine' et_not ?h1; (case h1 => walk_at "et"))
  | (refine' et_and ?h1 (fun _ => ?h2); (case h1 => walk_at "et"); (case h2 => walk_at "et"))
  | (refine' et_or ?h1 (fun _ => ?h2); (case h1 => walk_at "et"); (case h2 => walk_at "et")))
local macro_rules | `(tactic| walk_at "ea") => `(tactic| first
  | exact ea_nil
  | (refine' ea_cons ?h1 ?h2; (case h1 => walk_at "ev"); (case h2 => walk_at "ea")))
local macro_rules | `(tactic| walk_at "when") => `(tactic| (refine' q_when ?h ?h1 ?h2; (case h => walk_at "et")))
local macro_rules | `(tactic| walk_at "whenS") => `(tactic| (refine' s_when ?h ?h1 ?h2; (case h => walk_at "et")))
local macro_rules | `(tactic| walk_at "if") => `(tactic| (refine' q_if ?h ?h1 ?h2; (case h => walk_at "et")))
local macro_rules | `(tactic| walk_at "ifS") => `(tactic| (refine' s_if ?h ?h1 ?h2; (case h => walk_at "et")))
local macro_rules | `(tactic| walk_at "ret") => `(tactic| (refine' s_ret ?h ?h1; (case h => walk_at "ev")))
local macro_rules | `(tactic| walk_at "asg") => `(tactic| (refine' q_asg ?h ?h1; (case h => walk_at "ev")))
local macro_rules | `(tactic| walk_at "asgS") => `(tactic| (refine' s_asg ?h ?h1; (case h => walk_at "ev")))

/-! ### lists, existing or new -/
def EvR (te : TE) (σ : L2.St) (H : Hp) (xs : List V) : Prop := ∀ H1, Ex H H1 → ∀ Q : VK, (∀ p H2, Ex H1 H2 → H2 p = some (.lst xs) → Q (.ref p) H2) → te σ H1 Q
def EvS (K : PySem.W.Frag) (te : TE) (σ : L2.St) (H : Hp) (xs : List V) : Prop := ∀ H1, Ex H H1 → ∀ Q : VK, (∀ p H2, Ex H1 H2 → SqL K H2 p xs → Q (.ref p) H2) → te σ H1 Q
section
variable {K : PySem.W.Frag} {σ : L2.St} {H H' : Hp} {ta tb te : TE} {xs ys : List V} {a : Addr}
theorem EvL.r (h : EvL te σ H xs) : EvR te σ H xs := fun H1 e Q q => h H1 e Q fun p H2 _ e2 h2 => q p H2 e2 h2
theorem Ev.r (h : Ev te σ H (.ref a)) (hx : H a = some (.lst xs)) : EvR te σ H xs := fun H1 e Q q => h H1 e Q fun H2 e2 => q a H2 e2 (e2 _ _ (e _ _ hx))
theorem EvR.s (h : EvR te σ H xs) : EvS K te σ H xs := fun H1 e Q q => h H1 e Q fun p H2 e2 h2 => q p H2 e2 (sq_of h2)
theorem Ev.s (h : Ev te σ H (.ref a)) (hx : SqL K H a xs) : EvS K te σ H xs := fun H1 e Q q => h H1 e Q fun H2 e2 => q a H2 e2 (ex_l e2 (ex_l e hx))
theorem EvR.mono (e : Ex H H') (h : EvR te σ H xs) : EvR te σ H' xs := fun H1 a Q q => h H1 (e.trans a) Q q
theorem EvS.mono (e : Ex H H') (h : EvS K te σ H xs) : EvS K te σ H' xs := fun H1 a Q q => h H1 (e.trans a) Q q
theorem EvL.is (h : EvL te σ H xs) (e : xs = ys) : EvL te σ H ys := e ▸ h
theorem EvR.is (h : EvR te σ H xs) (e : xs = ys) : EvR te σ H ys := e ▸ h
theorem el_cat (ha : EvR ta σ H xs) (hb : EvR tb σ H ys) (hl : xs.length + ys.length ≤ 100000) : EvL (tOp rCat ta tb) σ H (xs ++ ys) := fun H1 e Q q =>
  ha H1 e _ fun p H2 e2 h2 => hb H2 (e.trans e2) _ fun r H3 e3 h3 => ⟨p, r, xs, ys, rfl, rfl, e3 _ _ h2, h3, sz_of hl, fun l hl => q l _ (fresh_back (e2.trans e3) hl) ((e2.trans e3).trans (Ex.new hl)) upd_same⟩
theorem el_rep {k : Int} (ha : EvR ta σ H xs) (hb : Ev tb σ H (.int k)) (hk : -(2 ^ 63) ≤ k ∧ k < 2 ^ 63) (hl : xs.length * k.toNat ≤ 100000) : EvL (tOp rRep ta tb) σ H (List.replicate k.toNat xs).flatten := fun H1 e Q q =>
  ha H1 e _ fun p H2 e2 h2 => hb H2 (e.trans e2) _ fun H3 e3 => ⟨p, k, xs, rfl, rfl, e3 _ _ h2, hk.1, hk.2, sz_of hl, fun l hl => q l _ (fresh_back (e2.trans e3) hl) ((e2.trans e3).trans (Ex.new hl)) upd_same⟩
theorem rep_one {x : V} (n : Nat) : (List.replicate n [x]).flatten = List.replicate n x := by
  induction n with
  | zero => rfl
  | succ n ih => rw [List.replicate_succ, List.replicate_succ, List.flatten_cons, ih]; rfl
theorem el_of {te : TE} (h : EvS K te σ H xs) : EvL (tCB (rListS K) (tCons te tNil)) σ H xs := fun H1 e Q q =>
  h H1 e _ fun p H2 e2 h2 => ⟨p, xs, rfl, .inl h2, fun l hl => q l _ (fresh_back e2 hl) (e2.trans (Ex.new hl)) upd_same⟩
theorem ev_lenS (h : EvS K te σ H xs) : Ev (tCB (rLenS K) (tCons te tNil)) σ H (.int (xs.length : Int)) := fun H1 e Q q =>
  h H1 e _ fun p H2 e2 h2 => ⟨p, xs, rfl, .inl h2, q H2 e2⟩
theorem ev_sum {ns : List Int} (h : EvS K te σ H (ns.map V.int)) : Ev (tCB (rSum K) (tCons te tNil)) σ H (.int ns.sum) := fun H1 e Q q =>
  h H1 e _ fun p H2 e2 h2 => ⟨p, ns, rfl, h2, q H2 e2⟩
theorem dp_ints {K : PySem.W.Frag} {H : Hp} : ∀ ns : List Int, DpAll K H (ns.map V.int) (ns.map PyData.int)
  | [] => .nil
  | n :: r => .cons (.int n) (dp_ints r)
theorem eqv_ints : ∀ ns ms : List Int, PyData.eqvAll (ns.map PyData.int) (ms.map PyData.int) = decide (ns = ms)
  | [], [] => by simp [PyData.eqvAll]
  | [], _ :: _ => by simp [PyData.eqvAll]
  | _ :: _, [] => by simp [PyData.eqvAll]
  | n :: r, m :: t => by
    show (PyData.eqv (.int n) (.int m) && PyData.eqvAll (r.map PyData.int) (t.map PyData.int)) = _
    rw [eqv_ints r t]
    show ((n == m) && decide (r = t)) = _
    by_cases h1 : n = m <;> by_cases h2 : r = t <;> simp [h1, h2]
theorem canLay_ints : ∀ ns : List Int, PyData.canLayAll0 (ns.map PyData.int) = true
  | [] => by simp [PyData.canLayAll0]
  | n :: r => by
    show PyData.canLayAll0 (PyData.int n :: r.map PyData.int) = true
    rw [PyData.canLayAll0, canLay_ints r]
    simp [PyData.canLay0]
theorem depth_ints : ∀ ns : List Int, PyData.depthAll (ns.map PyData.int) ≤ 1
  | [] => by simp [PyData.depthAll]
  | n :: r => by
    show PyData.depthAll (PyData.int n :: r.map PyData.int) ≤ 1
    have := depth_ints r
    simp only [PyData.depthAll, PyData.depth]
    omega
theorem shaped_ints (ns : List Int) : SeqAt.shaped (.list (ns.map PyData.int)) = true := by
  unfold SeqAt.shaped
  have h1 := canLay_ints ns
  have h2 := depth_ints ns
  have h3 : PyData.depth (.list (ns.map PyData.int)) ≤ 64 := by
    rw [PyData.depth]
    omega
  rw [decide_eq_true h3, Bool.and_true]
  simpa only [PyData.canLay0] using h1
theorem ev_eqI {ns ms : List Int} (ha : EvS K ta σ H (ns.map V.int)) (hb : EvS K tb σ H (ms.map V.int)) : Ev (tOp (rEqD K) ta tb) σ H (.bl (decide (ns = ms))) := fun H1 e Q q =>
  ha H1 e _ fun p H2 e2 h2 => hb H2 (e.trans e2) _ fun r H3 e3 h3 => ⟨.list (ns.map PyData.int), .list (ms.map PyData.int), .lst (ex_l e3 h2) (dp_ints ns), .lst h3 (dp_ints ms), shaped_ints ns, shaped_ints ms, by
    show Q (.bl (PyData.eqvAll (ns.map PyData.int) (ms.map PyData.int))) H3
    rw [eqv_ints]
    exact q H3 (e2.trans e3)⟩
theorem ev_neI {ns ms : List Int} (ha : EvS K ta σ H (ns.map V.int)) (hb : EvS K tb σ H (ms.map V.int)) : Ev (tOp (rNeD K) ta tb) σ H (.bl (!decide (ns = ms))) := fun H1 e Q q =>
  ha H1 e _ fun p H2 e2 h2 => hb H2 (e.trans e2) _ fun r H3 e3 h3 => ⟨.list (ns.map PyData.int), .list (ms.map PyData.int), .lst (ex_l e3 h2) (dp_ints ns), .lst h3 (dp_ints ms), shaped_ints ns, shaped_ints ms, by
    show Q (.bl (!PyData.eqvAll (ns.map PyData.int) (ms.map PyData.int))) H3
    rw [eqv_ints]
    exact q H3 (e2.trans e3)⟩
theorem ev_ixS {i : Nat} {n : Int} {tl ti : TE} {v : V} (h : EvS K tl σ H xs) (hi : Ev ti σ H (.int n)) (ha : atI xs n = some v) : Ev (tOp (rIxL K) tl ti) σ H v := fun H1 e Q q =>
  h H1 e _ fun p H2 e2 h2 => hi H2 (e.trans e2) _ fun H3 e3 => ⟨p, xs, n, v, rfl, rfl, ex_l e3 h2, ha, q H3 (e2.trans e3)⟩
theorem el_slS {tl th : TO} {lo hi : Option Int} (h : EvS K te σ H xs) (h1 : EvO tl σ H lo) (h2 : EvO th σ H hi) : EvL (tSl (rSlL K) te tl th) σ H (cutV xs lo hi) := fun H1 e _ q =>
  h H1 e _ fun a H2 e2 hs => h1 H2 (e.trans e2) _ fun H3 e3 => h2 H3 ((e.trans e2).trans e3) _ fun H4 e4 =>
    ⟨a, xs, rfl, ex_l (e3.trans e4) hs, fun p hp => q p _ (fresh_back ((e2.trans e3).trans e4) hp) (((e2.trans e3).trans e4).trans (Ex.new hp)) upd_same⟩
theorem ev_at {n : Int} {tl ti : TE} {v : V} (h : EvS K tl σ H xs) (hi : Ev ti σ H (.int n)) (ha : atI xs n = some v) : Ev (tOp (rIxL K) tl ti) σ H v := ev_ixS (i := 0) h hi ha
theorem cut_to (xs : List V) (i : Nat) : cutV xs none (some (i : Int)) = xs.take i := by
  unfold cutV
  rw [HT.sIx_none, HT.sIx_nat, List.drop_zero, Nat.sub_zero]
  by_cases h : i ≤ xs.length
  · rw [Nat.min_eq_left h]
  · rw [Nat.min_eq_right (by omega), List.take_of_length_le (Nat.le_refl _), List.take_of_length_le (by omega)]
theorem cut_from (xs : List V) (i : Nat) : cutV xs (some (i : Int)) none = xs.drop i := by
  unfold cutV
  rw [HT.sIx_none, HT.sIx_nat]
  by_cases h : i ≤ xs.length
  · rw [Nat.min_eq_left h, List.take_of_length_le (by rw [List.length_drop]; omega)]
  · rw [Nat.min_eq_right (by omega), List.drop_of_length_le (Nat.le_refl _), List.drop_of_length_le (show xs.length ≤ i by omega), List.take_nil]
theorem cut_mid (xs : List V) (i j : Nat) : cutV xs (some (i : Int)) (some (j : Int)) = (xs.drop i).take (j - i) := by
  unfold cutV
  rw [HT.sIx_nat, HT.sIx_nat]
  by_cases h : i ≤ xs.length
  · rw [Nat.min_eq_left h]
    by_cases h2 : j ≤ xs.length
    · rw [Nat.min_eq_left h2]
    · rw [Nat.min_eq_right (by omega), List.take_of_length_le (by rw [List.length_drop]; omega), List.take_of_length_le (by rw [List.length_drop]; omega)]
  · rw [Nat.min_eq_right (by omega : xs.length ≤ i), List.drop_of_length_le (Nat.le_refl _), List.drop_of_length_le (show xs.length ≤ i by omega)]
    simp
theorem el_to {th : TE} {ns : List Int} {i : Nat} (h : EvS K te σ H (ns.map V.int)) (h2 : Ev th σ H (.int i)) : EvL (tSl (rSlL K) te tNoPart (tPart th)) σ H ((ns.take i).map V.int) :=
  EvL.is (el_slS h eo_none (eo_some h2)) (by rw [List.map_take]; exact cut_to _ i)
theorem el_from {th : TE} {ns : List Int} {i : Nat} (h : EvS K te σ H (ns.map V.int)) (h2 : Ev th σ H (.int i)) : EvL (tSl (rSlL K) te (tPart th) tNoPart) σ H ((ns.drop i).map V.int) :=
  EvL.is (el_slS h (eo_some h2) eo_none) (by rw [List.map_drop]; exact cut_from _ i)
theorem el_mid {t1 t2 : TE} {ns : List Int} {i j : Nat} (h : EvS K te σ H (ns.map V.int)) (h1 : Ev t1 σ H (.int i)) (h2 : Ev t2 σ H (.int j)) : EvL (tSl (rSlL K) te (tPart t1) (tPart t2)) σ H (((ns.drop i).take (j - i)).map V.int) :=
  EvL.is (el_slS h (eo_some h1) (eo_some h2)) (by rw [List.map_take, List.map_drop]; exact cut_mid _ i j)
section
variable {D : Ends} {tz : TS} {sp : Sp} {dvs vs : List V} {E : XK} {tA : TA}
/-- x = f(..), whatever f promises -/
theorem q_asgC {i : Nat} (h : EvA tA σ H vs) (k : ∀ H1, Ex H H1 → sp (vs ++ dvs) H1 (fun x H2 => tz D (σ.set i (some x)) H2) E) : tSeq (tAsg (tCall sp dvs E tA) (gName i)) tz D σ H := h H (Ex.refl H) _ fun H1 e => k H1 e
theorem s_asgC {i : Nat} (h : EvA tA σ H vs) (k : ∀ H1, Ex H H1 → sp (vs ++ dvs) H1 (fun x H2 => D.nx (σ.set i (some x)) H2) E) : tAsg (tCall sp dvs E tA) (gName i) D σ H := h H (Ex.refl H) _ fun H1 e => k H1 e
theorem q_dropC (h : EvA tA σ H vs) (k : ∀ H1, Ex H H1 → sp (vs ++ dvs) H1 (fun _ H2 => tz D σ H2) E) : tSeq (tDrop (tCall sp dvs E tA)) tz D σ H := h H (Ex.refl H) _ fun H1 e => k H1 e
theorem s_retC (h : EvA tA σ H vs) (k : ∀ H1, Ex H H1 → sp (vs ++ dvs) H1 D.rt E) : tRet (tCall sp dvs E tA) D σ H := h H (Ex.refl H) _ fun H1 e => k H1 e
end
theorem gl_get {ns : List Int} {i : Nat} (h : i < ns.length) : ns[i]? = some (ns.getD i 0) := by
  rw [List.getD_eq_getElem?_getD, List.getElem?_eq_getElem h]
  rfl
theorem q_asgRaw {te : TE} {i : Nat} {D : Ends} {tz : TS} (P : V → Hp → Prop) (h : ∀ Q : VK, (∀ x H2, P x H2 → Q x H2) → te σ H Q) (k : ∀ x H2, P x H2 → tz D (σ.set i (some x)) H2) : tSeq (tAsg te (gName i)) tz D σ H := h _ k
/-- a, b = a pair -/
theorem q_asgT {te : TE} {i j : Nat} {D : Ends} {tz : TS} (P : V → V → Hp → Prop) (h : ∀ Q : VK, (∀ t x y H2, P x y H2 → SqT K H2 t [x, y] → Q (.ref t) H2) → te σ H Q) (k : ∀ x y H2, P x y H2 → tz D ((σ.set i (some x)).set j (some y)) H2) :
    tSeq (tAsg te (gTup K 2 (gCons (gName i) (gCons (gName j) gNil)))) tz D σ H := h _ fun t x y H2 hP hT => ⟨t, [x, y], rfl, hT, rfl, x, [y], rfl, y, [], rfl, rfl, k x y H2 hP⟩
/-- the law's cell -/
def cellI (ns : List Int) (k : Int) : Int := ns.getD k.toNat 0
theorem cellI_in {ns : List Int} {k : Int} (h0 : 0 ≤ k) (h : k < ns.length) : ns[k.toNat]? = some (cellI ns k) := by
  unfold cellI
  rw [List.getD_eq_getElem?_getD, List.getElem?_eq_getElem (by omega)]
  rfl
theorem cellI_out {ns : List Int} {k : Int} (h : ¬ k < ns.length) : cellI ns k = 0 := by
  unfold cellI
  rw [List.getD_eq_getElem?_getD, List.getElem?_eq_none (by omega)]
  rfl
end
theorem Ex.get {H H' : Hp} {a : Addr} {o : HO} (e : Ex H H') (h : H a = some o) : H' a = some o := e a o h
local macro_rules | `(tactic| walk_at "hp") => `(tactic| first
  | assumption
  | exact upd_same
  | (refine' Ex.get (by assumption) ?h1; (case h1 => walk_at "hp")))
local macro_rules | `(tactic| walk_at "ex") => `(tactic| first
  | assumption
  | exact Ex.refl _
  | (refine' Ex.trans ?h1 (by assumption); (case h1 => walk_at "ex")))
local macro_rules | `(tactic| walk_at "sq") => `(tactic| first
  | assumption
  | (refine' sq_of ?h1; (case h1 => walk_at "hp"))
  | (refine' ex_l (by assumption) ?h1; (case h1 => walk_at "sq")))
local macro_rules | `(tactic| walk_at "evs") => `(tactic| first
  | (refine' Ev.s ?h1 ?h2; (case h1 => exact ev_var rfl); (case h2 => walk_at "sq"))
  | (refine' EvR.s ?h1; (case h1 => walk_at "evr")))
local macro_rules | `(tactic| walk_at "evr") => `(tactic| first
  | (refine' Ev.r ?h1 ?h2; (case h1 => exact ev_var rfl); (case h2 => walk_at "hp"))
  | (refine' EvL.r ?h1; (case h1 => walk_at "el")))
local macro_rules | `(tactic| walk_at "eo") => `(tactic| first
  | exact eo_none
  | (refine' eo_some ?h1; (case h1 => walk_at "ev")))
local macro_rules | `(tactic| walk_at "el") => `(tactic| first
  | (refine' el_lst ?h1 ?h2; (case h1 => walk_at "ea"); (case h2 => exact Nat.le_of_ble_eq_true rfl))
  | (refine' el_cat ?h1 ?h2 ?h3; (case h1 => walk_at "evr"); (case h2 => walk_at "evr"); (case h3 => walk_at "len"))
  | (refine' el_rep ?h1 ?h2 ?h3 ?h4; (case h1 => walk_at "evr"); (case h2 => walk_at "ev"); (case h3 => walk_at "side2"); (case h4 => walk_at "len"))
  | (refine' el_of ?h1; (case h1 => walk_at "evs"))
  | (refine' el_to ?h1 ?h2; (case h1 => walk_at "evs"); (case h2 => walk_at "ev"))
  | (refine' el_from ?h1 ?h2; (case h1 => walk_at "evs"); (case h2 => walk_at "ev"))
  | (refine' el_mid ?h1 ?h2 ?h3; (case h1 => walk_at "evs"); (case h2 => walk_at "ev"); (case h3 => walk_at "ev"))
  | (refine' el_slS ?h1 ?h2 ?h3; (case h1 => walk_at "evs"); (case h2 => walk_at "eo"); (case h3 => walk_at "eo"))
  | walk_at "elmore")
local macro_rules | `(tactic| walk_at "evmore") => `(tactic| first
  | (refine' ev_lenS ?h1; (case h1 => walk_at "evs"))
  | (refine' ev_sum ?h1; (case h1 => walk_at "evs"))
  | (refine' ev_eqI ?h1 ?h2; (case h1 => walk_at "evs"); (case h2 => walk_at "evs"))
  | (refine' ev_neI ?h1 ?h2; (case h1 => walk_at "evs"); (case h2 => walk_at "evs"))
  | (refine' ev_at ?h1 ?h2 ?h3; (case h1 => walk_at "evs"); (case h2 => walk_at "ev"); (case h3 => walk_at "at"))
  | (refine' ev_isiL ?h1 ?h2; (case h1 => walk_at "ev"); (case h2 => walk_at "hp"))
  | walk_at "evown")
local macro_rules | `(tactic| walk_at "at") => `(tactic| first
  | exact at_of rfl (at_int (by assumption))
  | exact at_of rfl (by assumption))
local macro_rules | `(tactic| walk_at "asgL") => `(tactic| (refine' q_asgL ?h ?h1; (case h => walk_at "el")))
local macro_rules | `(tactic| walk_at "retL") => `(tactic| (refine' s_retL ?h ?h1; (case h => walk_at "el")))

/-! ### comprehensions whose items are said in a list -/
theorem et_yes {σ : L2.St} {H : Hp} : EvT tYes σ H true := fun H1 _ _ q => q H1 (Ex.refl H1)
section
variable {K : PySem.W.Frag} {σ : L2.St} {H : Hp} {t1 t2 te : TE} {xs ys zs : List V} {vs : List Nat}
theorem take_snoc {zs : List V} {i : Nat} {z : V} (h : zs[i]? = some z) : zs.take (i + 1) = zs.take i ++ [z] := by
  rw [List.take_add_one, h]
  rfl
theorem el_lcZ {j1 j2 : Nat} (zs : List V) (h1 : EvS K t1 σ H xs) (h2 : EvS K t2 σ H ys) (hz : zs.length = min xs.length ys.length) (hb : zs.length ≤ 50000)
    (hw : ∀ x y, wipe (((wipe σ vs).set j1 (some x)).set j2 (some y)) vs = wipe σ vs)
    (he : ∀ (i : Nat) (x y : V) H1, Ex H H1 → xs[i]? = some x → ys[i]? = some y → ∃ z, zs[i]? = some z ∧ Ev te (((wipe σ vs).set j1 (some x)).set j2 (some y)) H1 z) :
    EvL (tLc (iZip K (tCons t1 (tCons t2 tNil))) (gTup K 2 (gCons (gName j1) (gCons (gName j2) gNil))) tYes te vs) σ H zs := fun H0 e Q q =>
  h1 H0 e _ fun p H1 e1 hp => h2 H1 (e.trans e1) _ fun r H2 e2 hr => ⟨p, r, xs, ys, rfl, ex_l e2 hp, hr, fun D hD =>
    ⟨fun i m H' => m = zs.length - i ∧ i ≤ zs.length ∧ Ex H2 H' ∧ H' D = some (.lst (zs.take i)), ⟨zs.length, rfl, Nat.zero_le _, Ex.new hD, upd_same⟩, by
      rintro i m H' ⟨rfl, hi, ex, hd⟩
      have qx : SqL K H' p xs := ex_l (e2.trans ex) hp
      have qy : SqL K H' r ys := ex_l ex hr
      by_cases hlt : i < zs.length
      · have hx : xs[i]? = some xs[i] := List.getElem?_eq_getElem (by omega)
        have hy : ys[i]? = some ys[i] := List.getElem?_eq_getElem (by omega)
        refine .inr ⟨⟨xs, ys, _, _, qx, qy, hx, hy⟩, fun H3 => i + 1 ≤ zs.length ∧ Ex H2 H3 ∧ H3 D = some (.lst (zs.take (i + 1))), fun H3 h3 => ⟨zs.length - (i + 1), by omega, rfl, h3⟩, fun v H3 hv => ?_⟩
        obtain ⟨T, x, y, rfl, hT, rfl, f1, f2⟩ := hv
        have ex3 : Ex H' (upd H' T (.tup [x, y])) := Ex.new hT
        obtain ⟨z, hz1, hz2⟩ := he i x y (upd H' T (.tup [x, y])) ((((e.trans e1).trans e2).trans ex).trans ex3) (f1 _ qx) (f2 _ qy)
        refine ⟨T, [x, y], rfl, st_of upd_same, rfl, x, [y], rfl, y, [], rfl, rfl, hw x y, ?_⟩
        refine hz2 _ (Ex.refl _) _ fun H4 e4 => ⟨zs.take i, e4 _ _ (ex3 _ _ hd), sz_lt (by rw [List.length_take]; omega), hlt, ?_, ?_⟩
        · exact Ex.mut ((ex.trans ex3).trans e4) hD
        · rw [upd_same, take_snoc hz1]
      · have ei : i = zs.length := by omega
        refine .inl ⟨⟨xs, ys, qx, qy, by omega⟩, ?_⟩
        rw [ei, List.take_length] at hd
        exact q D H' (fresh_back (e1.trans e2) hD) ((e1.trans e2).trans ex) hd⟩⟩
/-- over a list, each item kept -/
theorem el_lcS {j : Nat} (zs : List V) (h1 : EvS K t1 σ H xs) (hz : zs.length = xs.length) (hb : zs.length ≤ 50000) (hw : ∀ x, wipe ((wipe σ vs).set j (some x)) vs = wipe σ vs)
    (he : ∀ (i : Nat) (x : V) H1, Ex H H1 → xs[i]? = some x → ∃ z, zs[i]? = some z ∧ Ev te ((wipe σ vs).set j (some x)) H1 z) :
    EvL (tLc (iList K t1) (gName j) tYes te vs) σ H zs := fun H0 e Q q =>
  h1 H0 e _ fun p H1 e1 hp => ⟨p, rfl, ⟨xs, hp⟩, fun D hD => lc_list (xs := xs) (fun i H' => Ex H1 H' ∧ H' D = some (.lst (zs.take i))) ⟨Ex.new hD, upd_same⟩ (fun i H' _ h => ex_l h.1 hp)
    (fun i x H' hi h => ⟨hw x, by
      obtain ⟨z, hz1, hz2⟩ := he i x H' ((e.trans e1).trans h.1) hi
      have hl : i < xs.length := (List.getElem?_eq_some_iff.mp hi).1
      refine hz2 H' (Ex.refl _) _ fun H4 e4 => ⟨zs.take i, e4 _ _ h.2, sz_lt (by rw [List.length_take]; omega), Ex.mut (h.1.trans e4) hD, ?_⟩
      rw [upd_same, take_snoc hz1]⟩)
    (fun H' h => q D H' (fresh_back e1 hD) (e1.trans h.1) (by rw [h.2, ← hz, List.take_length]))⟩
/-- over range(n) -/
theorem el_lcR {ta : TA} {n : Int} {j : Nat} (zs : List V) (h1 : EvA ta σ H [.int n]) (hn : -100000 ≤ n) (hz : zs.length = n.toNat) (hb : zs.length ≤ 50000) (hw : ∀ x, wipe ((wipe σ vs).set j (some x)) vs = wipe σ vs)
    (he : ∀ (i : Nat) H1, Ex H H1 → i < zs.length → ∃ z, zs[i]? = some z ∧ Ev te ((wipe σ vs).set j (some (.int (i : Int)))) H1 z) :
    EvL (tLc (iRng1 ta) (gName j) tYes te vs) σ H zs := fun H0 e Q q =>
  h1 H0 e _ fun H1 e1 => ⟨n, rfl, by omega, by omega, fun D hD => lc_range (lo := 0) (n := n.toNat) (fun i H' => Ex H1 H' ∧ H' D = some (.lst (zs.take i))) ⟨Ex.new hD, upd_same⟩
    (fun i H' hi h => by
      have e0 : (0 : Int) + (i : Int) = (i : Int) := Int.zero_add _
      rw [e0]
      obtain ⟨z, hz1, hz2⟩ := he i H' ((e.trans e1).trans h.1) (by omega)
      refine ⟨hw _, hz2 H' (Ex.refl _) _ fun H4 e4 => ⟨zs.take i, e4 _ _ h.2, sz_lt (by rw [List.length_take]; omega), Ex.mut (h.1.trans e4) hD, ?_⟩⟩
      rw [upd_same, take_snoc hz1])
    (fun H' h => q D H' (fresh_back e1 hD) (e1.trans h.1) (by rw [h.2, show n.toNat = zs.length by omega, List.take_length]))⟩
/-- y = [.. for x in f(..)], whatever f promises -/
theorem s_asgLC {sp : Sp} {dvs args : List V} {E : XK} {ta : TA} {g : TG} {tt : TT} {D : Ends} {i : Nat} (h : EvA ta σ H args) (k : ∀ H1, Ex H H1 → sp (args ++ dvs) H1 (fun x H2 => tAsg (tLc (iList K (tC x)) g tt te vs) (gName i) D σ H2) E) :
    tAsg (tLc (iList K (tCall sp dvs E ta)) g tt te vs) (gName i) D σ H := h H (Ex.refl H) _ fun H1 e => k H1 e
theorem q_asgLC {sp : Sp} {dvs args : List V} {E : XK} {ta : TA} {g : TG} {tt : TT} {D : Ends} {i : Nat} {tz : TS} (h : EvA ta σ H args) (k : ∀ H1, Ex H H1 → sp (args ++ dvs) H1 (fun x H2 => tSeq (tAsg (tLc (iList K (tC x)) g tt te vs) (gName i)) tz D σ H2) E) :
    tSeq (tAsg (tLc (iList K (tCall sp dvs E ta)) g tt te vs) (gName i)) tz D σ H := h H (Ex.refl H) _ fun H1 e => k H1 e
end

/-! ### calls with keywords, defaults -/
theorem kwAll1 {K : PySem.W.Frag} {D : Addr} {q : Str × V} (h : ∃ u, PySem.W.nsIn K D q.1 = some (some u) ∧ RelV q.2 u) : ∀ p ∈ [q], ∃ u, PySem.W.nsIn K D p.1 = some (some u) ∧ RelV p.2 u := fun p hp => by
  rcases List.mem_cons.mp hp with rfl | hp
  · exact h
  · cases hp
section
variable {K : PySem.W.Frag} {x qual : Str} {params : Arguments} {body : List Stmt} {scope : Scope} {dvs : List V} {kws : List (Str × V)} {f : Addr} {fd : FuncData} {ps : List Str}
/-- f(a, .., k = v, ..), nothing left to a default, no defaults of place -/
theorem fund_kb0 {g : List Value → List Value → List Value} {gV : List V → List V → List V} (F : FunD K x qual params body scope [] kws f fd) (n : Nat) (ks : List Str)
    (hrel : ∀ {vs : List V} {us : List Value} {zs : List V} {ws : List Value}, Vals vs us → Vals zs ws → Vals (gV vs zs) (g us ws))
    (h : ∀ (kV doc pm : Value) (an : Option Addr) (cdv ct : Value) (us ws : List Value), us.length = n → ws.length = ks.length → bindArgs (PySem.W.fnOf x qual params body scope .none kV doc pm an cdv ct) ⟨us, ks.zip ws⟩ = pure (ps.zip (g us ws))) :
    KBn K fd ps n ks g gV := by
  obtain ⟨oc, od, dV, kV, doc, pm, an, cdv, ct, osl, rfl, lk, hcd, hD, hK⟩ := F.ex
  rcases hD with ⟨_, rfl⟩ | ⟨e, _⟩
  · exact ⟨fun s us ws X l1 l2 => .of_eq (h kV doc pm an cdv ct us ws l1 l2), hrel⟩
  · exact absurd rfl e
/-- the same of a def with defaults of place -/
theorem fund_kb1 {g : List Value → List Value → List Value} {gV : List V → List V → List V} (F : FunD K x qual params body scope dvs kws f fd) (hd : dvs ≠ []) (n : Nat) (ks : List Str)
    (hrel : ∀ {vs : List V} {us : List Value} {zs : List V} {ws : List Value}, Vals vs us → Vals zs ws → Vals (gV vs zs) (g us ws))
    (h : ∀ (T : Addr) (kV doc pm : Value) (an : Option Addr) (cdv ct : Value) (us its ws : List Value), us.length = n → its.length = dvs.length → ws.length = ks.length →
      ∃ k, bindArgs (PySem.W.fnOf x qual params body scope (.ref T) kV doc pm an cdv ct) ⟨us, ks.zip ws⟩ = seqItems? (.ref T) >>= k ∧ k (some its.toArray) = pure (ps.zip (g us ws))) :
    KBn K fd ps n ks g gV := by
  obtain ⟨oc, od, dV, kV, doc, pm, an, cdv, ct, osl, rfl, lk, hcd, hD, hK⟩ := F.ex
  rcases hD with ⟨e, _⟩ | ⟨_, T, o, its, m, rfl, lT, oT, rT⟩
  · exact absurd e hd
  · refine ⟨fun s us ws X l1 l2 => ?_, hrel⟩
    obtain ⟨k, e1, e2⟩ := h T kV doc pm an cdv ct us its ws l1 rT.length.symm l2
    refine BindsTo.of_looks fun M => ?_
    rw [e1]
    exact looks_items X lT oT (.of_pure e2)
end

/-- what the top has left -/
structure TX (K : PySem.W.Frag) (mg : Str → Option Value) where
  a_BitWriter_init : Addr
  d_BitWriter_init : FuncData
  F_BitWriter_init : Fun K "__init__" "BitWriter.__init__" s_BitWriter_init a_BitWriter_init d_BitWriter_init
  b_BitWriter_init : Binds K d_BitWriter_init ["self"] []
  a_BitWriter_write : Addr
  d_BitWriter_write : FuncData
  F_BitWriter_write : Fun K "write" "BitWriter.write" s_BitWriter_write a_BitWriter_write d_BitWriter_write
  b_BitWriter_write : Binds K d_BitWriter_write ["self", "width", "value"] []
  a_BitWriter_write_signed : Addr
  d_BitWriter_write_signed : FuncData
  F_BitWriter_write_signed : Fun K "write_signed" "BitWriter.write_signed" s_BitWriter_write_signed a_BitWriter_write_signed d_BitWriter_write_signed
  b_BitWriter_write_signed : Binds K d_BitWriter_write_signed ["self", "width", "value"] []
  a_BitWriter_write_unary : Addr
  d_BitWriter_write_unary : FuncData
  F_BitWriter_write_unary : Fun K "write_unary" "BitWriter.write_unary" s_BitWriter_write_unary a_BitWriter_write_unary d_BitWriter_write_unary
  b_BitWriter_write_unary : Binds K d_BitWriter_write_unary ["self", "count"] []
  a_BitWriter_pad : Addr
  d_BitWriter_pad : FuncData
  F_BitWriter_pad : Fun K "pad" "BitWriter.pad" s_BitWriter_pad a_BitWriter_pad d_BitWriter_pad
  b_BitWriter_pad : Binds K d_BitWriter_pad ["self"] []
  a_BitWriter_append_bytes : Addr
  d_BitWriter_append_bytes : FuncData
  F_BitWriter_append_bytes : Fun K "append_bytes" "BitWriter.append_bytes" s_BitWriter_append_bytes a_BitWriter_append_bytes d_BitWriter_append_bytes
  b_BitWriter_append_bytes : Binds K d_BitWriter_append_bytes ["self", "data"] []
  a_BitWriter_byte_list : Addr
  d_BitWriter_byte_list : FuncData
  F_BitWriter_byte_list : Fun K "byte_list" "BitWriter.byte_list" s_BitWriter_byte_list a_BitWriter_byte_list d_BitWriter_byte_list
  b_BitWriter_byte_list : Binds K d_BitWriter_byte_list ["self"] []
  a_BitWriter_bits_written : Addr
  d_BitWriter_bits_written : FuncData
  F_BitWriter_bits_written : Fun K "bits_written" "BitWriter.bits_written" s_BitWriter_bits_written a_BitWriter_bits_written d_BitWriter_bits_written
  b_BitWriter_bits_written : Binds K d_BitWriter_bits_written ["self"] []
  a_law_draw : Addr
  d_law_draw : FuncData
  F_law_draw : Fun K "_law_draw" "_law_draw" s_law_draw a_law_draw d_law_draw
  b_law_draw : Binds K d_law_draw ["cell", "many", "bound"] []
  g_law_draw : mg "_law_draw" = some (.ref a_law_draw)
  a_law_is_integer : Addr
  d_law_is_integer : FuncData
  F_law_is_integer : Fun K "_law_is_integer" "_law_is_integer" s_law_is_integer a_law_is_integer d_law_is_integer
  b_law_is_integer : Binds K d_law_is_integer ["actual"] []
  g_law_is_integer : mg "_law_is_integer" = some (.ref a_law_is_integer)
  a_law_same : Addr
  d_law_same : FuncData
  F_law_same : Fun K "_law_same" "_law_same" s_law_same a_law_same d_law_same
  b_law_same : Binds K d_law_same ["actual", "expected"] []
  g_law_same : mg "_law_same" = some (.ref a_law_same)
  a_law_bits : Addr
  d_law_bits : FuncData
  F_law_bits : Fun K "_law_bits" "_law_bits" s_law_bits a_law_bits d_law_bits
  b_law_bits : Binds K d_law_bits ["width", "value"] []
  g_law_bits : mg "_law_bits" = some (.ref a_law_bits)
  a_law_bytes : Addr
  d_law_bytes : FuncData
  F_law_bytes : Fun K "_law_bytes" "_law_bytes" s_law_bytes a_law_bytes d_law_bytes
  b_law_bytes : Binds K d_law_bytes ["bits"] []
  g_law_bytes : mg "_law_bytes" = some (.ref a_law_bytes)
  a_law_value : Addr
  d_law_value : FuncData
  F_law_value : Fun K "_law_value" "_law_value" s_law_value a_law_value d_law_value
  b_law_value : Binds K d_law_value ["numbers", "width"] []
  g_law_value : mg "_law_value" = some (.ref a_law_value)
  a_law_width : Addr
  d_law_width : FuncData
  F_law_width : Fun K "_law_width" "_law_width" s_law_width a_law_width d_law_width
  b_law_width : Binds K d_law_width ["numbers"] []
  g_law_width : mg "_law_width" = some (.ref a_law_width)
  a_law_zeros : Addr
  d_law_zeros : FuncData
  F_law_zeros : Fun K "_law_zeros" "_law_zeros" s_law_zeros a_law_zeros d_law_zeros
  b_law_zeros : Binds K d_law_zeros ["numbers"] []
  g_law_zeros : mg "_law_zeros" = some (.ref a_law_zeros)
  a_law_step : Addr
  d_law_step : FuncData
  F_law_step : Fun K "_law_step" "_law_step" s_law_step a_law_step d_law_step
  b_law_step : Binds K d_law_step ["writer", "bits", "numbers"] []
  g_law_step : mg "_law_step" = some (.ref a_law_step)
  a_law_right : Addr
  d_law_right : FuncData
  F_law_right : Fun K "_law_right" "_law_right" s_law_right a_law_right d_law_right
  b_law_right : Binds K d_law_right ["writer", "bits"] []
  g_law_right : mg "_law_right" = some (.ref a_law_right)
  a_law : Addr
  d_law : FuncData
  F_law : Fun K "law" "law" s_law a_law d_law
  b_law : Binds K d_law ["script"] []
  g_law : mg "law" = some (.ref a_law)
  C_BitWriter : Addr
  cl_BitWriter : Cls K C_BitWriter
  g_BitWriter : mg "BitWriter" = some (.ref C_BitWriter)
  M_BitWriter : Mk K C_BitWriter a_BitWriter_init
  me_BitWriter_write : Meth K C_BitWriter "write" a_BitWriter_write
  me_BitWriter_write_signed : Meth K C_BitWriter "write_signed" a_BitWriter_write_signed
  me_BitWriter_write_unary : Meth K C_BitWriter "write_unary" a_BitWriter_write_unary
  me_BitWriter_pad : Meth K C_BitWriter "pad" a_BitWriter_pad
  me_BitWriter_append_bytes : Meth K C_BitWriter "append_bytes" a_BitWriter_append_bytes
  me_BitWriter_byte_list : Meth K C_BitWriter "byte_list" a_BitWriter_byte_list
  me_BitWriter_bits_written : Meth K C_BitWriter "bits_written" a_BitWriter_bits_written
  n_BitWriter_whole : NoAttr K C_BitWriter "_whole"
  n_BitWriter_held : NoAttr K C_BitWriter "_held"
  n_BitWriter_held_bits : NoAttr K C_BitWriter "_held_bits"
  m_list : mg "list" = none
  m_len : mg "len" = none
  m_range : mg "range" = none
  m_int : mg "int" = none
  m_isinstance : mg "isinstance" = none
  m_bool : mg "bool" = none
  m_max : mg "max" = none
  u_MOST_ZEROS : Value
  c_MOST_ZEROS : mg "_MOST_ZEROS" = some u_MOST_ZEROS
  r_MOST_ZEROS : RelV (.int (56)) u_MOST_ZEROS
section
variable {P : Program} {w : World} {K : PySem.W.Frag} {mg : Str → Option Value} {base : Heap}
/-! ### int(x), bits of a number -/
theorem Ev.is {σ : L2.St} {H : Hp} {te : TE} {x y : V} (h : Ev te σ H x) (e : x = y) : Ev te σ H y := e ▸ h
theorem ev_int1 {σ : L2.St} {H : Hp} {te : TE} {i : Int} (h : Ev te σ H (.int i)) : Ev (tCB (fun xs H Q => (∃ i, xs = [V.int i] ∧ Q (V.int i) H) ∨ ∃ k, xs = [V.bl k] ∧ Q (V.int (if k = true then 1 else 0)) H) (tCons te tNil)) σ H (.int i) :=
  ev_cb (ea_cons h ea_nil) fun H1 _ Q q => .inl ⟨i, rfl, q H1 (Ex.refl H1)⟩
theorem q_augR {σ : L2.St} {H : Hp} {te : TE} {D : Ends} {tz : TS} {i : Nat} {g : Int → Int → V} {a b : Int} (h1 : σ[i]? = some (some (.int a))) (h : Ev te σ H (.int b)) (k : ∀ H1, Ex H H1 → tz D (σ.set i (some (g a b))) H1) : tSeq (tAug i te (rI0 g)) tz D σ H :=
  ⟨_, h1, h H (Ex.refl H) _ fun H1 e => ⟨a, b, rfl, rfl, k H1 e⟩⟩
theorem s_augR {σ : L2.St} {H : Hp} {te : TE} {D : Ends} {i : Nat} {g : Int → Int → V} {a b : Int} (h1 : σ[i]? = some (some (.int a))) (h : Ev te σ H (.int b)) (k : ∀ H1, Ex H H1 → D.nx (σ.set i (some (g a b))) H1) : tAug i te (rI0 g) D σ H :=
  ⟨_, h1, h H (Ex.refl H) _ fun H1 e => ⟨a, b, rfl, rfl, k H1 e⟩⟩
theorem ev_atT {K : PySem.W.Frag} {σ : L2.St} {H : Hp} {tl ti : TE} {t : Addr} {xs : List V} {n : Int} {v : V} (h : Ev tl σ H (.ref t)) (hT : SqT K H t xs) (hi : Ev ti σ H (.int n)) (ha : atI xs n = some v) : Ev (tOp (rIxT K) tl ti) σ H v := fun H1 e Q q =>
  h H1 e _ fun H2 e2 => hi H2 (e.trans e2) _ fun H3 e3 => ⟨t, xs, n, v, rfl, rfl, ex_t ((e.trans e2).trans e3) hT, ha, q H3 (e2.trans e3)⟩
local macro_rules | `(tactic| walk_at "side") => `(tactic| first
  | omega
  | (show CDivW _ _; exact ⟨by omega, by decide⟩)
  | (show CDivW _ _; exact wide_div (b := 80) (by omega) (by omega) (by decide) (by decide)))
local macro_rules | `(tactic| walk_at "evown") => `(tactic| (refine' ev_int1 ?h1; (case h1 => walk_at "ev")))
/-- numbers from 0 on, as such -/
def cs (ds : List Nat) : List Int := ds.map fun d : Nat => (d : Int)
theorem cs_of {ns : List Int} {b : Int} (h : ∀ n ∈ ns, 0 ≤ n ∧ n < b) : ∃ ds : List Nat, ns = cs ds ∧ ds.length = ns.length ∧ ∀ d ∈ ds, (d : Int) < b := by
  refine ⟨ns.map Int.toNat, ?_, List.length_map .., fun d hd => ?_⟩
  · unfold cs
    rw [List.map_map]
    conv => lhs; rw [← List.map_id ns]
    refine List.map_congr_left fun n hn => ?_
    have := (h n hn).1
    show n = ((n.toNat : Nat) : Int)
    omega
  · obtain ⟨n, hn, rfl⟩ := List.mem_map.mp hd
    have := h n hn
    omega
theorem cs_len (ds : List Nat) : (cs ds).length = ds.length := List.length_map ..
theorem cs_at {ds : List Nat} {i : Nat} {d : Nat} (h : ds[i]? = some d) : (cs ds)[i]? = some (d : Int) := by unfold cs; rw [List.getElem?_map, h]; rfl
theorem cs_take (ds : List Nat) (i : Nat) : (cs ds).take i = cs (ds.take i) := by unfold cs; rw [List.map_take]
theorem cs_drop (ds : List Nat) (i : Nat) : (cs ds).drop i = cs (ds.drop i) := by unfold cs; rw [List.map_drop]
theorem cs_append (ds es : List Nat) : cs (ds ++ es) = cs ds ++ cs es := List.map_append ..

/-- numbers of the law -/
def sp_draw : Sp := fun vs H Q _ => ∃ c m b : Int, vs = [.int c, .int m, .int b] ∧ 0 ≤ m ∧ m ≤ 5000 ∧ 0 < b ∧ b ≤ 2 ^ 64 ∧ ∀ p (ns : List Int) H', H p = none → Ex H H' → H' p = some (.lst (ns.map V.int)) → (ns.length : Int) = m → (∀ n ∈ ns, 0 ≤ n ∧ n < b) → Q (.ref p) H'
theorem ok_law_draw (T : TX K mg) : FnOk P w K mg base CX0 1 T.a_law_draw T.d_law_draw ["cell", "many", "bound"] sp_draw := by
  refine T.F_law_draw.ok sc_law_draw (fun vs H Q E h => by obtain ⟨c, m, b, rfl, _⟩ := h; rfl) (fun cdv A outer s H vs Q E hr h => ?_)
  obtain ⟨c, m, b, rfl, hm0, hm, hb0, hb, k⟩ := h
  have hb' : b ≤ 18446744073709551616 := hb
  refine ⟨_, (pss_cons (ps_set (i := 3) sc_law_draw.nd rfl (Or.inl rfl) (pe_lst pa_nil))
      (pss_cons (ps_if (pt_cmpR op_ge (pv 0) (pe_op op_pow pe_int pe_int) (nomark _)) (pss_cons (ps_for PassesOwn.never rfl (pi_range1 (by rfl) T.m_range (pa_cons (pv 1) pa_nil)) (pg_name (i := 4) sc_law_draw.nd rfl (Or.inl rfl)) (pss_cons (ps_expr (pe_bm PySem.F.plainAttrs_list PySem.F.slot_list_append PySem.F.type_list_append mt_append (pv 3) (pa_cons (pe_op op_mod (pe_callTy call_int1 (by rfl) T.m_int PyProof.Rows.boot_int (pa_cons (pv 0) pa_nil)) (pv 2)) pa_nil)))
          (pss_one (ps_set (i := 0) sc_law_draw.nd rfl (Or.inl rfl) (pe_op op_fdivW (pv 0) (pv 2))))))
        (pss_one (ps_ret (pv 3)))) pss_nil)
      (pss_cons (ps_set (i := 5) sc_law_draw.nd rfl (Or.inl rfl) (pe_op op_mod (pe_callTy call_int1 (by rfl) T.m_int PyProof.Rows.boot_int (pa_cons (pv 0) pa_nil)) pe_int))
      (pss_cons (ps_for PassesOwn.never rfl (pi_range1 (by rfl) T.m_range (pa_cons (pv 1) pa_nil)) (pg_name (i := 4) sc_law_draw.nd rfl (Or.inl rfl)) (pss_cons (ps_set (i := 5) sc_law_draw.nd rfl (Or.inl rfl) (pe_op op_mod (pe_callTy call_int1 (by rfl) T.m_int PyProof.Rows.boot_int (pa_cons (pe_op op_add (pe_op op_add (pe_op op_mul (pv 5) pe_int) pe_int) (pv 4)) pa_nil)) pe_int))
        (pss_cons (ps_set (i := 6) sc_law_draw.nd rfl (Or.inl rfl) (pe_op op_mod (pe_callTy call_int1 (by rfl) T.m_int PyProof.Rows.boot_int (pa_cons (pe_op op_add (pe_op op_mul (pv 5) pe_int) (pe_op op_mul pe_int (pv 4))) pa_nil)) pe_int))
        (pss_one (ps_expr (pe_bm PySem.F.plainAttrs_list PySem.F.slot_list_append PySem.F.type_list_append mt_append (pv 3) (pa_cons (pe_op op_mod (pe_callTy call_int1 (by rfl) T.m_int PyProof.Rows.boot_int (pa_cons (pe_op op_fdivW (pv 6) pe_int) pa_nil)) (pv 2)) pa_nil)))))))
      (pss_one (ps_ret (pv 3))))))), ?_⟩
  refine q_asgL (xs := []) (el_lst ea_nil (by decide)) fun p H1 hp e1 h1 => ?_
  refine' q_when (et_test (ev_I0 ?h1 ?h2)) ?_ ?_
  case h1 => walk_at "ev"
  case h2 => exact ev_I (ev_c) (ev_c) ⟨by decide, by decide, by decide⟩
  · intro _ H2 e2
    refine q_forR1 (n := m) (ea_cons (ev_var rfl) ea_nil) ⟨hm0, by omega⟩ (fun i σ' H' => ∃ (c' : Int) (k' : Option V) (ns : List Int), σ' = [some (.int c'), some (.int m), some (.int b), some (.ref p), k', none, none] ∧ Ex H H' ∧ H' p = some (.lst (ns.map V.int)) ∧ ns.length = i ∧ ∀ n ∈ ns, 0 ≤ n ∧ n < b)
      (fun H3 e3 => ⟨c, none, [], rfl, (e1.trans e2).trans e3, e3 _ _ (e2 _ _ h1), rfl, fun n hn => by cases hn⟩) ?_ ?_
    · rintro i σ' H' hi ⟨c', k', ns, rfl, ex, hl, hn, hns⟩
      refine q_app (v := .int (c' % b)) hl (ev_var rfl) (ev_I (ev_int1 (ev_var rfl)) (ev_var rfl) hb0) (by rw [List.length_map]; omega) fun H3 e3 => ?_
      refine s_asg (v := .int (c' / b)) (ev_I (ev_var rfl) (ev_var rfl) (by walk_at "side")) fun H4 e4 => ?_
      refine ⟨c' / b, some (.int i), ns ++ [c' % b], rfl, (Ex.mut (ex.trans e3) hp).trans e4, e4 _ _ (by rw [upd_same, List.map_append]; rfl), by rw [List.length_append, hn]; rfl, fun n hn => ?_⟩
      rcases List.mem_append.mp hn with h | h
      · exact hns n h
      · cases List.mem_singleton.mp h
        exact ⟨Int.emod_nonneg _ (by omega), Int.emod_lt_of_pos _ hb0⟩
    · rintro σ' H' ⟨c', k', ns, rfl, ex, hl, hn, hns⟩
      walk_at "ret"
      intro H3 e3
      exact k p ns H3 hp (ex.trans e3) (e3 _ _ hl) (by omega) hns
  · intro _ H2 e2
    refine q_asg (v := .int (c % 2147483647)) (ev_I (ev_int1 (ev_var rfl)) ev_c (by decide)) fun H3 e3 => ?_
    refine q_forR1 (n := m) (ea_cons (ev_var rfl) ea_nil) ⟨hm0, by omega⟩ (fun i σ' H' => ∃ (k' x : Option V) (sd : Int) (ns : List Int), σ' = [some (.int c), some (.int m), some (.int b), some (.ref p), k', some (.int sd), x] ∧ Ex H H' ∧ H' p = some (.lst (ns.map V.int)) ∧ ns.length = i ∧ ∀ n ∈ ns, 0 ≤ n ∧ n < b)
      (fun H4 e4 => ⟨none, none, _, [], rfl, ((e1.trans e2).trans e3).trans e4, e4 _ _ (e3 _ _ (e2 _ _ h1)), rfl, fun n hn => by cases hn⟩) ?_ ?_
    · rintro i σ' H' hi ⟨k', x, sd, ns, rfl, ex, hl, hn, hns⟩
      refine q_asg (v := .int ((sd * 48271 + 12345 + (i : Int)) % 2147483647)) (ev_I (ev_int1 (ev_I0 (ev_I0 (ev_I (ev_var rfl) ev_c (.inr (by decide))) ev_c) (ev_var rfl))) ev_c (by decide)) fun H4 e4 => ?_
      generalize (sd * 48271 + 12345 + (i : Int)) % 2147483647 = sd2
      refine q_asg (v := .int ((sd2 * 69621 + 977 * (i : Int)) % 2147483629)) (ev_I (ev_int1 (ev_I0 (ev_I (ev_var rfl) ev_c (.inr (by decide))) (ev_I ev_c (ev_var rfl) (.inl (by decide))))) ev_c (by decide)) fun H5 e5 => ?_
      generalize (sd2 * 69621 + 977 * (i : Int)) % 2147483629 = mx
      refine s_app (v := .int (mx / 3 % b)) (e5 _ _ (e4 _ _ hl)) (ev_var rfl) (ev_I (ev_int1 (ev_I (ev_var rfl) ev_c ⟨by decide, by decide⟩)) (ev_var rfl) hb0) (by rw [List.length_map]; omega) fun H6 e6 => ?_
      refine ⟨_, _, sd2, ns ++ [mx / 3 % b], rfl, Ex.mut (((ex.trans e4).trans e5).trans e6) hp, by rw [upd_same, List.map_append]; rfl, by rw [List.length_append, hn]; rfl, fun n hn => ?_⟩
      rcases List.mem_append.mp hn with h | h
      · exact hns n h
      · cases List.mem_singleton.mp h
        exact ⟨Int.emod_nonneg _ (by omega), Int.emod_lt_of_pos _ hb0⟩
    · rintro σ' H' ⟨k', x, sd, ns, rfl, ex, hl, hn, hns⟩
      walk_at "ret"
      intro H4 e4
      exact k p ns H4 hp (ex.trans e4) (e4 _ _ hl) (by omega) hns

/-! ### objects: fields, methods, making -/
section
variable {K : PySem.W.Frag} {σ : L2.St} {H : Hp} {to te tv : TE} {a C : Addr} {dx : Addr} {fs : List (Str × V)} {f m : Str} {v : V} {D : Ends} {tz : TS} {sp : Sp} {dvs vs : List V} {E : XK} {t : TA}
theorem ev_fld (c : Cls K C) (hn : NoAttr K C f) (h : Ev to σ H (.ref a)) (hx : H a = some (.ins C dx fs)) (hl : fs.lookup f = some v) : Ev (tFld K to f) σ H v := fun H1 e Q q => h H1 e _ fun H2 e2 => ⟨a, C, dx, fs, v, rfl, (e.trans e2) _ _ hx, c, hn, hl, q H2 e2⟩
theorem q_fld (c : Cls K C) (hn : NoAttr K C f) (hv : Ev tv σ H v) (h : Ev to σ H (.ref a)) (hx : H a = some (.ins C dx fs)) (hl : fs.length < 1000) (k : ∀ H1, Ex H H1 → tz D σ (upd H1 a (.ins C dx (putF f v fs)))) : tSeq (sFld K to tv f) tz D σ H :=
  hv H (Ex.refl H) _ fun H1 e1 => h H1 e1 _ fun H2 e2 => ⟨a, C, dx, fs, rfl, (e1.trans e2) _ _ hx, c, hn, hl, k H2 (e1.trans e2)⟩
theorem s_fld (c : Cls K C) (hn : NoAttr K C f) (hv : Ev tv σ H v) (h : Ev to σ H (.ref a)) (hx : H a = some (.ins C dx fs)) (hl : fs.length < 1000) (k : ∀ H1, Ex H H1 → D.nx σ (upd H1 a (.ins C dx (putF f v fs)))) : sFld K to tv f D σ H :=
  hv H (Ex.refl H) _ fun H1 e1 => h H1 e1 _ fun H2 e2 => ⟨a, C, dx, fs, rfl, (e1.trans e2) _ _ hx, c, hn, hl, k H2 (e1.trans e2)⟩
theorem q_fldL {xs : List V} (c : Cls K C) (hn : NoAttr K C f) (hv : EvL tv σ H xs) (h : ∀ H1, Ex H H1 → Ev to σ H1 (.ref a)) (hx : H a = some (.ins C dx fs)) (hl : fs.length < 1000) (k : ∀ p H1, H p = none → Ex H H1 → H1 p = some (.lst xs) → tz D σ (upd H1 a (.ins C dx (putF f (.ref p) fs)))) : tSeq (sFld K to tv f) tz D σ H :=
  hv H (Ex.refl H) _ fun p H1 hp e1 g1 => h H1 e1 H1 (Ex.refl H1) _ fun H2 e2 => ⟨a, C, dx, fs, rfl, (e1.trans e2) _ _ hx, c, hn, hl, k p H2 hp (e1.trans e2) (e2 _ _ g1)⟩
/-- o.m(..), whatever m promises -/
theorem mth (h : Ev to σ H (.ref a)) (hx : H a = some (.ins C dx fs)) (hm : fs.lookup m = none) (ha : EvA t σ H vs) {Q : VK} (k : ∀ H1, Ex H H1 → sp (.ref a :: (vs ++ dvs)) H1 Q E) : tMeth C m sp dvs E to t σ H Q :=
  h H (Ex.refl H) _ fun H1 e1 => ⟨a, dx, fs, rfl, e1 _ _ hx, hm, ha H1 e1 _ fun H2 e2 => k H2 (e1.trans e2)⟩
theorem q_dropM (h : Ev to σ H (.ref a)) (hx : H a = some (.ins C dx fs)) (hm : fs.lookup m = none) (ha : EvA t σ H vs) (k : ∀ H1, Ex H H1 → sp (.ref a :: (vs ++ dvs)) H1 (fun _ H2 => tz D σ H2) E) : tSeq (tDrop (tMeth C m sp dvs E to t)) tz D σ H := mth h hx hm ha k
theorem s_dropM (h : Ev to σ H (.ref a)) (hx : H a = some (.ins C dx fs)) (hm : fs.lookup m = none) (ha : EvA t σ H vs) (k : ∀ H1, Ex H H1 → sp (.ref a :: (vs ++ dvs)) H1 (fun _ H2 => D.nx σ H2) E) : tDrop (tMeth C m sp dvs E to t) D σ H := mth h hx hm ha k
theorem q_asgM {i : Nat} (h : Ev to σ H (.ref a)) (hx : H a = some (.ins C dx fs)) (hm : fs.lookup m = none) (ha : EvA t σ H vs) (k : ∀ H1, Ex H H1 → sp (.ref a :: (vs ++ dvs)) H1 (fun x H2 => tz D (σ.set i (some x)) H2) E) : tSeq (tAsg (tMeth C m sp dvs E to t) (gName i)) tz D σ H := mth h hx hm ha k
theorem s_retM (h : Ev to σ H (.ref a)) (hx : H a = some (.ins C dx fs)) (hm : fs.lookup m = none) (ha : EvA t σ H vs) (k : ∀ H1, Ex H H1 → sp (.ref a :: (vs ++ dvs)) H1 D.rt E) : tRet (tMeth C m sp dvs E to t) D σ H := mth h hx hm ha k
/-- a method that changes nothing and gives a value -/
theorem ev_mth (h : Ev to σ H (.ref a)) (hx : H a = some (.ins C dx fs)) (hm : fs.lookup m = none) (ha : EvA t σ H vs) (k : SpV sp (.ref a :: (vs ++ dvs)) H v) : Ev (tMeth C m sp dvs E to t) σ H v := fun H1 e Q q =>
  h H1 e _ fun H2 e2 => ⟨a, dx, fs, rfl, (e.trans e2) _ _ hx, hm, ha H2 (e.trans e2) _ fun H3 e3 => k H3 ((e.trans e2).trans e3) Q (fun H4 e4 => q H4 ((e2.trans e3).trans e4)) E⟩
end
theorem fresh_ne {H : Hp} {p q : Addr} {o : HO} (hp : H p = none) (hq : H q = some o) : q ≠ p := ne_of_none hq hp
theorem bitNot_eq (x : Int) : Builtin.bitNot x = -x - 1 := rfl
theorem bitAnd_maskZ (x : Int) (k : Nat) : Builtin.bitAnd x (2 ^ k - 1) = x % 2 ^ k := by
  by_cases h : 0 ≤ x
  · exact _root_.Bits.bitAnd_mask k h
  · have hp : (1 : Int) ≤ 2 ^ k := by
      have : 0 < 2 ^ k := Nat.two_pow_pos k
      have h2 : ((2 : Int) ^ k) = ((2 ^ k : Nat) : Int) := by rw [Int.natCast_pow]; rfl
      omega
    rw [PyProof.Rows.bitAnd_np h (by omega), Nat.and_comm]
    have h2 : ((2 : Int) ^ k) = ((2 ^ k : Nat) : Int) := by rw [Int.natCast_pow]; rfl
    have h3 : ((2 : Int) ^ k - 1).toNat = 2 ^ k - 1 := by omega
    rw [h3, Nat.and_two_pow_sub_one_eq_mod, bitNot_eq]
    have h4 : ((-x - 1).toNat : Int) = -x - 1 := by omega
    rw [h2, Int.natCast_emod, h4]
    generalize 2 ^ k = m at *
    have hm : (0 : Int) < (m : Int) := by omega
    have e1 := Int.emod_add_mul_ediv x m
    have e2 := Int.emod_add_mul_ediv (-x - 1) m
    have a1 := Int.emod_nonneg x (by omega : (m : Int) ≠ 0)
    have a2 := Int.emod_lt_of_pos x hm
    have b1 := Int.emod_nonneg (-x - 1) (by omega : (m : Int) ≠ 0)
    have b2 := Int.emod_lt_of_pos (-x - 1) hm
    generalize x % (m : Int) = r at *
    generalize (-x - 1) % (m : Int) = s at *
    generalize x / (m : Int) = p at *
    generalize (-x - 1) / (m : Int) = q at *
    -- r + s + 1 is a multiple of m between 1 and 2m - 1
    have e3 : r + s + 1 = m * (-(p + q)) := by
      rw [Int.mul_neg, Int.mul_add]
      omega
    have h5 : -(p + q) = 1 := by
      have c1 : 0 < (m : Int) * (-(p + q)) := by omega
      have c2 : (m : Int) * (-(p + q)) < m * 2 := by omega
      have c3 := Int.pos_of_mul_pos_right (a := (m : Int)) (b := -(p + q)) (by exact c1) hm
      have c4 : -(p + q) < 2 := Int.lt_of_mul_lt_mul_left c2 (by omega)
      omega
    rw [h5, Int.mul_one] at e3
    omega

def bits8 (b : Nat) : List Bool := (List.range 8).map fun k => b.testBit (7 - k)
/-! ### fields of bits -/
def bitsN (n v : Nat) : List Bool := (List.range n).map fun k => v.testBit (n - 1 - k)
theorem bitsN_len (n v : Nat) : (bitsN n v).length = n := by unfold bitsN; rw [List.length_map, List.length_range]
theorem bitsN_at {n v i : Nat} (h : i < n) : (bitsN n v)[i]? = some (v.testBit (n - 1 - i)) := by
  unfold bitsN
  rw [List.getElem?_map, List.getElem?_range h]
  rfl
theorem bitsN_congr {n v u : Nat} (h : ∀ i, i < n → v.testBit i = u.testBit i) : bitsN n v = bitsN n u := by
  unfold bitsN
  exact List.map_congr_left fun k hk => h _ (by have := List.mem_range.mp hk; omega)
theorem bitsN_mod (n v : Nat) : bitsN n (v % 2 ^ n) = bitsN n v := bitsN_congr fun i hi => by rw [Nat.testBit_mod_two_pow, decide_eq_true hi, Bool.true_and]
theorem bitsN_add (n w x : Nat) : bitsN (n + w) x = bitsN n (x / 2 ^ w) ++ bitsN w x := by
  refine List.ext_getElem? fun i => ?_
  by_cases h : i < n
  · rw [List.getElem?_append_left (by rw [bitsN_len]; exact h), bitsN_at h, bitsN_at (by omega), Nat.testBit_div_two_pow, show n - 1 - i + w = n + w - 1 - i by omega]
  · rw [List.getElem?_append_right (by rw [bitsN_len]; omega), bitsN_len]
    by_cases h2 : i - n < w
    · rw [bitsN_at h2, bitsN_at (by omega), show w - 1 - (i - n) = n + w - 1 - i by omega]
    · rw [List.getElem?_eq_none (by rw [bitsN_len]; omega), List.getElem?_eq_none (by rw [bitsN_len]; omega)]
theorem bitsN_cat {n w h v : Nat} (hv : v < 2 ^ w) : bitsN (n + w) (h * 2 ^ w + v) = bitsN n h ++ bitsN w v := by
  rw [bitsN_add]
  congr 1
  · rw [Nat.add_comm, Nat.add_mul_div_right _ _ (Nat.two_pow_pos w), Nat.div_eq_of_lt hv, Nat.zero_add]
  · rw [← bitsN_mod, Nat.add_comm, Nat.add_mul_mod_self_right, bitsN_mod]
theorem bits8_N (b : Nat) : bits8 b = bitsN 8 b := rfl
theorem bitsN_zero (n : Nat) : bitsN n 0 = List.replicate n false := by
  unfold bitsN
  refine List.ext_getElem? fun i => ?_
  rw [List.getElem?_map]
  by_cases h : i < n
  · rw [List.getElem?_range h, List.getElem?_replicate, if_pos h]
    show some (Nat.testBit 0 _) = _
    rw [Nat.zero_testBit]
  · rw [List.getElem?_eq_none (by rw [List.length_range]; omega), List.getElem?_eq_none (by rw [List.length_replicate]; omega)]
    rfl
theorem bits_flat_len (ws : List Nat) : (ws.flatMap bits8).length = 8 * ws.length := by
  induction ws with
  | nil => rfl
  | cons d r ih =>
    rw [List.flatMap_cons, List.length_append, ih, List.length_cons]
    show 8 + _ = _
    omega

/-! ### lists of bits, as numbers -/
def b2 (b : Bool) : Int := if b then 1 else 0
theorem b2_bit (n i : Nat) : Builtin.bitAnd ((n : Int) / 2 ^ i) 1 = b2 (n.testBit i) := by
  have h1 : ((n : Int) / 2 ^ i) = ((n / 2 ^ i : Nat) : Int) := by
    rw [Int.natCast_ediv, Int.natCast_pow]
    rfl
  rw [h1, PyProof.Rows.bitAnd_m1, Nat.testBit_eq_decide_div_mod_eq]
  unfold b2
  by_cases h : n / 2 ^ i % 2 = 1
  · rw [decide_eq_true h, if_pos rfl]
    omega
  · rw [decide_eq_false h, if_neg (by decide)]
    omega
def bI (ms : List Bool) : List Int := ms.map b2
theorem bI_len (ms : List Bool) : (bI ms).length = ms.length := List.length_map ..
theorem bI_append (ms ns : List Bool) : bI (ms ++ ns) = bI ms ++ bI ns := List.map_append ..
theorem bI_at {ms : List Bool} {i : Nat} {b : Bool} (h : ms[i]? = some b) : (bI ms)[i]? = some (b2 b) := by unfold bI; rw [List.getElem?_map, h]; rfl
theorem bI_false (n : Nat) : bI (List.replicate n false) = List.replicate n 0 := by unfold bI; rw [List.map_replicate]; rfl
theorem ev_bit {σ : L2.St} {H : Hp} {t1 t2 : TE} {n i : Nat} {j : Int} (h1 : Ev t1 σ H (.int (n : Int))) (h2 : Ev t2 σ H (.int j)) (hj : j = (i : Int)) : Ev (tOp (rI0 fun i j => .int (Builtin.bitAnd i j)) (tOp (rI (fun _ j => 0 ≤ j) fun i j => .int (i / 2 ^ j.toNat)) t1 t2) (tC (.int 1))) σ H (.int (b2 (n.testBit i))) := by
  subst hj
  exact Ev.is (ev_I0 (ev_I h1 h2 (by show (0 : Int) ≤ _; omega)) ev_c) (congrArg V.int (by rw [Int.toNat_natCast]; exact b2_bit n i))
def valL (ms : List Bool) : Nat := ms.foldl (fun a b => 2 * a + b.toNat) 0
theorem valL_snoc (ms : List Bool) (b : Bool) : valL (ms ++ [b]) = 2 * valL ms + b.toNat := by unfold valL; rw [List.foldl_append]; rfl
theorem valL_8 : ∀ d, d < 256 → valL (bits8 d) = d := by decide +kernel
def padN (n : Nat) : Nat := (8 - n % 8) % 8
theorem b2_nat (b : Bool) : b2 b = (b.toNat : Int) := by cases b <;> rfl
/-- _law_is_integer, _law_same -/
def sp_isint : Sp := fun vs H Q _ => ∃ n : Int, vs = [.int n] ∧ RetV (.bl true) H Q
theorem ok_law_is_integer (T : TX K mg) : FnOk P w K mg base CX0 1 T.a_law_is_integer T.d_law_is_integer ["actual"] sp_isint := by
  refine T.F_law_is_integer.ok sc_law_is_integer (fun vs H Q E h => by obtain ⟨n, rfl, _⟩ := h; rfl) (fun cdv A outer s H vs Q E hr h => ?_)
  obtain ⟨n, rfl, k⟩ := h
  refine ⟨_, (pss_one (ps_ret (pe_and (pe_callB (r := rIsi K) call_isi (by rfl) T.m_isinstance PyProof.Rows.boot_isinstance (pa_cons (pv 0) (pa_cons (pe_bltn (v := V.ty "int") (by rfl) T.m_int PyProof.Rows.boot_int rfl) pa_nil))) (pe_one (pe_not (pe_callB (r := rIsi K) call_isi (by rfl) T.m_isinstance PyProof.Rows.boot_isinstance (pa_cons (pv 0) (pa_cons (pe_bltn (v := V.ty "bool") (by rfl) T.m_bool PyProof.Rows.boot_bool rfl) pa_nil)))))))), ?_⟩
  walk_at "ret"
  intro H2 e2
  exact ret_eq k e2 rfl
theorem ev_isint {σ : L2.St} {H : Hp} {te : TE} {E : XK} {n : Int} (h : Ev te σ H (.int n)) : Ev (tCall sp_isint [] E (tCons te tNil)) σ H (.bl true) := ev_call (ea_cons h ea_nil) fun H1 _ Q q _ => ⟨n, rfl, q⟩

def sp_same : Sp := fun vs H Q _ => ∃ (a b : Addr) (ns : List Int), vs = [.ref a, .ref b] ∧ H a = some (.lst (ns.map V.int)) ∧ H b = some (.lst (ns.map V.int)) ∧ ns.length ≤ 100000 ∧ RetV (.bl true) H Q
theorem ok_law_same (T : TX K mg) : FnOk P w K mg base CX0 2 T.a_law_same T.d_law_same ["actual", "expected"] sp_same := by
  refine T.F_law_same.ok sc_law_same (fun vs H Q E h => by obtain ⟨a, b, ns, rfl, _⟩ := h; rfl) (fun cdv A outer s H vs Q E hr h => ?_)
  obtain ⟨a, b, ns, rfl, ha, hb, hlen, k⟩ := h
  refine ⟨_, (pss_cons (ps_if (PW.pt (pw_or (pt_not (pt_val (pe_callB (r := rIsi K) call_isi (by rfl) T.m_isinstance PyProof.Rows.boot_isinstance (pa_cons (pv 0) (pa_cons (pe_bltn (v := V.ty "list") (by rfl) T.m_list PyProof.Rows.boot_list rfl) pa_nil))))) (pw_or1 (pt_cmpR op_ne (pe_callB (r := rLenS K) call_len_seq (by rfl) T.m_len PySem.boot_len (pa_cons (pv 0) pa_nil)) (pe_callB (r := rLenS K) call_len_seq (by rfl) T.m_len PySem.boot_len (pa_cons (pv 1) pa_nil)) (nomark _))))) (pss_one (ps_ret pe_bl)) pss_nil)
      (pss_cons (ps_for PassesOwn.never rfl (pi_range1 (by rfl) T.m_range (pa_cons (pe_callB (r := rLenS K) call_len_seq (by rfl) T.m_len PySem.boot_len (pa_cons (pv 1) pa_nil)) pa_nil)) (pg_name (i := 2) sc_law_same.nd rfl (Or.inl rfl)) (pss_one (ps_if (PW.pt (pw_or (pt_not (pt_val (pe_call (ok_law_is_integer T) (hr.mono (by decide)) (by rfl) T.g_law_is_integer T.F_law_is_integer.kp T.b_law_is_integer .nil pass0 (pa_cons (pe_ix (r := rIxL K) ix_list (pv 0) (pv 2) (fun _ _ => rfl)) pa_nil)))) (pw_or1 (pt_cmpR op_ne (pe_ix (r := rIxL K) ix_list (pv 0) (pv 2) (fun _ _ => rfl)) (pe_ix (r := rIxL K) ix_list (pv 1) (pv 2) (fun _ _ => rfl)) (nomark _))))) (pss_one (ps_ret pe_bl)) pss_nil)))
      (pss_one (ps_ret pe_bl)))), ?_⟩
  have hl : ∀ {σ : L2.St} {H1 : Hp} {te : TE} {c : Addr}, Ev te σ H1 (.ref c) → H1 c = some (.lst (ns.map V.int)) → Ev (tCB (rLenS K) (tCons te tNil)) σ H1 (.int (ns.length : Int)) := fun h1 h2 => Ev.is (ev_lenS (Ev.s h1 (sq_of h2))) (by rw [List.length_map])
  refine q_when (b := false) (et_or (a := !true) (b := false) (et_not (et_test (ev_isiL (ev_var rfl) ha))) fun _ => et_test (Ev.is (ev_ne (hl (ev_var rfl) ha) (hl (ev_var rfl) hb) rfl) (by rw [decide_eq_true rfl]; rfl))) (fun hb => by cases hb) fun _ H1 e1 => ?_
  refine q_forR1 (n := (ns.length : Int)) (ea_cons (hl (ev_var rfl) (e1 _ _ hb)) ea_nil) (by omega) (fun i σ' H' => ∃ z, σ' = [some (.ref a), some (.ref b), z] ∧ Ex H H') (fun H2 e2 => ⟨none, rfl, e1.trans e2⟩) ?_ ?_
  · rintro i σ' H' hi ⟨z, rfl, ex⟩
    have hi : i < ns.length := by omega
    have hat : ∀ {σ : L2.St} {H1 : Hp} {tl ti : TE} {c : Addr}, Ev tl σ H1 (.ref c) → H1 c = some (.lst (ns.map V.int)) → Ev ti σ H1 (.int (i : Int)) → Ev (tOp (rIxL K) tl ti) σ H1 (.int (ns.getD i 0)) := fun h1 h2 h3 => ev_at (Ev.s h1 (sq_of h2)) h3 (at_of rfl (at_int (gl_get hi)))
    refine s_when (b := false) (et_or (a := !true) (b := false) (et_not (et_B (ev_isint (hat (ev_var rfl) (ex _ _ ha) (ev_var rfl))))) fun _ => et_test (Ev.is (ev_ne (hat (ev_var rfl) (ex _ _ ha) (ev_var rfl)) (hat (ev_var rfl) (ex _ _ hb) (ev_var rfl)) rfl) (by rw [decide_eq_true rfl]; rfl))) (fun hb => by cases hb) fun _ H2 e2 => ?_
    exact ⟨_, rfl, ex.trans e2⟩
  · rintro σ' H' ⟨z, rfl, ex⟩
    walk_at "ret"
    intro H2 e2
    exact k _ (ex.trans e2)

/-! ### BitWriter -/
def wF (L : Addr) (h n : Nat) : List (Str × V) := [("_whole", .ref L), ("_held", .int (h : Int)), ("_held_bits", .int (n : Int))]
def WrAt (C : Addr) (H : Hp) (a L : Addr) (ms : List Bool) : Prop := ∃ (dx : Addr) (ws : List Nat) (h n : Nat), H a = some (.ins C dx (wF L h n)) ∧ H L = some (.lst ((cs ws).map V.int)) ∧ n < 8 ∧ h < 2 ^ n ∧ (∀ b ∈ ws, b < 256) ∧ ws.flatMap bits8 ++ bitsN n h = ms
def Fr (a L : Addr) (H H' : Hp) : Prop := ∀ b o, b ≠ a → b ≠ L → H b = some o → H' b = some o
theorem Fr.trans {a L : Addr} {H H1 H2 : Hp} (h : Fr a L H H1) (g : Fr a L H1 H2) : Fr a L H H2 := fun b o n1 n2 e => g b o n1 n2 (h b o n1 n2 e)
theorem Fr.ex {a L : Addr} {H H1 : Hp} (h : Ex H H1) : Fr a L H H1 := fun b o _ _ e => h b o e
theorem Fr.upd1 {a L : Addr} {H H1 : Hp} {o : HO} (h : Fr a L H H1) : Fr a L H (upd H1 a o) := fun b p n1 n2 e => by rw [upd_ne n1]; exact h b p n1 n2 e
theorem Fr.upd2 {a L : Addr} {H H1 : Hp} {o : HO} (h : Fr a L H H1) : Fr a L H (upd H1 L o) := fun b p n1 n2 e => by rw [upd_ne n2]; exact h b p n1 n2 e
theorem WrAt.ex {C a L : Addr} {H H1 : Hp} {ms : List Bool} (e : Ex H H1) (h : WrAt C H a L ms) : WrAt C H1 a L ms := by
  obtain ⟨dx, ws, hd, n, h1, h2, h3⟩ := h
  exact ⟨dx, ws, hd, n, e _ _ h1, e _ _ h2, h3⟩
theorem WrAt.ne {C a L : Addr} {H : Hp} {ms : List Bool} (h : WrAt C H a L ms) : a ≠ L := by
  obtain ⟨dx, ws, hd, n, h1, h2, h3⟩ := h
  intro e
  rw [e, h2] at h1
  cases h1
theorem WrAt.len {C a L : Addr} {H : Hp} {ms : List Bool} (h : WrAt C H a L ms) : ∃ dx ws hd n, H a = some (.ins C dx (wF L hd n)) ∧ H L = some (.lst ((cs ws).map V.int)) ∧ n < 8 ∧ hd < 2 ^ n ∧ (∀ b ∈ ws, b < 256) ∧ ws.flatMap bits8 ++ bitsN n hd = ms ∧ ms.length = 8 * ws.length + n := by
  obtain ⟨dx, ws, hd, n, h1, h2, h3, h4, h5, h6⟩ := h
  exact ⟨dx, ws, hd, n, h1, h2, h3, h4, h5, h6, by rw [← h6, List.length_append, bits_flat_len, bitsN_len]⟩
def sp_winit (C : Addr) : Sp := fun vs H Q _ => ∃ a dx, vs = [.ref a] ∧ H a = some (.ins C dx []) ∧ ∀ L H', H L = none → (∀ b o, b ≠ a → H b = some o → H' b = some o) → WrAt C H' a L [] → Q .non H'
theorem ok_BitWriter_init (T : TX K mg) : FnOk P w K mg base CX0 1 T.a_BitWriter_init T.d_BitWriter_init ["self"] (sp_winit T.C_BitWriter) := by
  refine T.F_BitWriter_init.ok sc_BitWriter_init (fun vs H Q E h => by obtain ⟨a, dx, rfl, _⟩ := h; rfl) (fun cdv A outer s H vs Q E hr h => ?_)
  obtain ⟨a, dx, rfl, ha, k⟩ := h
  refine ⟨_, (pss_cons (ps_fld (pv 0) (pe_lst pa_nil) rfl)
      (pss_cons (ps_fld (pv 0) pe_int rfl)
      (pss_one (ps_fld (pv 0) pe_int rfl)))), ?_⟩
  refine q_fldL (xs := []) T.cl_BitWriter T.n_BitWriter_whole (el_lst ea_nil (by decide)) (fun _ _ => ev_var rfl) ha (by decide) fun L H2 hL1 e2 g2 => ?_
  have hne : a ≠ L := fresh_ne hL1 ha
  refine q_fld T.cl_BitWriter T.n_BitWriter_held (v := .int 0) ev_c (ev_var rfl) upd_same (Nat.le_of_ble_eq_true rfl) fun H3 e3 => ?_
  refine s_fld T.cl_BitWriter T.n_BitWriter_held_bits (v := .int 0) ev_c (ev_var rfl) upd_same (Nat.le_of_ble_eq_true rfl) fun H4 e4 => ?_
  refine k L _ hL1 (fun b o n e => ?_) ⟨dx, [], 0, 0, upd_same, ?_, by decide, by decide, (fun b hb => by cases hb), rfl⟩
  · rw [upd_ne n]
    refine e4 _ _ ?_
    rw [upd_ne n]
    refine e3 _ _ ?_
    rw [upd_ne n]
    exact e2 _ _ e
  · rw [upd_ne hne.symm]
    refine e4 _ _ ?_
    rw [upd_ne hne.symm]
    refine e3 _ _ ?_
    rw [upd_ne hne.symm]
    exact g2
def sp_wwrite (C : Addr) : Sp := fun vs H Q _ => ∃ (a L : Addr) (ms : List Bool) (wd : Nat) (v : Int), vs = [.ref a, .int (wd : Int), .int v] ∧ WrAt C H a L ms ∧ wd ≤ 1000 ∧ ms.length + wd ≤ 400000 ∧ ∀ H', Fr a L H H' → WrAt C H' a L (ms ++ bitsN wd (v % 2 ^ wd).toNat) → Q .non H'
theorem pow_cast (k : Nat) : ((2 : Int) ^ k) = ((2 ^ k : Nat) : Int) := by rw [Int.natCast_pow]; rfl
theorem ok_BitWriter_write (T : TX K mg) : FnOk P w K mg base CX0 1 T.a_BitWriter_write T.d_BitWriter_write ["self", "width", "value"] (sp_wwrite T.C_BitWriter) := by
  refine T.F_BitWriter_write.ok sc_BitWriter_write (fun vs H Q E h => by obtain ⟨a, L, ms, wd, v, rfl, _⟩ := h; rfl) (fun cdv A outer s H vs Q E hr h => ?_)
  obtain ⟨a, L, ms, wd, v, rfl, hW, hw, hlen, k⟩ := h
  obtain ⟨dx, ws, hd, n, ha, hl, hn, hh, hws, hbits, hml⟩ := hW.len
  have hne := hW.ne
  refine ⟨_, (pss_cons (ps_set (i := 3) sc_BitWriter_write.nd rfl (Or.inl rfl) (pe_op op_or (pe_op op_shl (pe_fld (pv 0) rfl) (pv 1)) (pe_op op_and (pv 2) (pe_op op_sub (pe_op op_shl pe_int (pv 1)) pe_int))))
      (pss_cons (ps_set (i := 4) sc_BitWriter_write.nd rfl (Or.inl rfl) (pe_op op_add (pe_fld (pv 0) rfl) (pv 1)))
      (pss_cons (ps_while PassesOwn.never (pt_cmpR op_ge (pv 4) pe_int (nomark _)) (pss_cons (ps_aug (i := 4) sc_BitWriter_write.nd rfl (Or.inl rfl) pe_int ip_sub)
        (pss_cons (ps_expr (pe_bm PySem.F.plainAttrs_list PySem.F.slot_list_append PySem.F.type_list_append mt_append (pe_fld (pv 0) rfl) (pa_cons (pe_op op_shr (pv 3) (pv 4)) pa_nil)))
        (pss_one (ps_aug (i := 3) sc_BitWriter_write.nd rfl (Or.inl rfl) (pe_op op_sub (pe_op op_shl pe_int (pv 4)) pe_int) iop_and)))))
      (pss_cons (ps_fld (pv 0) (pv 3) rfl)
      (pss_one (ps_fld (pv 0) (pv 4) rfl)))))), ?_⟩
  have hm0 := Int.emod_nonneg v (show ((2 ^ wd : Nat) : Int) ≠ 0 by have := Nat.two_pow_pos wd; omega)
  have hm1 := Int.emod_lt_of_pos v (show (0 : Int) < ((2 ^ wd : Nat) : Int) by have := Nat.two_pow_pos wd; omega)
  rw [pow_cast wd] at k
  have hvv : Builtin.bitAnd v (1 * 2 ^ ((wd : Int)).toNat - 1) = (((v % ((2 ^ wd : Nat) : Int)).toNat : Nat) : Int) := by
    rw [Int.toNat_natCast, Int.one_mul, bitAnd_maskZ, pow_cast]
    omega
  have hvl : (v % ((2 ^ wd : Nat) : Int)).toNat < 2 ^ wd := by omega
  generalize hvn : (v % ((2 ^ wd : Nat) : Int)).toNat = vn at *
  have hh7 : hd < 256 := Nat.lt_of_lt_of_le hh (Nat.pow_le_pow_right (n := 2) (by decide) (by omega : n ≤ 8))
  refine q_asg (v := .int ((hd * 2 ^ wd + vn : Nat) : Int)) (Ev.is (ev_I0 (ev_I (ev_fld T.cl_BitWriter T.n_BitWriter_held (v := .int (hd : Int)) (ev_var rfl) ha rfl) (ev_var rfl) (show CPow (hd : Int) (wd : Int) from ⟨by omega, by omega, by rw [Int.natAbs_natCast]; omega⟩)) (ev_I0 (ev_var rfl) (ev_I0 (ev_I ev_c (ev_var rfl) (show CPow 1 (wd : Int) from ⟨by omega, by omega, by decide⟩)) ev_c))) (congrArg V.int ?_)) fun H1 e1 => ?_
  · rw [hvv, Int.toNat_natCast, _root_.Bits.bitOr_join' (by omega) (by rw [pow_cast]; omega) (by omega), Int.natCast_add, Int.natCast_mul, pow_cast]
    omega
  refine q_asg (v := .int ((n + wd : Nat) : Int)) (Ev.is (ev_I0 (ev_fld T.cl_BitWriter T.n_BitWriter_held_bits (v := .int (n : Int)) (ev_var rfl) (e1 _ _ ha) rfl) (ev_var rfl)) (congrArg V.int (by omega))) fun H2 e2 => ?_
  have ex2 := e1.trans e2
  refine q_while (fun m σ' H' => ∃ (x m' : Nat) (us : List Nat), m = m' ∧ m' ≤ n + wd ∧ σ' = [some (.ref a), some (.int (wd : Int)), some (.int v), some (.int (x : Int)), some (.int (m' : Int))] ∧ Fr a L H H' ∧ H' a = some (.ins T.C_BitWriter dx (wF L hd n)) ∧ H' L = some (.lst ((cs us).map V.int)) ∧ x < 2 ^ m' ∧ (∀ b ∈ us, b < 256) ∧ us.flatMap bits8 ++ bitsN m' x = ms ++ bitsN wd vn) (n + wd) ⟨hd * 2 ^ wd + vn, n + wd, ws, rfl, Nat.le_refl _, rfl, Fr.ex ex2, ex2 _ _ ha, ex2 _ _ hl, ?_, hws, ?_⟩ ?_
  · rw [Nat.pow_add]
    have : (hd + 1) * 2 ^ wd ≤ 2 ^ n * 2 ^ wd := Nat.mul_le_mul_right _ hh
    rw [Nat.add_mul, Nat.one_mul] at this
    omega
  · rw [bitsN_cat hvl, ← List.append_assoc, hbits]
  rintro m _ H3 ⟨x, _, us, rfl, hmle, rfl, hF, ha3, hl3, hx, hus, hb⟩
  have hul : 8 * us.length + m = ms.length + wd := by
    have := congrArg List.length hb
    rw [List.length_append, List.length_append, bits_flat_len, bitsN_len, bitsN_len] at this
    exact this
  refine ⟨decide (8 ≤ m), et_test (Ev.is (ev_I0 (ev_var rfl) ev_c) (congrArg V.bl (decide_eq_decide.mpr (by show (8 : Int) ≤ (m : Int) ↔ _; omega)))), fun hb8 H4 e4 => ?_, fun hb8 H4 e4 => ?_⟩
  · have h8 : 8 ≤ m := of_decide_eq_true hb8
    refine ⟨fun σ2 H2 => ∃ m', m' < m ∧ _, fun σ2 H2 h => h, ?_⟩
    refine q_aug (b := 8) rfl ev_c fun H5 e5 => ?_
    have hm8 : (m : Int) - 8 = ((m - 8 : Nat) : Int) := by omega
    rw [hm8]
    refine q_app (v := .int ((x / 2 ^ (m - 8) : Nat) : Int)) ((e4.trans e5) _ _ hl3) (ev_fld T.cl_BitWriter T.n_BitWriter_whole (v := .ref L) (ev_var rfl) ((e4.trans e5) _ _ ha3) rfl) (Ev.is (ev_I (ev_var rfl) (ev_var rfl) (by show (0 : Int) ≤ _; omega)) (congrArg V.int (by rw [Int.toNat_natCast, pow_cast, Int.natCast_ediv]))) (by rw [List.length_map, cs_len]; omega) fun H6 e6 => ?_
    refine s_augR (a := (x : Int)) (b := 1 * 2 ^ (m - 8) - 1) rfl (ev_I0 (ev_I ev_c (ev_var rfl) (show CPow 1 ((m - 8 : Nat) : Int) from ⟨by omega, by omega, by decide⟩)) ev_c) fun H7 e7 => ?_
    rw [Int.one_mul, bitAnd_maskZ, pow_cast, show (x : Int) % ((2 ^ (m - 8) : Nat) : Int) = ((x % 2 ^ (m - 8) : Nat) : Int) from (Int.natCast_emod _ _).symm]
    refine ⟨m - 8, by omega, x % 2 ^ (m - 8), m - 8, us ++ [x / 2 ^ (m - 8)], rfl, by omega, rfl, ?_, ?_, ?_, Nat.mod_lt _ (Nat.two_pow_pos _), ?_, ?_⟩
    · exact ((hF.trans (Fr.ex ((e4.trans e5).trans e6))).upd2).trans (Fr.ex e7)
    · refine e7 _ _ ?_
      rw [upd_ne hne]
      exact e6 _ _ ((e4.trans e5) _ _ ha3)
    · refine e7 _ _ ?_
      rw [upd_same, cs_append, List.map_append]
      rfl
    · intro b hb
      rcases List.mem_append.mp hb with h | h
      · exact hus b h
      · cases List.mem_singleton.mp h
        rw [show m = 8 + (m - 8) by omega, Nat.pow_add] at hx
        exact Nat.div_lt_of_lt_mul (by rw [Nat.mul_comm]; exact hx)
    · rw [← hb, List.flatMap_append, List.flatMap_cons, List.flatMap_nil, List.append_nil, List.append_assoc]
      congr 1
      conv => rhs; rw [show m = 8 + (m - 8) by omega, bitsN_add]
      rw [bitsN_mod]
      congr 1
  · have h8 : m < 8 := by
      have := of_decide_eq_false hb8
      omega
    refine q_fld T.cl_BitWriter T.n_BitWriter_held (v := .int (x : Int)) (ev_var rfl) (ev_var rfl) (e4 _ _ ha3) (Nat.le_of_ble_eq_true rfl) fun H5 e5 => ?_
    refine s_fld T.cl_BitWriter T.n_BitWriter_held_bits (v := .int (m : Int)) (ev_var rfl) (ev_var rfl) upd_same (Nat.le_of_ble_eq_true rfl) fun H6 e6 => ?_
    refine k _ (((((hF.trans (Fr.ex (e4.trans e5))).upd1).trans (Fr.ex e6)).upd1)) ⟨dx, us, x, m, upd_same, ?_, h8, hx, hus, hb⟩
    rw [upd_ne hne.symm]
    refine e6 _ _ ?_
    rw [upd_ne hne.symm]
    exact (e4.trans e5) _ _ hl3

theorem ok_BitWriter_write_signed (T : TX K mg) : FnOk P w K mg base CX0 2 T.a_BitWriter_write_signed T.d_BitWriter_write_signed ["self", "width", "value"] (sp_wwrite T.C_BitWriter) := by
  refine T.F_BitWriter_write_signed.ok sc_BitWriter_write_signed (fun vs H Q E h => by obtain ⟨a, L, ms, wd, v, rfl, _⟩ := h; rfl) (fun cdv A outer s H vs Q E hr h => ?_)
  obtain ⟨a, L, ms, wd, v, rfl, hW, hw, hlen, k⟩ := h
  obtain ⟨dx, ws, hd, n, ha, hl, hn, hh, hws, hbits, hml⟩ := hW.len
  refine ⟨_, (pss_one (ps_expr (pe_meth (pv 0) T.cl_BitWriter T.me_BitWriter_write (ok_BitWriter_write T) (hr.mono (by decide)) T.b_BitWriter_write .nil pass0 (pa_cons (pv 1) (pa_cons (pe_op op_and (pv 2) (pe_op op_sub (pe_op op_shl pe_int (pv 1)) pe_int)) pa_nil))))), ?_⟩
  refine s_dropM (vs := [.int (wd : Int), .int (v % 2 ^ wd)]) (ev_var rfl) ha rfl (ea_cons (ev_var rfl) (ea_cons (Ev.is (ev_I0 (ev_var rfl) (ev_I0 (ev_I ev_c (ev_var rfl) (show CPow 1 (wd : Int) from ⟨by omega, by omega, by decide⟩)) ev_c)) (congrArg V.int (by rw [Int.toNat_natCast, Int.one_mul, bitAnd_maskZ]))) ea_nil)) fun H1 e1 => ⟨a, L, ms, wd, _, rfl, hW.ex e1, hw, hlen, fun H2 hF hW2 => ?_⟩
  rw [Int.emod_emod] at hW2
  exact k H2 ((Fr.ex e1).trans hF) hW2
theorem bitsN_one (z : Nat) : bitsN (z + 1) ((1 : Int) % 2 ^ (z + 1)).toNat = List.replicate z false ++ [true] := by
  rw [pow_cast, show ((1 : Int) % ((2 ^ (z + 1) : Nat) : Int)).toNat = 1 % 2 ^ (z + 1) by rw [show ((1 : Int) % ((2 ^ (z + 1) : Nat) : Int)) = ((1 % 2 ^ (z + 1) : Nat) : Int) from (Int.natCast_emod 1 _).symm, Int.toNat_natCast], bitsN_mod, bitsN_add z 1 1, show 1 / 2 ^ 1 = 0 from rfl, bitsN_zero]
  rfl
theorem bitsN_z (z : Nat) : bitsN z ((0 : Int) % 2 ^ z).toNat = List.replicate z false := by
  rw [Int.zero_emod, Int.toNat_zero, bitsN_zero]
def sp_wunary (C : Addr) : Sp := fun vs H Q _ => ∃ (a L : Addr) (ms : List Bool) (c : Nat), vs = [.ref a, .int (c : Int)] ∧ WrAt C H a L ms ∧ ms.length + c ≤ 300000 ∧ ∀ H', Fr a L H H' → WrAt C H' a L (ms ++ (List.replicate c false ++ [true])) → Q .non H'
theorem ok_BitWriter_write_unary (T : TX K mg) : FnOk P w K mg base CX0 2 T.a_BitWriter_write_unary T.d_BitWriter_write_unary ["self", "count"] (sp_wunary T.C_BitWriter) := by
  refine T.F_BitWriter_write_unary.ok sc_BitWriter_write_unary (fun vs H Q E h => by obtain ⟨a, L, ms, c, rfl, _⟩ := h; rfl) (fun cdv A outer s H vs Q E hr h => ?_)
  obtain ⟨a, L, ms, c, rfl, hW, hlen, k⟩ := h
  refine ⟨_, (pss_cons (ps_set (i := 2) sc_BitWriter_write_unary.nd rfl (Or.inl rfl) (pv 1))
      (pss_cons (ps_while PassesOwn.never (pt_cmpR op_gt (pv 2) (pe_glob (by rfl) T.c_MOST_ZEROS T.r_MOST_ZEROS) (nomark _)) (pss_cons (ps_expr (pe_meth (pv 0) T.cl_BitWriter T.me_BitWriter_write (ok_BitWriter_write T) (hr.mono (by decide)) T.b_BitWriter_write .nil pass0 (pa_cons (pe_glob (by rfl) T.c_MOST_ZEROS T.r_MOST_ZEROS) (pa_cons pe_int pa_nil))))
        (pss_one (ps_aug (i := 2) sc_BitWriter_write_unary.nd rfl (Or.inl rfl) (pe_glob (by rfl) T.c_MOST_ZEROS T.r_MOST_ZEROS) ip_sub))))
      (pss_one (ps_expr (pe_meth (pv 0) T.cl_BitWriter T.me_BitWriter_write (ok_BitWriter_write T) (hr.mono (by decide)) T.b_BitWriter_write .nil pass0 (pa_cons (pe_op op_add (pv 2) pe_int) (pa_cons pe_int pa_nil))))))), ?_⟩
  walk_at "asg"
  intro H1 e1
  refine q_while (fun m σ' H' => ∃ z, m = z ∧ z ≤ c ∧ σ' = [some (.ref a), some (.int (c : Int)), some (.int (z : Int))] ∧ Fr a L H H' ∧ WrAt T.C_BitWriter H' a L (ms ++ List.replicate (c - z) false)) c ⟨c, rfl, Nat.le_refl _, rfl, Fr.ex e1, by rw [Nat.sub_self]; show WrAt _ _ _ _ (ms ++ []); rw [List.append_nil]; exact hW.ex e1⟩ ?_
  rintro z _ H2 ⟨_, rfl, hz, rfl, hF, hW2⟩
  refine ⟨decide (56 < z), et_test (Ev.is (ev_I0 (ev_var rfl) ev_c) (congrArg V.bl (decide_eq_decide.mpr (by show (z : Int) > 56 ↔ _; omega)))), fun hb H3 e3 => ?_, fun hb H3 e3 => ?_⟩
  · have h56 : 56 < z := of_decide_eq_true hb
    refine ⟨fun σ2 H2 => ∃ m', m' < z ∧ _, fun σ2 H2 h => h, ?_⟩
    have hW3 := hW2.ex e3
    obtain ⟨dx, ws, hd, n, ha, _⟩ := hW3.len
    refine q_dropM (vs := [.int 56, .int 0]) (ev_var rfl) ha rfl (ea_cons ev_c (ea_cons ev_c ea_nil)) fun H4 e4 => ⟨a, L, _, 56, 0, rfl, hW3.ex e4, by decide, by rw [List.length_append, List.length_replicate]; omega, fun H5 hF5 hW5 => ?_⟩
    refine s_aug (b := 56) rfl ev_c fun H6 e6 => ?_
    rw [bitsN_z, List.append_assoc, List.replicate_append_replicate, show c - z + 56 = c - (z - 56) by omega] at hW5
    refine ⟨z - 56, by omega, z - 56, rfl, by omega, by rw [show (z : Int) - 56 = ((z - 56 : Nat) : Int) by omega]; rfl, ((hF.trans (Fr.ex (e3.trans e4))).trans hF5).trans (Fr.ex e6), hW5.ex e6⟩
  · have hW3 := hW2.ex e3
    obtain ⟨dx, ws, hd, n, ha, _⟩ := hW3.len
    have hz56 : z ≤ 56 := by have := of_decide_eq_false hb; omega
    refine s_dropM (vs := [.int ((z + 1 : Nat) : Int), .int 1]) (ev_var rfl) ha rfl (ea_cons (Ev.is (ev_I0 (ev_var rfl) ev_c) (congrArg V.int (by omega))) (ea_cons ev_c ea_nil)) fun H4 e4 => ⟨a, L, _, z + 1, 1, rfl, hW3.ex e4, by omega, by rw [List.length_append, List.length_replicate]; omega, fun H5 hF5 hW5 => ?_⟩
    rw [bitsN_one, ← List.append_assoc, List.append_assoc ms, List.replicate_append_replicate, show c - z + z = c by omega, List.append_assoc] at hW5
    exact k H5 ((hF.trans (Fr.ex (e3.trans e4))).trans hF5) hW5
def sp_wpad (C : Addr) : Sp := fun vs H Q _ => ∃ (a L : Addr) (ms : List Bool), vs = [.ref a] ∧ WrAt C H a L ms ∧ ms.length ≤ 300000 ∧ ∀ H', Fr a L H H' → WrAt C H' a L (ms ++ List.replicate (padN ms.length) false) → Q .non H'
theorem ok_BitWriter_pad (T : TX K mg) : FnOk P w K mg base CX0 2 T.a_BitWriter_pad T.d_BitWriter_pad ["self"] (sp_wpad T.C_BitWriter) := by
  refine T.F_BitWriter_pad.ok sc_BitWriter_pad (fun vs H Q E h => by obtain ⟨a, L, ms, rfl, _⟩ := h; rfl) (fun cdv A outer s H vs Q E hr h => ?_)
  obtain ⟨a, L, ms, rfl, hW, hlen, k⟩ := h
  obtain ⟨dx, ws, hd, n, ha, hl, hn, hh, hws, hbits, hml⟩ := hW.len
  have hfld : ∀ {H1 : Hp}, Ex H H1 → Ev (tFld K (tVar 0) "_held_bits") (start ["self"] [.ref a]) H1 (.int (n : Int)) := fun e => ev_fld T.cl_BitWriter T.n_BitWriter_held_bits (ev_var rfl) (e _ _ ha) rfl
  refine ⟨_, (pss_one (ps_if (pt_cmpR op_gt (pe_fld (pv 0) rfl) pe_int (nomark _)) (pss_one (ps_expr (pe_meth (pv 0) T.cl_BitWriter T.me_BitWriter_write (ok_BitWriter_write T) (hr.mono (by decide)) T.b_BitWriter_write .nil pass0 (pa_cons (pe_op op_sub pe_int (pe_fld (pv 0) rfl)) (pa_cons pe_int pa_nil))))) pss_nil)), ?_⟩
  have hp : padN ms.length = if 0 < n then 8 - n else 0 := by
    unfold padN
    split <;> omega
  refine s_when (b := decide (0 < n)) (et_test (Ev.is (ev_I0 (hfld (Ex.refl H)) ev_c) (congrArg V.bl (decide_eq_decide.mpr (by show (n : Int) > 0 ↔ _; omega))))) (fun hb H1 e1 => ?_) (fun hb H1 e1 => ?_)
  · have h0 : 0 < n := of_decide_eq_true hb
    refine s_dropM (vs := [.int ((8 - n : Nat) : Int), .int 0]) (ev_var rfl) (e1 _ _ ha) rfl (ea_cons (Ev.is (ev_I0 ev_c (hfld e1)) (congrArg V.int (by omega))) (ea_cons ev_c ea_nil)) fun H4 e4 => ⟨a, L, _, 8 - n, 0, rfl, hW.ex (e1.trans e4), by omega, by omega, fun H5 hF5 hW5 => ?_⟩
    rw [bitsN_z] at hW5
    rw [hp, if_pos h0] at k
    exact k H5 ((Fr.ex (e1.trans e4)).trans hF5) hW5
  · have h0 : ¬ 0 < n := of_decide_eq_false hb
    rw [hp, if_neg h0] at k
    refine k H1 (Fr.ex e1) ?_
    show WrAt _ _ _ _ (ms ++ [])
    rw [List.append_nil]
    exact hW.ex e1
theorem s_ext {σ : L2.St} {H : Hp} {ta te : TE} {D : Ends} {l b : Addr} {xs zs : List V} (hl : H l = some (.lst xs)) (hb : H b = some (.lst zs)) (ha : Ev ta σ H (.ref l)) (he : Ev te σ H (.ref b)) (hs : xs.length + zs.length ≤ 100000) (k : ∀ H1, Ex H H1 → D.nx σ (upd H1 l (.lst (xs ++ zs)))) : tDrop (tBM K "list" rExtend ta (tCons te tNil)) D σ H :=
  ha H (Ex.refl H) _ fun H1 e1 => ⟨.inl ⟨rfl, _, SqL.of (e1 _ _ hl)⟩, he H1 e1 _ fun H2 e2 => ⟨l, b, xs, zs, rfl, rfl, (e1.trans e2) _ _ hl, (e1.trans e2) _ _ hb, sz_of hs, k H2 (e1.trans e2)⟩⟩
def sp_wbytes (C : Addr) : Sp := fun vs H Q _ => ∃ (a L b : Addr) (ms : List Bool) (ds : List Nat), vs = [.ref a, .ref b] ∧ WrAt C H a L ms ∧ H b = some (.lst ((cs ds).map V.int)) ∧ b ≠ L ∧ (∀ d ∈ ds, d < 256) ∧ ms.length + 8 * ds.length ≤ 300000 ∧ ∀ H', Fr a L H H' → WrAt C H' a L (ms ++ ds.flatMap bits8) → Q .non H'
theorem bitsN_8 {d : Nat} (h : d < 256) : bitsN 8 ((d : Int) % 2 ^ 8).toNat = bits8 d := by
  rw [bits8_N]
  congr 1
  omega
theorem ok_BitWriter_append_bytes (T : TX K mg) : FnOk P w K mg base CX0 2 T.a_BitWriter_append_bytes T.d_BitWriter_append_bytes ["self", "data"] (sp_wbytes T.C_BitWriter) := by
  refine T.F_BitWriter_append_bytes.ok sc_BitWriter_append_bytes (fun vs H Q E h => by obtain ⟨a, L, b, ms, ds, rfl, _⟩ := h; rfl) (fun cdv A outer s H vs Q E hr h => ?_)
  obtain ⟨a, L, b, ms, ds, rfl, hW, hb, hbL, hds, hlen, k⟩ := h
  obtain ⟨dx, ws, hd, n, ha, hl, hn, hh, hws, hbits, hml⟩ := hW.len
  have hba : b ≠ a := by
    intro e
    rw [e, ha] at hb
    cases hb
  refine ⟨_, (pss_one (ps_if (pt_cmpR op_eq (pe_fld (pv 0) rfl) pe_int (nomark _)) (pss_one (ps_expr (pe_bm PySem.F.plainAttrs_list PySem.F.slot_list_extend PySem.F.type_list_extend mt_extend (pe_fld (pv 0) rfl) (pa_cons (pv 1) pa_nil)))) (pss_one (ps_for PassesOwn.never rfl (pi_list (pv 1)) (pg_name (i := 2) sc_BitWriter_append_bytes.nd rfl (Or.inl rfl)) (pss_one (ps_expr (pe_meth (pv 0) T.cl_BitWriter T.me_BitWriter_write (ok_BitWriter_write T) (hr.mono (by decide)) T.b_BitWriter_write .nil pass0 (pa_cons pe_int (pa_cons (pv 2) pa_nil))))))))), ?_⟩
  refine s_if (b := decide (n = 0)) (et_test (Ev.is (ev_eq (ev_fld T.cl_BitWriter T.n_BitWriter_held_bits (v := .int (n : Int)) (ev_var rfl) ha rfl) ev_c rfl) (congrArg V.bl (decide_eq_decide.mpr ⟨fun h => by have := V.int.inj h; omega, fun h => by rw [h]; rfl⟩)))) (fun h0 H1 e1 => ?_) (fun _ H1 e1 => ?_)
  · have h0 : n = 0 := of_decide_eq_true h0
    subst h0
    refine s_ext (e1 _ _ hl) (e1 _ _ hb) (ev_fld T.cl_BitWriter T.n_BitWriter_whole (v := .ref L) (ev_var rfl) (e1 _ _ ha) rfl) (ev_var rfl) (by rw [List.length_map, List.length_map, cs_len, cs_len]; omega) fun H2 e2 => ?_
    refine k _ (Fr.ex (e1.trans e2)).upd2 ⟨dx, ws ++ ds, hd, 0, ?_, ?_, by decide, hh, ?_, ?_⟩
    · rw [upd_ne hW.ne]
      exact (e1.trans e2) _ _ ha
    · rw [upd_same, cs_append, List.map_append]
    · intro d hd
      rcases List.mem_append.mp hd with h | h
      · exact hws d h
      · exact hds d h
    · rw [← hbits, List.flatMap_append]
      show _ ++ [] = _ ++ [] ++ _
      rw [List.append_nil, List.append_nil]
  · refine s_forLn (K := K) (xs := (cs ds).map V.int) (a := b) (ev_var rfl) (sq_of (e1 _ _ hb)) (fun i σ' H' => ∃ c, σ' = [some (.ref a), some (.ref b), c] ∧ Fr a L H H' ∧ WrAt T.C_BitWriter H' a L (ms ++ (ds.take i).flatMap bits8)) (fun H2 e2 => ⟨none, rfl, Fr.ex (e1.trans e2), by show WrAt _ _ _ _ (ms ++ []); rw [List.append_nil]; exact hW.ex (e1.trans e2)⟩) (fun i σ' H' _ h => by obtain ⟨_, _, hF, _⟩ := h; exact sq_of (hF _ _ hba hbL hb)) ?_ ?_
    · rintro i x σ' H2 hx ⟨c, rfl, hF, hW2⟩
      obtain ⟨n2, hn2, hi, rfl⟩ := int_at hx
      rw [cs_len] at hi
      have hd2 : ds[i]? = some ds[i] := List.getElem?_eq_getElem hi
      have hn3 := cs_at hd2
      rw [hn2] at hn3
      have hn3 := Option.some.inj hn3
      have hlt : ds[i] < 256 := hds _ (List.getElem_mem hi)
      rw [show ds.take (i + 1) = ds.take i ++ [ds[i]] from by rw [List.take_add_one, hd2]; rfl, List.flatMap_append, List.flatMap_cons, List.flatMap_nil, List.append_nil]
      generalize ds[i] = d at *
      subst hn3
      obtain ⟨dx2, ws2, hd2', nn, ha2, _⟩ := hW2.len
      refine s_dropM (vs := [.int 8, .int (d : Int)]) (ev_var rfl) ha2 rfl (ea_cons ev_c (ea_cons (ev_var rfl) ea_nil)) fun H4 e4 => ⟨a, L, _, 8, (d : Int), rfl, hW2.ex e4, by decide, by rw [List.length_append, bits_flat_len, List.length_take]; omega, fun H5 hF5 hW5 => ?_⟩
      rw [bitsN_8 hlt, List.append_assoc] at hW5
      exact ⟨_, rfl, (hF.trans (Fr.ex e4)).trans hF5, hW5⟩
    · rintro σ' H2 ⟨c, rfl, hF, hW2⟩
      rw [List.length_map, cs_len, List.take_length] at hW2
      exact k H2 hF hW2
def sp_wlist (C : Addr) : Sp := fun vs H Q _ => ∃ (a L : Addr) (ms : List Bool), vs = [.ref a] ∧ WrAt C H a L ms ∧ ms.length ≤ 300000 ∧ ∀ p us H', H p = none → Ex H H' → H' p = some (.lst ((cs us).map V.int)) → us.flatMap bits8 = ms ++ List.replicate (padN ms.length) false → (∀ b ∈ us, b < 256) → Q (.ref p) H'
theorem ok_BitWriter_byte_list (T : TX K mg) : FnOk P w K mg base CX0 1 T.a_BitWriter_byte_list T.d_BitWriter_byte_list ["self"] (sp_wlist T.C_BitWriter) := by
  refine T.F_BitWriter_byte_list.ok sc_BitWriter_byte_list (fun vs H Q E h => by obtain ⟨a, L, ms, rfl, _⟩ := h; rfl) (fun cdv A outer s H vs Q E hr h => ?_)
  obtain ⟨a, L, ms, rfl, hW, hlen, k⟩ := h
  obtain ⟨dx, ws, hd, n, ha, hl, hn, hh, hws, hbits, hml⟩ := hW.len
  have f1 : ∀ {H1 : Hp}, Ex H H1 → Ev (tFld K (tVar 0) "_whole") (start ["self"] [.ref a]) H1 (.ref L) := fun e => ev_fld T.cl_BitWriter T.n_BitWriter_whole (ev_var rfl) (e _ _ ha) rfl
  have f2 : ∀ {H1 : Hp}, Ex H H1 → Ev (tFld K (tVar 0) "_held") (start ["self"] [.ref a]) H1 (.int (hd : Int)) := fun e => ev_fld T.cl_BitWriter T.n_BitWriter_held (ev_var rfl) (e _ _ ha) rfl
  have f3 : ∀ {H1 : Hp}, Ex H H1 → Ev (tFld K (tVar 0) "_held_bits") (start ["self"] [.ref a]) H1 (.int (n : Int)) := fun e => ev_fld T.cl_BitWriter T.n_BitWriter_held_bits (ev_var rfl) (e _ _ ha) rfl
  refine ⟨_, (pss_cons (ps_if (pt_cmpR op_eq (pe_fld (pv 0) rfl) pe_int (nomark _)) (pss_one (ps_ret (pe_callTy (r := rListS K) call_list_of (by rfl) T.m_list PyProof.Rows.boot_list (pa_cons (pe_fld (pv 0) rfl) pa_nil)))) pss_nil)
      (pss_one (ps_ret (pe_op op_cat (pe_fld (pv 0) rfl) (pe_lst (pa_cons (pe_op op_shl (pe_fld (pv 0) rfl) (pe_op op_sub pe_int (pe_fld (pv 0) rfl))) pa_nil)))))), ?_⟩
  refine q_when (b := decide (n = 0)) (et_test (Ev.is (ev_eq (f3 (Ex.refl H)) ev_c rfl) (congrArg V.bl (decide_eq_decide.mpr ⟨fun h => by have := V.int.inj h; omega, fun h => by rw [h]; rfl⟩)))) (fun h0 H1 e1 => ?_) (fun h0 H1 e1 => ?_)
  · have h0 : n = 0 := of_decide_eq_true h0
    subst h0
    refine s_retL (el_of (Ev.s (f1 e1) (sq_of (e1 _ _ hl)))) fun p H2 hp e2 g2 => ?_
    refine k p ws H2 (by cases h : H p with | none => rfl | some o => rw [e1 _ _ h] at hp; cases hp) (e1.trans e2) g2 ?_ hws
    have : padN ms.length = 0 := by unfold padN; omega
    rw [this, ← hbits]
    show _ = _ ++ [] ++ []
    rw [List.append_nil, List.append_nil]
  · have h0 : ¬ n = 0 := of_decide_eq_false h0
    have hh8 : hd < 256 := Nat.lt_of_lt_of_le hh (Nat.pow_le_pow_right (n := 2) (by decide) (by omega : n ≤ 8))
    refine s_retL (xs := (cs (ws ++ [hd * 2 ^ (8 - n)])).map V.int) (EvL.is (el_cat (Ev.r (f1 e1) (e1 _ _ hl)) (EvL.r (el_lst (vs := [.int ((hd * 2 ^ (8 - n) : Nat) : Int)]) (ea_cons (Ev.is (ev_I (j := ((8 - n : Nat) : Int)) (f2 e1) (Ev.is (ev_I0 ev_c (f3 e1)) (congrArg V.int (by omega))) (show CPow (hd : Int) ((8 - n : Nat) : Int) from ⟨by omega, by omega, by rw [Int.natAbs_natCast]; omega⟩)) (congrArg V.int (by rw [Int.toNat_natCast, pow_cast, Int.natCast_mul]))) ea_nil) (Nat.le_of_ble_eq_true rfl))) ?_) ?_) fun p H2 hp e2 g2 => ?_
    · rw [List.length_map, cs_len]
      show _ + 1 ≤ _
      omega
    · rw [cs_append, List.map_append]
      rfl
    · refine k p _ H2 (by cases h : H p with | none => rfl | some o => rw [e1 _ _ h] at hp; cases hp) (e1.trans e2) g2 ?_ ?_
      · have : padN ms.length = 8 - n := by unfold padN; omega
        rw [this, ← hbits, List.flatMap_append, List.flatMap_cons, List.flatMap_nil, List.append_nil, List.append_assoc, bits8_N]
        congr 1
        have h8 : 8 = n + (8 - n) := by omega
        conv => lhs; rw [h8]
        rw [show n + (8 - n) - n = 8 - n by omega]
        have h3 := bitsN_cat (n := n) (w := 8 - n) (h := hd) (v := 0) (Nat.two_pow_pos _)
        rw [Nat.add_zero, bitsN_zero] at h3
        exact h3
      · intro d hdm
        rcases List.mem_append.mp hdm with h | h
        · exact hws d h
        · cases List.mem_singleton.mp h
          have h3 : hd * 2 ^ (8 - n) < 2 ^ n * 2 ^ (8 - n) := Nat.mul_lt_mul_of_pos_right hh (Nat.two_pow_pos _)
          rw [← Nat.pow_add, show n + (8 - n) = 8 by omega] at h3
          exact h3
def sp_wmany (C : Addr) : Sp := fun vs H Q _ => ∃ (a L : Addr) (ms : List Bool), vs = [.ref a] ∧ WrAt C H a L ms ∧ RetV (.int (ms.length : Int)) H Q
theorem ok_BitWriter_bits_written (T : TX K mg) : FnOk P w K mg base CX0 1 T.a_BitWriter_bits_written T.d_BitWriter_bits_written ["self"] (sp_wmany T.C_BitWriter) := by
  refine T.F_BitWriter_bits_written.ok sc_BitWriter_bits_written (fun vs H Q E h => by obtain ⟨a, L, ms, rfl, _⟩ := h; rfl) (fun cdv A outer s H vs Q E hr h => ?_)
  obtain ⟨a, L, ms, rfl, hW, k⟩ := h
  obtain ⟨dx, ws, hd, n, ha, hl, hn, hh, hws, hbits, hml⟩ := hW.len
  refine ⟨_, (pss_one (ps_ret (pe_op op_add (pe_op op_mul (pe_callB (r := rLenS K) call_len_seq (by rfl) T.m_len PySem.boot_len (pa_cons (pe_fld (pv 0) rfl) pa_nil)) pe_int) (pe_fld (pv 0) rfl)))), ?_⟩
  refine s_ret (v := .int (ms.length : Int)) (Ev.is (ev_I0 (ev_I (ev_lenS (Ev.s (ev_fld T.cl_BitWriter T.n_BitWriter_whole (v := .ref L) (ev_var rfl) ha rfl) (sq_of hl))) ev_c (.inr (by decide))) (ev_fld T.cl_BitWriter T.n_BitWriter_held_bits (v := .int (n : Int)) (ev_var rfl) ha rfl)) (congrArg V.int (by rw [List.length_map, cs_len]; omega))) fun H1 e1 => k H1 e1

/-! ### the law's own words -/
def sp_bits : Sp := fun vs H Q _ => ∃ (wd v : Nat), vs = [.int (wd : Int), .int (v : Int)] ∧ wd ≤ 1000 ∧ ∀ p H', H p = none → Ex H H' → H' p = some (.lst ((bI (bitsN wd v)).map V.int)) → Q (.ref p) H'
theorem ok_law_bits (T : TX K mg) : FnOk P w K mg base CX0 1 T.a_law_bits T.d_law_bits ["width", "value"] sp_bits := by
  refine T.F_law_bits.ok sc_law_bits (fun vs H Q E h => by obtain ⟨wd, v, rfl, _⟩ := h; rfl) (fun cdv A outer s H vs Q E hr h => ?_)
  obtain ⟨wd, v, rfl, hw, k⟩ := h
  refine ⟨_, (pss_one (ps_ret (pe_lc (own := [("k", 2)]) (g := gName 2) (tt := tYes) rfl sc_law_bits.nd (pi_range1 (by rfl) T.m_range (pa_cons (pv 0) pa_nil)) (blkOk_by (N := ["width", "value", "k"]) (sc := defScope s_law_bits) (by decide +kernel)) (fun _ _ _ _ _ => pg_name (i := 2) sc_law_bits.nd rfl (Or.inl rfl)) (fun _ _ _ _ _ => pts_nil) (fun _ _ _ _ _ => (pe_op op_and (pe_op op_shr (pv 1) (pe_op op_sub (pe_op op_sub (pv 0) pe_int) (pv 2))) pe_int))))), ?_⟩
  have hl : ((bI (bitsN wd v)).map V.int).length = wd := by rw [List.length_map, bI_len, bitsN_len]
  refine s_retL (el_lcR (n := (wd : Int)) ((bI (bitsN wd v)).map V.int) (ea_cons (ev_var rfl) ea_nil) (by omega) (by rw [hl]; omega) (by rw [hl]; omega) (fun _ => rfl) fun i H1 e1 hi => ?_) fun p H1 hp e1 g1 => k p H1 hp e1 g1
  rw [hl] at hi
  exact ⟨_, at_int (bI_at (bitsN_at hi)), ev_bit (ev_var rfl) (ev_I0 (ev_I0 (ev_var rfl) ev_c) (ev_var rfl)) (by omega)⟩
theorem el_bits {σ : L2.St} {H : Hp} {t1 t2 : TE} {E : XK} {wd v : Nat} (hw : wd ≤ 1000) (h1 : Ev t1 σ H (.int (wd : Int))) (h2 : Ev t2 σ H (.int (v : Int))) : EvL (tCall sp_bits [] E (tCons t1 (tCons t2 tNil))) σ H ((bI (bitsN wd v)).map V.int) :=
  el_call (ea_cons h1 (ea_cons h2 ea_nil)) fun H1 _ Q q _ => ⟨wd, v, rfl, hw, q⟩
def sp_bytes : Sp := fun vs H Q _ => ∃ (b : Addr) (ms : List Bool) (us : List Nat), vs = [.ref b] ∧ H b = some (.lst ((bI ms).map V.int)) ∧ us.flatMap bits8 = ms ++ List.replicate (padN ms.length) false ∧ (∀ u ∈ us, u < 256) ∧ ms.length ≤ 50000 ∧ ∀ p H', H p = none → Ex H H' → H' p = some (.lst ((cs us).map V.int)) → Q (.ref p) H'
theorem q_forS {σ : L2.St} {H : Hp} {D : Ends} {tu tz : TS} {tl : TE} {g : TG} {xs : List V} (h : EvS K tl σ H xs) (k : ∀ p H1, Ex H H1 → SqL K H1 p xs → tSeq (tFor (iList K (tC (.ref p))) g tu) tz D σ H1) : tSeq (tFor (iList K tl) g tu) tz D σ H := h H (Ex.refl H) _ fun p H1 e hp => k p H1 e hp
theorem chunk : ∀ (us : List Nat) (k : Nat), k < us.length → ((us.flatMap bits8).drop (8 * k)).take 8 = bits8 (us.getD k 0)
  | u :: r, 0, _ => by
    rw [List.flatMap_cons]
    show ((bits8 u ++ _).drop 0).take 8 = bits8 u
    rw [List.drop_zero]
    exact List.take_left' (l₁ := bits8 u) rfl
  | u :: r, k + 1, h => by
    rw [List.flatMap_cons, show 8 * (k + 1) = (bits8 u).length + 8 * k by show _ = 8 + 8 * k; omega, List.drop_append, List.drop_of_length_le (by omega), List.nil_append, show (bits8 u).length + 8 * k - (bits8 u).length = 8 * k by omega]
    exact chunk r k (by simp at h; omega)
theorem ok_law_bytes (T : TX K mg) : FnOk P w K mg base CX0 1 T.a_law_bytes T.d_law_bytes ["bits"] sp_bytes := by
  refine T.F_law_bytes.ok sc_law_bytes (fun vs H Q E h => by obtain ⟨b, ms, us, rfl, _⟩ := h; rfl) (fun cdv A outer s H vs Q E hr h => ?_)
  obtain ⟨b, ms, us, rfl, hb, hus, hul, hlen, k⟩ := h
  refine ⟨_, (pss_cons (ps_set (i := 1) sc_law_bytes.nd rfl (Or.inl rfl) (pe_op op_cat (pv 0) (pe_op op_rep (pe_lst (pa_cons pe_int pa_nil)) (pe_op op_mod (pe_callTy call_int1 (by rfl) T.m_int PyProof.Rows.boot_int (pa_cons (pe_op op_sub pe_int (pe_callB (r := rLenS K) call_len_seq (by rfl) T.m_len PySem.boot_len (pa_cons (pv 0) pa_nil))) pa_nil)) pe_int))))
      (pss_cons (ps_set (i := 2) sc_law_bytes.nd rfl (Or.inl rfl) (pe_lst pa_nil))
      (pss_cons (ps_for PassesOwn.never rfl (pi_range1 (by rfl) T.m_range (pa_cons (pe_op op_fdiv (pe_callB (r := rLenS K) call_len_seq (by rfl) T.m_len PySem.boot_len (pa_cons (pv 1) pa_nil)) pe_int) pa_nil)) (pg_name (i := 3) sc_law_bytes.nd rfl (Or.inl rfl)) (pss_cons (ps_set (i := 4) sc_law_bytes.nd rfl (Or.inl rfl) pe_int)
        (pss_cons (ps_for PassesOwn.never rfl (pi_list (pe_slice (r := rSlL K) sl_list (pv 1) (po_some (pe_op op_mul pe_int (pv 3))) (po_some (pe_op op_add (pe_op op_mul pe_int (pv 3)) pe_int)))) (pg_name (i := 5) sc_law_bytes.nd rfl (Or.inl rfl)) (pss_one (ps_set (i := 4) sc_law_bytes.nd rfl (Or.inl rfl) (pe_op op_add (pe_op op_mul pe_int (pv 4)) (pv 5)))))
        (pss_one (ps_expr (pe_bm PySem.F.plainAttrs_list PySem.F.slot_list_append PySem.F.type_list_append mt_append (pv 2) (pa_cons (pv 4) pa_nil)))))))
      (pss_one (ps_ret (pv 2)))))), ?_⟩
  have hpl : padN ms.length ≤ 7 := by unfold padN; omega
  have hlen2 : 8 * us.length = ms.length + padN ms.length := by
    have := congrArg List.length hus
    rw [bits_flat_len, List.length_append, List.length_replicate] at this
    exact this
  refine q_asgL (xs := (bI (us.flatMap bits8)).map V.int) (EvL.is (el_cat (Ev.r (ev_var rfl) hb) (EvL.r (el_rep (k := (padN ms.length : Int)) (xs := [.int 0]) (EvL.r (el_lst (ea_cons ev_c ea_nil) (by decide))) (Ev.is (ev_I (ev_int1 (ev_I0 ev_c (ev_lenS (Ev.s (ev_var rfl) (sq_of hb))))) ev_c (by decide)) (congrArg V.int (by rw [List.length_map, bI_len]; unfold padN; omega))) (by omega) ?_)) ?_) ?_) fun p H1 hp e1 g1 => ?_
  · rw [Int.toNat_natCast]
    show 1 * _ ≤ _
    omega
  · rw [Int.toNat_natCast, rep_one, List.length_map, bI_len, List.length_replicate]
    omega
  · rw [Int.toNat_natCast, rep_one, hus, bI_append, bI_false, List.map_append, List.map_replicate]
  refine q_asgL (xs := []) (el_lst ea_nil (by decide)) fun r H2 hr2 e2 g2 => ?_
  have hr0 : H r = none := by cases h : H r with | none => rfl | some o => rw [e1 _ _ h] at hr2; cases hr2
  have hpr : p ≠ r := fresh_ne hr2 g1
  refine q_forR1 (n := (us.length : Int)) (ea_cons (Ev.is (ev_I (ev_lenS (Ev.s (ev_var rfl) (sq_of (e2 _ _ g1)))) ev_c ⟨by decide, by decide⟩) (congrArg V.int (by rw [List.length_map, bI_len, bits_flat_len]; omega))) ea_nil) (by omega) (fun i σ' H' => ∃ z3 z4 z5, σ' = [some (.ref b), some (.ref p), some (.ref r), z3, z4, z5] ∧ Ex H H' ∧ H' p = some (.lst ((bI (us.flatMap bits8)).map V.int)) ∧ H' r = some (.lst ((cs (us.take i)).map V.int)))
    (fun H3 e3 => ⟨none, none, none, rfl, (e1.trans e2).trans e3, e3 _ _ (e2 _ _ g1), e3 _ _ g2⟩) ?_ ?_
  · rintro i σ' H' hi ⟨z3, z4, z5, rfl, ex, h1, h2⟩
    have hi : i < us.length := by omega
    have hu : us[i]? = some (us.getD i 0) := by
      rw [List.getD_eq_getElem?_getD, List.getElem?_eq_getElem hi]
      rfl
    have hu256 : us.getD i 0 < 256 := hul _ (List.mem_of_getElem? hu)
    rw [show us.take (i + 1) = us.take i ++ [us.getD i 0] from by rw [List.take_add_one, hu]; rfl]
    have hch := chunk us i hi
    generalize us.getD i 0 = u at *
    walk_at "asg"
    intro H3 e3
    refine q_forS (xs := (bI (bits8 u)).map V.int) (EvR.s (EvL.r (EvL.is (el_mid (i := 8 * i) (j := 8 * i + 8) (ns := bI (us.flatMap bits8)) (Ev.s (ev_var rfl) (sq_of (e3 _ _ h1))) (Ev.is (ev_I ev_c (ev_var rfl) (.inl (by decide))) (congrArg V.int (by omega))) (Ev.is (ev_I0 (ev_I ev_c (ev_var rfl) (.inl (by decide))) ev_c) (congrArg V.int (by omega)))) ?_))) fun p3 H4 e4 hq => ?_
    · rw [show 8 * i + 8 - 8 * i = 8 by omega, ← hch]
      unfold bI
      rw [List.map_take (f := b2), List.map_drop (f := b2)]
    refine q_forLn (a := p3) ev_c hq (fun j σ' H' => ∃ z5, σ' = [some (.ref b), some (.ref p), some (.ref r), some (.int (i : Int)), some (.int ((valL ((bits8 u).take j) : Nat) : Int)), z5] ∧ Ex H4 H') (fun H7 e7 => ⟨z5, rfl, e7⟩) (fun i σ' H' _ h => by obtain ⟨_, _, e⟩ := h; exact ex_l e hq) ?_ ?_
    · rintro j x σ4 H7 hx ⟨z5, rfl, ex7⟩
      obtain ⟨n, hn, hj, rfl⟩ := int_at hx
      rw [bI_len] at hj
      have hbj : (bits8 u)[j]? = some ((bits8 u)[j]) := List.getElem?_eq_getElem hj
      rw [bI_at hbj] at hn
      have hn := Option.some.inj hn
      subst hn
      rw [show (bits8 u).take (j + 1) = (bits8 u).take j ++ [(bits8 u)[j]] from by rw [List.take_add_one, hbj]; rfl, valL_snoc]
      refine s_asg (Ev.is (ev_I0 (ev_I ev_c (ev_var rfl) (.inl (by decide))) (ev_var rfl)) (congrArg V.int (by rw [b2_nat, Int.natCast_add, Int.natCast_mul]; rfl))) fun H8 e8 => ⟨_, rfl, ex7.trans e8⟩
    · rintro σ4 H7 ⟨z5, rfl, ex7⟩
      rw [List.length_map, bI_len, List.take_length, valL_8 _ hu256]
      refine s_app (v := .int (u : Int)) (ex7 _ _ (e4 _ _ (e3 _ _ h2))) (ev_var rfl) (ev_var rfl) (by rw [List.length_map, cs_len, List.length_take]; omega) fun H8 e8 => ?_
      refine ⟨_, _, _, rfl, Ex.mut ((((ex.trans e3).trans e4).trans ex7).trans e8) hr0, ?_, ?_⟩
      · rw [upd_ne hpr]
        exact e8 _ _ (ex7 _ _ (e4 _ _ (e3 _ _ h1)))
      · rw [upd_same, cs_append, List.map_append]
        rfl
  · rintro σ' H' ⟨z3, z4, z5, rfl, ex, h1, h2⟩
    rw [Int.toNat_natCast, List.take_length] at h2
    walk_at "ret"
    intro H3 e3
    exact k r H3 hr0 (ex.trans e3) (e3 _ _ h2)
/-- seven numbers below 2 ^ 20 -/
structure Nums (ns : List Int) : Prop where
  len : ns.length = 7
  bd : ∀ n ∈ ns, 0 ≤ n ∧ n < 1048576
theorem Nums.get {ns : List Int} (h : Nums ns) {i : Nat} (hi : i < 7) : ns[i]? = some (ns.getD i 0) ∧ 0 ≤ ns.getD i 0 ∧ ns.getD i 0 < 1048576 := by
  have h1 := gl_get (ns := ns) (i := i) (by rw [h.len]; exact hi)
  exact ⟨h1, h.bd _ (List.mem_of_getElem? h1)⟩
theorem ev_num {σ : L2.St} {H : Hp} {tl ti : TE} {c : Addr} {ns : List Int} (hN : Nums ns) (i : Nat) (hi : i < 7) (h1 : Ev tl σ H (.ref c)) (h2 : H c = some (.lst (ns.map V.int))) (h3 : Ev ti σ H (.int (i : Int))) : Ev (tOp (rIxL K) tl ti) σ H (.int (ns.getD i 0)) := ev_at (Ev.s h1 (sq_of h2)) h3 (at_of rfl (at_int (hN.get hi).1))
def sp_value : Sp := fun vs H Q _ => ∃ (c : Addr) (ns : List Int) (wd : Nat), vs = [.ref c, .int (wd : Int)] ∧ H c = some (.lst (ns.map V.int)) ∧ Nums ns ∧ wd ≤ 64 ∧ ∀ (v : Nat) H', Ex H H' → v < 2 ^ wd → Q (.int (v : Int)) H'
theorem ok_law_value (T : TX K mg) : FnOk P w K mg base CX0 1 T.a_law_value T.d_law_value ["numbers", "width"] sp_value := by
  refine T.F_law_value.ok sc_law_value (fun vs H Q E h => by obtain ⟨c, ns, wd, rfl, _⟩ := h; rfl) (fun cdv A outer s H vs Q E hr h => ?_)
  obtain ⟨c, ns, wd, rfl, hc, hN, hw, k⟩ := h
  refine ⟨_, (pss_cons (ps_set (i := 2) sc_law_value.nd rfl (Or.inl rfl) (pe_op op_add (pe_op op_add (pe_op op_add (pe_ix (r := rIxL K) ix_list (pv 0) pe_int (fun _ _ => rfl)) (pe_op op_shl (pe_ix (r := rIxL K) ix_list (pv 0) pe_int (fun _ _ => rfl)) pe_int)) (pe_op op_shl (pe_ix (r := rIxL K) ix_list (pv 0) pe_int (fun _ _ => rfl)) pe_int)) (pe_op op_shl (pe_ix (r := rIxL K) ix_list (pv 0) pe_int (fun _ _ => rfl)) pe_int)))
      (pss_cons (ps_if (pt_cmpR op_eq (pe_op op_mod (pe_op op_fdiv (pe_ix (r := rIxL K) ix_list (pv 0) pe_int (fun _ _ => rfl)) pe_int) pe_int) pe_int (nomark _)) (pss_one (ps_set (i := 2) sc_law_value.nd rfl (Or.inl rfl) pe_int)) pss_nil)
      (pss_cons (ps_if (pt_cmpR op_eq (pe_op op_mod (pe_op op_fdiv (pe_ix (r := rIxL K) ix_list (pv 0) pe_int (fun _ _ => rfl)) pe_int) pe_int) pe_int (nomark _)) (pss_one (ps_set (i := 2) sc_law_value.nd rfl (Or.inl rfl) (pe_op op_sub (pe_op op_shl pe_int (pv 1)) pe_int))) pss_nil)
      (pss_one (ps_ret (pe_op op_mod (pe_callTy call_int1 (by rfl) T.m_int PyProof.Rows.boot_int (pa_cons (pv 2) pa_nil)) (pe_op op_shl pe_int (pv 1)))))))), ?_⟩
  have g : ∀ (i : Nat) (hi : i < 7) {σ : L2.St} {H1 : Hp} {tl ti : TE}, Ex H H1 → Ev tl σ H1 (.ref c) → Ev ti σ H1 (.int (i : Int)) → Ev (tOp (rIxL K) tl ti) σ H1 (.int (ns.getD i 0)) := fun i hi _ _ _ _ e h1 h3 => ev_num hN i hi h1 (e _ _ hc) h3
  have hs : ∀ (i : Nat) (_ : i < 7) (j : Int), 0 ≤ j → j ≤ 1000000 → CPow (ns.getD i 0) j := fun i hi j h0 h1 => by
    have := hN.get hi
    exact ⟨h0, h1, by omega⟩
  refine q_asg (ev_I0 (ev_I0 (ev_I0 (g 2 (by decide) (Ex.refl H) (ev_var rfl) ev_c) (ev_I (g 3 (by decide) (Ex.refl H) (ev_var rfl) ev_c) ev_c (hs 3 (by decide) _ (by decide) (by decide)))) (ev_I (g 4 (by decide) (Ex.refl H) (ev_var rfl) ev_c) ev_c (hs 4 (by decide) _ (by decide) (by decide)))) (ev_I (g 5 (by decide) (Ex.refl H) (ev_var rfl) ev_c) ev_c (hs 5 (by decide) _ (by decide) (by decide)))) fun H1 e1 => ?_
  generalize ns.getD 2 0 + ns.getD 3 0 * 2 ^ (20 : Int).toNat + ns.getD 4 0 * 2 ^ (40 : Int).toNat + ns.getD 5 0 * 2 ^ (60 : Int).toNat = v0
  generalize hv1 : (if decide (V.int (ns.getD 0 0 / 32 % 6) = V.int 0) = true then 0 else v0) = v1
  refine q_ifAsg (b := decide (V.int (ns.getD 0 0 / 32 % 6) = V.int 0)) (v := V.int v1) (et_test (ev_eq (ev_I (ev_I (g 0 (by decide) e1 (ev_var rfl) ev_c) ev_c ⟨by decide, by decide⟩) ev_c (by decide)) ev_c rfl)) (fun hb => Ev.is ev_c (by rw [← hv1, if_pos hb])) (fun hb => by rw [← hv1, if_neg (by rw [hb]; decide)]; rfl) fun H2 e2 => ?_
  generalize hv2 : (if decide (V.int (ns.getD 0 0 / 32 % 6) = V.int 1) = true then 1 * 2 ^ ((wd : Int)).toNat - 1 else v1) = v2
  have e12 := e1.trans e2
  refine q_ifAsg (b := decide (V.int (ns.getD 0 0 / 32 % 6) = V.int 1)) (v := V.int v2) (et_test (ev_eq (ev_I (ev_I (g 0 (by decide) e12 (ev_var rfl) ev_c) ev_c ⟨by decide, by decide⟩) ev_c (by decide)) ev_c rfl)) (fun hb => Ev.is (ev_I0 (ev_I ev_c (ev_var rfl) (show CPow 1 (wd : Int) from ⟨by omega, by omega, by decide⟩)) ev_c) (by rw [← hv2, if_pos hb])) (fun hb => by rw [← hv2, if_neg (by rw [hb]; decide)]; rfl) fun H3 e3 => ?_
  have hp2w : (1 : Int) * 2 ^ ((wd : Int)).toNat = ((2 ^ wd : Nat) : Int) := by
    rw [Int.toNat_natCast, Int.one_mul, Int.natCast_pow]
    rfl
  have hpos : 0 < 2 ^ wd := Nat.two_pow_pos _
  have h0 := Int.emod_nonneg v2 (show ((2 ^ wd : Nat) : Int) ≠ 0 by omega)
  have h1 := Int.emod_lt_of_pos v2 (show (0 : Int) < ((2 ^ wd : Nat) : Int) by omega)
  refine s_ret (v := .int ((v2 % ((2 ^ wd : Nat) : Int)).toNat : Nat)) (Ev.is (ev_I (ev_int1 (ev_var rfl)) (ev_I ev_c (ev_var rfl) (show CPow 1 (wd : Int) from ⟨by omega, by omega, by decide⟩)) (by rw [hp2w]; show (0 : Int) < _; omega)) (congrArg V.int (by rw [hp2w]; omega))) fun H4 e4 => k _ H4 ((e12.trans e3).trans e4) (by omega)
def sp_wz (m : Nat) : Sp := fun vs H Q _ => ∃ (c : Addr) (ns : List Int), vs = [.ref c] ∧ H c = some (.lst (ns.map V.int)) ∧ Nums ns ∧ ∀ (v : Nat) H', Ex H H' → v ≤ m → Q (.int (v : Int)) H'
theorem ok_law_width (T : TX K mg) : FnOk P w K mg base CX0 1 T.a_law_width T.d_law_width ["numbers"] (sp_wz 64) := by
  refine T.F_law_width.ok sc_law_width (fun vs H Q E h => by obtain ⟨c, ns, rfl, _⟩ := h; rfl) (fun cdv A outer s H vs Q E hr h => ?_)
  obtain ⟨c, ns, rfl, hc, hN, k⟩ := h
  refine ⟨_, (pss_cons (ps_if (pt_cmpR op_eq (pe_op op_mod (pe_op op_fdiv (pe_ix (r := rIxL K) ix_list (pv 0) pe_int (fun _ _ => rfl)) pe_int) pe_int) pe_int (nomark _)) (pss_one (ps_ret (pe_op op_mod (pe_ix (r := rIxL K) ix_list (pv 0) pe_int (fun _ _ => rfl)) pe_int))) pss_nil)
      (pss_one (ps_ret (pe_op op_mod (pe_ix (r := rIxL K) ix_list (pv 0) pe_int (fun _ _ => rfl)) pe_int)))), ?_⟩
  have g1 := (hN.get (i := 1) (by decide)).2
  refine q_when (et_test (ev_eq (ev_I (ev_I (ev_num hN 0 (by decide) (ev_var rfl) hc ev_c) ev_c ⟨by decide, by decide⟩) ev_c (by decide)) ev_c rfl)) (fun _ H1 e1 => ?_) (fun _ H1 e1 => ?_)
  · exact s_ret (v := .int ((ns.getD 1 0 % 65).toNat : Nat)) (Ev.is (ev_I (ev_num hN 1 (by decide) (ev_var rfl) (e1 _ _ hc) ev_c) ev_c (by decide)) (congrArg V.int (by omega))) fun H2 e2 => k _ H2 (e1.trans e2) (by omega)
  · exact s_ret (v := .int ((ns.getD 1 0 % 13).toNat : Nat)) (Ev.is (ev_I (ev_num hN 1 (by decide) (ev_var rfl) (e1 _ _ hc) ev_c) ev_c (by decide)) (congrArg V.int (by omega))) fun H2 e2 => k _ H2 (e1.trans e2) (by omega)
theorem ok_law_zeros (T : TX K mg) : FnOk P w K mg base CX0 1 T.a_law_zeros T.d_law_zeros ["numbers"] (sp_wz 199) := by
  refine T.F_law_zeros.ok sc_law_zeros (fun vs H Q E h => by obtain ⟨c, ns, rfl, _⟩ := h; rfl) (fun cdv A outer s H vs Q E hr h => ?_)
  obtain ⟨c, ns, rfl, hc, hN, k⟩ := h
  refine ⟨_, (pss_cons (ps_if (pt_cmpR op_eq (pe_op op_mod (pe_op op_fdiv (pe_ix (r := rIxL K) ix_list (pv 0) pe_int (fun _ _ => rfl)) pe_int) pe_int) pe_int (nomark _)) (pss_one (ps_ret (pe_op op_mod (pe_ix (r := rIxL K) ix_list (pv 0) pe_int (fun _ _ => rfl)) pe_int))) pss_nil)
      (pss_one (ps_ret (pe_op op_mod (pe_ix (r := rIxL K) ix_list (pv 0) pe_int (fun _ _ => rfl)) pe_int)))), ?_⟩
  have g1 := (hN.get (i := 1) (by decide)).2
  refine q_when (et_test (ev_eq (ev_I (ev_I (ev_num hN 0 (by decide) (ev_var rfl) hc ev_c) ev_c ⟨by decide, by decide⟩) ev_c (by decide)) ev_c rfl)) (fun _ H1 e1 => ?_) (fun _ H1 e1 => ?_)
  · exact s_ret (v := .int ((ns.getD 1 0 % 200).toNat : Nat)) (Ev.is (ev_I (ev_num hN 1 (by decide) (ev_var rfl) (e1 _ _ hc) ev_c) ev_c (by decide)) (congrArg V.int (by omega))) fun H2 e2 => k _ H2 (e1.trans e2) (by omega)
  · exact s_ret (v := .int ((ns.getD 1 0 % 12).toNat : Nat)) (Ev.is (ev_I (ev_num hN 1 (by decide) (ev_var rfl) (e1 _ _ hc) ev_c) ev_c (by decide)) (congrArg V.int (by omega))) fun H2 e2 => k _ H2 (e1.trans e2) (by omega)

theorem us_of {ws : List Nat} {hd n : Nat} {ms : List Bool} (hn : n < 8) (hh : hd < 2 ^ n) (hws : ∀ b ∈ ws, b < 256) (hbits : ws.flatMap bits8 ++ bitsN n hd = ms) : ∃ us : List Nat, us.flatMap bits8 = ms ++ List.replicate (padN ms.length) false ∧ ∀ u ∈ us, u < 256 := by
  have hml : ms.length = 8 * ws.length + n := by rw [← hbits, List.length_append, bits_flat_len, bitsN_len]
  by_cases h0 : n = 0
  · subst h0
    refine ⟨ws, ?_, hws⟩
    have : padN ms.length = 0 := by unfold padN; omega
    rw [this, ← hbits]
    show _ = _ ++ [] ++ []
    rw [List.append_nil, List.append_nil]
  · refine ⟨ws ++ [hd * 2 ^ (8 - n)], ?_, ?_⟩
    · have : padN ms.length = 8 - n := by unfold padN; omega
      rw [this, ← hbits, List.flatMap_append, List.flatMap_cons, List.flatMap_nil, List.append_nil, List.append_assoc, bits8_N]
      congr 1
      have h8 : 8 = n + (8 - n) := by omega
      conv => lhs; rw [h8]
      rw [show n + (8 - n) - n = 8 - n by omega]
      have h3 := bitsN_cat (n := n) (w := 8 - n) (h := hd) (v := 0) (Nat.two_pow_pos _)
      rw [Nat.add_zero, bitsN_zero] at h3
      exact h3
    · intro d hdm
      rcases List.mem_append.mp hdm with h | h
      · exact hws d h
      · cases List.mem_singleton.mp h
        have h3 : hd * 2 ^ (8 - n) < 2 ^ n * 2 ^ (8 - n) := Nat.mul_lt_mul_of_pos_right hh (Nat.two_pow_pos _)
        rw [← Nat.pow_add, show n + (8 - n) = 8 by omega] at h3
        exact h3
theorem us_one {us vs : List Nat} (hu : ∀ u ∈ us, u < 256) (hv : ∀ u ∈ vs, u < 256) (h : us.flatMap bits8 = vs.flatMap bits8) : us = vs := by
  have hl : us.length = vs.length := by
    have := congrArg List.length h
    rw [bits_flat_len, bits_flat_len] at this
    omega
  refine List.ext_getElem? fun k => ?_
  by_cases hk : k < us.length
  · have h1 : us[k]? = some (us.getD k 0) := by rw [List.getD_eq_getElem?_getD, List.getElem?_eq_getElem hk]; rfl
    have h2 : vs[k]? = some (vs.getD k 0) := by rw [List.getD_eq_getElem?_getD, List.getElem?_eq_getElem (by omega)]; rfl
    have c1 := chunk us k hk
    have c2 := chunk vs k (by omega)
    rw [h, c2] at c1
    have c3 := congrArg valL c1
    rw [valL_8 _ (hu _ (List.mem_of_getElem? h1)), valL_8 _ (hv _ (List.mem_of_getElem? h2))] at c3
    rw [h1, h2, c3]
  · rw [List.getElem?_eq_none (by omega), List.getElem?_eq_none (by omega)]
theorem er_list {σ : L2.St} {H : Hp} {to : TE} {E : XK} {C a L : Addr} {ms : List Bool} {us : List Nat} (h : Ev to σ H (.ref a)) (hW : WrAt C H a L ms) (hl : ms.length ≤ 300000) (hus : us.flatMap bits8 = ms ++ List.replicate (padN ms.length) false) (hu : ∀ u ∈ us, u < 256) : EvL (tMeth C "byte_list" (sp_wlist C) [] E to tNil) σ H ((cs us).map V.int) := fun H1 e Q q => by
  obtain ⟨dx, ws, hd, n, ha, _⟩ := hW.len
  refine h H1 e _ fun H2 e2 => ⟨a, dx, _, rfl, (e.trans e2) _ _ ha, rfl, a, L, ms, rfl, hW.ex (e.trans e2), hl, fun p vs H3 hp e3 g3 hv1 hv2 => ?_⟩
  have := us_one hu hv2 (hus.trans hv1.symm)
  subst this
  exact q p H3 (by cases h : H1 p with | none => rfl | some o => rw [e2 _ _ h] at hp; cases hp) (e2.trans e3) g3
theorem el_bytes {σ : L2.St} {H : Hp} {te : TE} {E : XK} {b : Addr} {ms : List Bool} {us : List Nat} (h : Ev te σ H (.ref b)) (hb : H b = some (.lst ((bI ms).map V.int))) (hl : ms.length ≤ 50000) (hus : us.flatMap bits8 = ms ++ List.replicate (padN ms.length) false) (hu : ∀ u ∈ us, u < 256) : EvL (tCall sp_bytes [] E (tCons te tNil)) σ H ((cs us).map V.int) :=
  el_call (ea_cons h ea_nil) fun H1 e Q q _ => ⟨b, ms, us, rfl, e _ _ hb, hus, hu, hl, q⟩
theorem ev_same {σ : L2.St} {H : Hp} {t1 t2 : TE} {E : XK} {ns : List Int} (h1 : EvR t1 σ H (ns.map V.int)) (h2 : EvR t2 σ H (ns.map V.int)) (hl : ns.length ≤ 100000) : Ev (tCall sp_same [] E (tCons t1 (tCons t2 tNil))) σ H (.bl true) := fun H1 e Q q =>
  h1 H1 e _ fun p H2 e2 g2 => h2 H2 (e.trans e2) _ fun r H3 e3 g3 => ⟨p, r, ns, rfl, e3 _ _ g2, g3, hl, fun H4 e4 => q H4 ((e2.trans e3).trans e4)⟩
/-- _law_right -/
def sp_right (C : Addr) : Sp := fun vs H Q _ => ∃ (a L b : Addr) (ms : List Bool), vs = [.ref a, .ref b] ∧ WrAt C H a L ms ∧ H b = some (.lst ((bI ms).map V.int)) ∧ ms.length ≤ 50000 ∧ RetV (.bl true) H Q
theorem ok_law_right (T : TX K mg) : FnOk P w K mg base CX0 3 T.a_law_right T.d_law_right ["writer", "bits"] (sp_right T.C_BitWriter) := by
  refine T.F_law_right.ok sc_law_right (fun vs H Q E h => by obtain ⟨a, L, b, ms, rfl, _⟩ := h; rfl) (fun cdv A outer s H vs Q E hr h => ?_)
  obtain ⟨a, L, b, ms, rfl, hW, hb, hlen, k⟩ := h
  obtain ⟨dx, ws, hd, n, ha, hl, hn, hh, hws, hbits, hml⟩ := hW.len
  obtain ⟨us, hus, hu⟩ := us_of hn hh hws hbits
  refine ⟨_, (pss_cons (ps_set (i := 2) sc_law_right.nd rfl (Or.inl rfl) (pe_meth0 (pv 0) T.cl_BitWriter T.me_BitWriter_bits_written (ok_BitWriter_bits_written T) (hr.mono (by decide)) T.b_BitWriter_bits_written .nil pass0))
      (pss_one (ps_ret (pe_and (pe_call (ok_law_is_integer T) (hr.mono (by decide)) (by rfl) T.g_law_is_integer T.F_law_is_integer.kp T.b_law_is_integer .nil pass0 (pa_cons (pv 2) pa_nil)) (pe_and (pe_cmpR op_eq (pv 2) (pe_callB (r := rLenS K) call_len_seq (by rfl) T.m_len PySem.boot_len (pa_cons (pv 1) pa_nil)) (nomark _)) (pe_one (pe_call (ok_law_same T) (hr.mono (by decide)) (by rfl) T.g_law_same T.F_law_same.kp T.b_law_same .nil pass0 (pa_cons (pe_meth0 (pv 0) T.cl_BitWriter T.me_BitWriter_byte_list (ok_BitWriter_byte_list T) (hr.mono (by decide)) T.b_BitWriter_byte_list .nil pass0) (pa_cons (pe_call (ok_law_bytes T) (hr.mono (by decide)) (by rfl) T.g_law_bytes T.F_law_bytes.kp T.b_law_bytes .nil pass0 (pa_cons (pv 1) pa_nil)) pa_nil))))))))), ?_⟩
  refine q_asg (ev_mth (v := .int (ms.length : Int)) (ev_var rfl) ha rfl ea_nil fun H1 e Q q _ => ⟨a, L, ms, rfl, hW.ex e, q⟩) fun H1 e1 => ?_
  refine s_ret (v := .bl (true && (decide (V.int (ms.length : Int) = V.int (ms.length : Int)) && true))) (ev_andV (ev_isint (ev_var rfl)) fun _ => ev_andV (ev_eq (ev_var rfl) (Ev.is (ev_lenS (Ev.s (ev_var rfl) (sq_of (e1 _ _ hb)))) (by rw [List.length_map, bI_len])) rfl) fun _ => ev_same (EvL.r (er_list (ev_var rfl) (hW.ex e1) (by omega) hus hu)) (EvL.r (el_bytes (ev_var rfl) (e1 _ _ hb) hlen hus hu)) ?_) fun H2 e2 => ?_
  · have := congrArg List.length hus
    rw [bits_flat_len, List.length_append, List.length_replicate] at this
    rw [cs_len]
    unfold padN at this
    omega
  · rw [decide_eq_true rfl]
    exact k H2 (e1.trans e2)
theorem ev_right {σ : L2.St} {H : Hp} {t1 t2 : TE} {E : XK} {C a L b : Addr} {ms : List Bool} (h1 : Ev t1 σ H (.ref a)) (h2 : Ev t2 σ H (.ref b)) (hW : WrAt C H a L ms) (hb : H b = some (.lst ((bI ms).map V.int))) (hl : ms.length ≤ 50000) : Ev (tCall (sp_right C) [] E (tCons t1 (tCons t2 tNil))) σ H (.bl true) :=
  ev_call (ea_cons h1 (ea_cons h2 ea_nil)) fun H1 e Q q _ => ⟨a, L, b, ms, rfl, hW.ex e, e _ _ hb, hl, q⟩
theorem WrAt.back {C a L : Addr} {H H1 : Hp} {ms ms1 : List Bool} (h : WrAt C H a L ms) (h1 : WrAt C H1 a L ms1) (hF : Fr a L H H1) {q : Addr} (hq : H1 q = none) : H q = none := by
  cases hc : H q with
  | none => rfl
  | some o =>
    obtain ⟨dx, ws, hd, n, ha, hl, _⟩ := h1
    by_cases e1 : q = a
    · rw [e1, ha] at hq
      cases hq
    · by_cases e2 : q = L
      · rw [e2, hl] at hq
        cases hq
      · rw [hF q o e1 e2 hc] at hq
        cases hq
theorem WrAt.fr {C a L a2 L2' : Addr} {H H1 : Hp} {ms : List Bool} (h : WrAt C H a L ms) (hF : Fr a2 L2' H H1) (n1 : a ≠ a2) (n2 : a ≠ L2') (n3 : L ≠ a2) (n4 : L ≠ L2') : WrAt C H1 a L ms := by
  obtain ⟨dx, ws, hd, n, h1, h2, h3⟩ := h
  exact ⟨dx, ws, hd, n, hF _ _ n1 n2 h1, hF _ _ n3 n4 h2, h3⟩
theorem s_retPair {σ : L2.St} {H : Hp} {D : Ends} {t1 t2 : TE} {x : V} {xs : List V} (h1 : Ev t1 σ H x) (h2 : EvL t2 σ H xs) (k : ∀ q t H1, H q = none → Ex H H1 → H1 q = some (.lst xs) → H1 t = some (.tup [x, .ref q]) → D.rt (.ref t) H1) : tRet (tTup (tCons t1 (tCons t2 tNil))) D σ H :=
  h1 H (Ex.refl H) _ fun H1 e1 => h2 H1 e1 _ fun q H2 hq e2 g2 => ⟨sz_of (Nat.le_of_ble_eq_true rfl), fun p hp => k q p _ (by cases h : H q with | none => rfl | some o => rw [e1 _ _ h] at hq; cases hq) ((e1.trans e2).trans (Ex.new hp)) (Ex.new hp _ _ g2) upd_same⟩
theorem q_asgML {σ : L2.St} {H : Hp} {D : Ends} {tz : TS} {to te : TE} {a C dx : Addr} {fs : List (Str × V)} {m : Str} {sp : Sp} {dvs xs : List V} {E : XK} {i : Nat} (h : Ev to σ H (.ref a)) (hx : H a = some (.ins C dx fs)) (hm : fs.lookup m = none) (he : EvL te σ H xs)
    (k : ∀ p H1, H p = none → Ex H H1 → H1 p = some (.lst xs) → sp (.ref a :: ([.ref p] ++ dvs)) H1 (fun x H2 => tz D (σ.set i (some x)) H2) E) : tSeq (tAsg (tMeth C m sp dvs E to (tCons te tNil)) (gName i)) tz D σ H :=
  h H (Ex.refl H) _ fun H1 e1 => ⟨a, dx, fs, rfl, e1 _ _ hx, hm, he H1 e1 _ fun p H2 hp e2 g2 => k p H2 (by cases h : H p with | none => rfl | some o => rw [e1 _ _ h] at hp; cases hp) (e1.trans e2) g2⟩
theorem self_mod {v w : Nat} (h : v < 2 ^ w) : ((v : Int) % 2 ^ w).toNat = v := by
  rw [pow_cast, show ((v : Int) % ((2 ^ w : Nat) : Int)) = ((v % 2 ^ w : Nat) : Int) from (Int.natCast_emod _ _).symm, Int.toNat_natCast, Nat.mod_eq_of_lt h]
/-- _law_step -/
def sp_step (K : PySem.W.Frag) (C : Addr) : Sp := fun vs H Q _ => ∃ (a L b c : Addr) (ms : List Bool) (ns : List Int), vs = [.ref a, .ref b, .ref c] ∧ WrAt C H a L ms ∧ H b = some (.lst ((bI ms).map V.int)) ∧ b ≠ L ∧ H c = some (.lst (ns.map V.int)) ∧ c ≠ L ∧ Nums ns ∧ ms.length ≤ 30000 ∧
  ∀ t q ms' H', Fr a L H H' → WrAt C H' a L ms' → H' q = some (.lst ((bI ms').map V.int)) → (q = b ∨ H q = none) → q ≠ L → SqT K H' t [.non, .ref q] → ms'.length ≤ ms.length + 300 → Q (.ref t) H'
theorem ok_law_step (T : TX K mg) : FnOk P w K mg base CX0 3 T.a_law_step T.d_law_step ["writer", "bits", "numbers"] (sp_step K T.C_BitWriter) := by
  refine T.F_law_step.ok sc_law_step (fun vs H Q E h => by obtain ⟨a, L, b, c, ms, ns, rfl, _⟩ := h; rfl) (fun cdv A outer s H vs Q E hr h => ?_)
  obtain ⟨a, L, b, c, ms, ns, rfl, hW, hb, hbL, hc, hcL, hN, hlen, k⟩ := h
  have hba : b ≠ a := by
    intro e
    obtain ⟨dx, ws, hd, n, ha, _⟩ := hW.len
    rw [e, ha] at hb
    cases hb
  refine ⟨_, (pss_cons (ps_set (i := 3) sc_law_step.nd rfl (Or.inl rfl) (pe_op op_mod (pe_ix (r := rIxL K) ix_list (pv 2) pe_int (fun _ _ => rfl)) pe_int))
      (pss_cons (ps_set (i := 4) sc_law_step.nd rfl (Or.inl rfl) (pe_call (ok_law_width T) (hr.mono (by decide)) (by rfl) T.g_law_width T.F_law_width.kp T.b_law_width .nil pass0 (pa_cons (pv 2) pa_nil)))
      (pss_cons (ps_set (i := 5) sc_law_step.nd rfl (Or.inl rfl) (pe_call (ok_law_value T) (hr.mono (by decide)) (by rfl) T.g_law_value T.F_law_value.kp T.b_law_value .nil pass0 (pa_cons (pv 2) (pa_cons (pv 4) pa_nil))))
      (pss_cons (ps_if (pt_cmpR op_lt (pv 3) pe_int (nomark _)) (pss_cons (ps_set (i := 6) sc_law_step.nd rfl (Or.inl rfl) (pe_meth (pv 0) T.cl_BitWriter T.me_BitWriter_write (ok_BitWriter_write T) (hr.mono (by decide)) T.b_BitWriter_write .nil pass0 (pa_cons (pv 4) (pa_cons (pv 5) pa_nil))))
        (pss_one (ps_ret (pe_tup (pa_cons (pv 6) (pa_cons (pe_op op_cat (pv 1) (pe_call (ok_law_bits T) (hr.mono (by decide)) (by rfl) T.g_law_bits T.F_law_bits.kp T.b_law_bits .nil pass0 (pa_cons (pv 4) (pa_cons (pv 5) pa_nil)))) pa_nil)))))) pss_nil)
      (pss_cons (ps_if (pt_cmpR op_eq (pv 3) pe_int (nomark _)) (pss_cons (ps_set (i := 4) sc_law_step.nd rfl (Or.inl rfl) (pe_callB (call_max2 rfl) (by rfl) T.m_max PyProof.Rows.boot_max (pa_cons pe_int (pa_cons (pv 4) pa_nil))))
        (pss_cons (ps_set (i := 5) sc_law_step.nd rfl (Or.inl rfl) (pe_call (ok_law_value T) (hr.mono (by decide)) (by rfl) T.g_law_value T.F_law_value.kp T.b_law_value .nil pass0 (pa_cons (pv 2) (pa_cons (pv 4) pa_nil))))
        (pss_cons (ps_set (i := 6) sc_law_step.nd rfl (Or.inl rfl) (pe_meth (pv 0) T.cl_BitWriter T.me_BitWriter_write_signed (ok_BitWriter_write_signed T) (hr.mono (by decide)) T.b_BitWriter_write_signed .nil pass0 (pa_cons (pv 4) (pa_cons (pe_op op_sub (pv 5) (pe_op op_shl (pe_op op_shr (pv 5) (pe_op op_sub (pv 4) pe_int)) (pv 4))) pa_nil))))
        (pss_one (ps_ret (pe_tup (pa_cons (pv 6) (pa_cons (pe_op op_cat (pv 1) (pe_call (ok_law_bits T) (hr.mono (by decide)) (by rfl) T.g_law_bits T.F_law_bits.kp T.b_law_bits .nil pass0 (pa_cons (pv 4) (pa_cons (pv 5) pa_nil)))) pa_nil)))))))) pss_nil)
      (pss_cons (ps_if (pt_cmpR op_eq (pv 3) pe_int (nomark _)) (pss_cons (ps_set (i := 7) sc_law_step.nd rfl (Or.inl rfl) (pe_call (ok_law_zeros T) (hr.mono (by decide)) (by rfl) T.g_law_zeros T.F_law_zeros.kp T.b_law_zeros .nil pass0 (pa_cons (pv 2) pa_nil)))
        (pss_cons (ps_set (i := 6) sc_law_step.nd rfl (Or.inl rfl) (pe_meth (pv 0) T.cl_BitWriter T.me_BitWriter_write_unary (ok_BitWriter_write_unary T) (hr.mono (by decide)) T.b_BitWriter_write_unary .nil pass0 (pa_cons (pv 7) pa_nil)))
        (pss_one (ps_ret (pe_tup (pa_cons (pv 6) (pa_cons (pe_op op_cat (pe_op op_cat (pv 1) (pe_op op_rep (pe_lst (pa_cons pe_int pa_nil)) (pv 7))) (pe_lst (pa_cons pe_int pa_nil))) pa_nil))))))) pss_nil)
      (pss_cons (ps_if (pt_cmpR op_eq (pv 3) pe_int (nomark _)) (pss_cons (ps_set (i := 6) sc_law_step.nd rfl (Or.inl rfl) (pe_meth0 (pv 0) T.cl_BitWriter T.me_BitWriter_pad (ok_BitWriter_pad T) (hr.mono (by decide)) T.b_BitWriter_pad .nil pass0))
        (pss_one (ps_ret (pe_tup (pa_cons (pv 6) (pa_cons (pe_op op_cat (pv 1) (pe_op op_rep (pe_lst (pa_cons pe_int pa_nil)) (pe_op op_mod (pe_callTy call_int1 (by rfl) T.m_int PyProof.Rows.boot_int (pa_cons (pe_op op_sub pe_int (pe_callB (r := rLenS K) call_len_seq (by rfl) T.m_len PySem.boot_len (pa_cons (pv 1) pa_nil))) pa_nil)) pe_int))) pa_nil)))))) pss_nil)
      (pss_cons (ps_setLc (i := 8) (own := [("k", 10)]) (g := gName 10) (tt := tYes) rfl sc_law_step.nd rfl rfl (sw_true rfl rfl rfl (by decide +kernel)) (pi_range1 (by rfl) T.m_range (pa_cons (pe_op op_mod (pe_ix (r := rIxL K) ix_list (pv 2) pe_int (fun _ _ => rfl)) pe_int) pa_nil)) (blkOk_by (N := ["writer", "bits", "numbers", "kind", "width", "value", "told", "zeros", "data", "byte", "k"]) (sc := defScope s_law_step) (by decide +kernel)) (fun _ _ _ _ _ => pg_name (i := 10) sc_law_step.nd rfl (Or.inl rfl)) (fun _ _ _ _ _ => pts_nil) (fun _ _ _ _ _ => (pe_op op_mod (pe_ix (r := rIxL K) ix_list (pv 2) (pe_op op_add pe_int (pv 10)) (fun _ _ => rfl)) pe_int)))
      (pss_cons (ps_set (i := 6) sc_law_step.nd rfl (Or.inl rfl) (pe_meth (pv 0) T.cl_BitWriter T.me_BitWriter_append_bytes (ok_BitWriter_append_bytes T) (hr.mono (by decide)) T.b_BitWriter_append_bytes .nil pass0 (pa_cons (pe_callTy (r := rListS K) call_list_of (by rfl) T.m_list PyProof.Rows.boot_list (pa_cons (pv 8) pa_nil)) pa_nil)))
      (pss_cons (ps_for PassesOwn.never rfl (pi_list (pv 8)) (pg_name (i := 9) sc_law_step.nd rfl (Or.inl rfl)) (pss_one (ps_set (i := 1) sc_law_step.nd rfl (Or.inl rfl) (pe_op op_cat (pv 1) (pe_call (ok_law_bits T) (hr.mono (by decide)) (by rfl) T.g_law_bits T.F_law_bits.kp T.b_law_bits .nil pass0 (pa_cons pe_int (pa_cons (pv 9) pa_nil)))))))
      (pss_one (ps_ret (pe_tup (pa_cons (pv 6) (pa_cons (pv 1) pa_nil))))))))))))))), ?_⟩
  refine q_asg (ev_I (ev_num hN 0 (by decide) (ev_var rfl) hc ev_c) ev_c (by decide)) fun H1 e1 => ?_
  refine q_asgC (vs := [.ref c]) (ea_cons (ev_var rfl) ea_nil) fun H2 e2 => ⟨c, ns, rfl, e2 _ _ (e1 _ _ hc), hN, fun wd H3 e3 hwd => ?_⟩
  refine q_asgC (vs := [.ref c, .int (wd : Int)]) (ea_cons (ev_var rfl) (ea_cons (ev_var rfl) ea_nil)) fun H4 e4 => ⟨c, ns, wd, rfl, ((e1.trans e2).trans (e3.trans e4)) _ _ hc, hN, hwd, fun v H5 e5 hv => ?_⟩
  have ex5 := ((e1.trans e2).trans (e3.trans e4)).trans e5
  clear e1 e2 e3 e4 e5 H1 H2 H3 H4
  generalize ns.getD 0 0 % 8 = kd
  -- the end of each way
  have fin : ∀ {H6 : Hp} {ms' : List Bool} {x : List Bool} {σ : L2.St} {t1 t2 : TE} {D : Ends}, D.rt = Q → Fr a L H H6 → WrAt T.C_BitWriter H6 a L (ms ++ x) → x.length ≤ 300 → Ev t1 σ H6 .non → EvL t2 σ H6 ((bI (ms ++ x)).map V.int) → tRet (tTup (tCons t1 (tCons t2 tNil))) D σ H6 := fun hD hF hW6 hx h1 h2 => s_retPair h1 h2 fun q t H7 hq e7 g7 ht => by
    rw [hD]
    obtain ⟨dx, ws, hd, n, ha, hl, _⟩ := hW6.len
    exact k t q _ H7 (hF.trans (Fr.ex e7)) (hW6.ex e7) g7 (.inr (hW.back hW6 hF hq)) (fresh_ne hq hl).symm (st_of ht) (by rw [List.length_append]; omega)
  have bcat : ∀ {H6 : Hp} {x : List Bool} {σ : L2.St} {t1 t2 : TE}, Fr a L H H6 → Ev t1 σ H6 (.ref b) → EvL t2 σ H6 ((bI x).map V.int) → x.length ≤ 1000 → EvL (tOp rCat t1 t2) σ H6 ((bI (ms ++ x)).map V.int) := fun hF h1 h2 hx => EvL.is (el_cat (Ev.r h1 (hF _ _ hba hbL hb)) (EvL.r h2) (by rw [List.length_map, List.length_map, bI_len, bI_len]; omega)) (by rw [bI_append, List.map_append])
  refine q_when (et_test (ev_I0 (ev_var rfl) ev_c)) (fun _ H6 e6 => ?_) (fun _ H6 e6 => ?_)
  · have hW6 := hW.ex (ex5.trans e6)
    obtain ⟨dx, ws, hd, n, ha, _⟩ := hW6.len
    refine q_asgM (vs := [.int (wd : Int), .int (v : Int)]) (ev_var rfl) ha rfl (ea_cons (ev_var rfl) (ea_cons (ev_var rfl) ea_nil)) fun H7 e7 => ⟨a, L, ms, wd, v, rfl, hW6.ex e7, by omega, by omega, fun H8 hF8 hW8 => ?_⟩
    rw [self_mod hv] at hW8
    have hF := (Fr.ex ((ex5.trans e6).trans e7)).trans hF8
    exact fin (ms' := ms) rfl hF hW8 (by rw [bitsN_len]; omega) (ev_var rfl) (bcat hF (ev_var rfl) (el_bits (by omega) (ev_var rfl) (ev_var rfl)) (by rw [bitsN_len]; omega))
  refine q_when (et_test (ev_eq (ev_var rfl) ev_c rfl)) (fun _ H7 e7 => ?_) (fun _ H7 e7 => ?_)
  · refine q_asg (v := .int ((max 1 wd : Nat) : Int)) (Ev.is (ev_max2 ev_c (ev_var rfl)) (congrArg V.int (by split <;> omega))) fun H8 e8 => ?_
    have hw1 : 1 ≤ max 1 wd := by omega
    have hw2 : max 1 wd ≤ 64 := by omega
    generalize max 1 wd = wd2 at *
    refine q_asgC (vs := [.ref c, .int (wd2 : Int)]) (ea_cons (ev_var rfl) (ea_cons (ev_var rfl) ea_nil)) fun H9 e9 => ⟨c, ns, wd2, rfl, (ex5.trans (e6.trans (e7.trans (e8.trans e9)))) _ _ hc, hN, hw2, fun v2 H10 e10 hv2 => ?_⟩
    have ex10 := (ex5.trans (e6.trans (e7.trans (e8.trans e9)))).trans e10
    have hW10 := hW.ex ex10
    obtain ⟨dx, ws, hd, n, ha, _⟩ := hW10.len
    have hq2 : v2 / 2 ^ (wd2 - 1) < 2 := by
      rw [show wd2 = (wd2 - 1) + 1 by omega, Nat.pow_succ] at hv2
      exact Nat.div_lt_of_lt_mul hv2
    refine q_asgM (vs := [.int (wd2 : Int), .int ((v2 : Int) - ((v2 / 2 ^ (wd2 - 1) : Nat) : Int) * 2 ^ wd2)]) (ev_var rfl) ha rfl (ea_cons (ev_var rfl) (ea_cons (ev_I0 (ev_var rfl) (ev_I (Ev.is (ev_I (j := ((wd2 - 1 : Nat) : Int)) (ev_var rfl) (Ev.is (ev_I0 (ev_var rfl) ev_c) (congrArg V.int (by omega))) (by show (0 : Int) ≤ _; omega)) (congrArg V.int (by rw [Int.toNat_natCast, pow_cast, Int.natCast_ediv]))) (ev_var rfl) (show CPow ((v2 / 2 ^ (wd2 - 1) : Nat) : Int) (wd2 : Int) from ⟨by omega, by omega, by rw [Int.natAbs_natCast]; omega⟩))) ea_nil)) fun H11 e11 => ⟨a, L, ms, wd2, _, rfl, hW10.ex e11, by omega, by omega, fun H12 hF12 hW12 => ?_⟩
    rw [Int.sub_mul_emod_self_right, self_mod hv2] at hW12
    have hF := (Fr.ex (ex10.trans e11)).trans hF12
    exact fin (ms' := ms) rfl hF hW12 (by rw [bitsN_len]; omega) (ev_var rfl) (bcat hF (ev_var rfl) (el_bits (by omega) (ev_var rfl) (ev_var rfl)) (by rw [bitsN_len]; omega))
  refine q_when (et_test (ev_eq (ev_var rfl) ev_c rfl)) (fun _ H8 e8 => ?_) (fun _ H8 e8 => ?_)
  · have ex8 := ex5.trans (e6.trans (e7.trans e8))
    refine q_asgC (vs := [.ref c]) (ea_cons (ev_var rfl) ea_nil) fun H9 e9 => ⟨c, ns, rfl, (ex8.trans e9) _ _ hc, hN, fun z H10 e10 hz => ?_⟩
    have hW10 := hW.ex (ex8.trans (e9.trans e10))
    obtain ⟨dx, ws, hd, n, ha, _⟩ := hW10.len
    refine q_asgM (vs := [.int (z : Int)]) (ev_var rfl) ha rfl (ea_cons (ev_var rfl) ea_nil) fun H11 e11 => ⟨a, L, ms, z, rfl, hW10.ex e11, by omega, fun H12 hF12 hW12 => ?_⟩
    have hF := (Fr.ex ((ex8.trans (e9.trans e10)).trans e11)).trans hF12
    refine fin (ms' := ms) rfl hF hW12 (by rw [List.length_append, List.length_replicate]; show _ + 1 ≤ _; omega) (ev_var rfl) ?_
    rw [← List.append_assoc]
    refine EvL.is (el_cat (EvL.r (bcat (x := List.replicate z false) hF (ev_var rfl) (EvL.is (el_rep (k := (z : Int)) (xs := [.int 0]) (EvL.r (el_lst (ea_cons ev_c ea_nil) (by decide))) (ev_var rfl) (by omega) (by rw [Int.toNat_natCast]; show 1 * _ ≤ _; omega)) (by rw [Int.toNat_natCast, rep_one, bI_false, List.map_replicate])) (by rw [List.length_replicate]; omega))) (EvL.r (el_lst (vs := [.int 1]) (ea_cons ev_c ea_nil) (by decide))) (by rw [List.length_map, bI_len, List.length_append, List.length_replicate]; show _ + 1 ≤ _; omega)) ?_
    rw [bI_append (ms ++ _), List.map_append]
    rfl
  refine q_when (et_test (ev_eq (ev_var rfl) ev_c rfl)) (fun _ H9 e9 => ?_) (fun _ H9 e9 => ?_)
  · have ex9 := ex5.trans (e6.trans (e7.trans (e8.trans e9)))
    have hW10 := hW.ex ex9
    obtain ⟨dx, ws, hd, n, ha, _⟩ := hW10.len
    have hpl : padN ms.length ≤ 7 := by unfold padN; omega
    refine q_asgM (vs := []) (ev_var rfl) ha rfl ea_nil fun H11 e11 => ⟨a, L, ms, rfl, hW10.ex e11, by omega, fun H12 hF12 hW12 => ?_⟩
    have hF := (Fr.ex (ex9.trans e11)).trans hF12
    refine fin (ms' := ms) rfl hF hW12 (by rw [List.length_replicate]; omega) (ev_var rfl) (bcat (x := List.replicate (padN ms.length) false) hF (ev_var rfl) (EvL.is (el_rep (k := (padN ms.length : Int)) (xs := [.int 0]) (EvL.r (el_lst (ea_cons ev_c ea_nil) (by decide))) (Ev.is (ev_I (ev_int1 (ev_I0 ev_c (ev_lenS (Ev.s (ev_var rfl) (sq_of (hF _ _ hba hbL hb)))))) ev_c (by decide)) (congrArg V.int (by rw [List.length_map, bI_len]; unfold padN; omega))) (by omega) (by rw [Int.toNat_natCast]; show 1 * _ ≤ _; omega)) (by rw [Int.toNat_natCast, rep_one, bI_false, List.map_replicate])) (by rw [List.length_replicate]; omega))
  have ex9 := ex5.trans (e6.trans (e7.trans (e8.trans e9)))
  have hc9 := ex9 _ _ hc
  have g1 := (hN.get (i := 1) (by decide)).2
  generalize hds : ((List.range (ns.getD 1 0 % 4).toNat).map fun k => (ns.getD (2 + k) 0 % 256).toNat) = ds
  have hdl : ds.length = (ns.getD 1 0 % 4).toNat := by rw [← hds, List.length_map, List.length_range]
  have hd256 : ∀ d ∈ ds, d < 256 := fun d hd => by
    rw [← hds] at hd
    obtain ⟨j, _, rfl⟩ := List.mem_map.mp hd
    omega
  refine q_asgL (xs := (cs ds).map V.int) (el_lcR (n := ns.getD 1 0 % 4) _ (ea_cons (ev_I (ev_num hN 1 (by decide) (ev_var rfl) hc9 ev_c) ev_c (by decide)) ea_nil) (by omega) (by rw [List.length_map, cs_len, hdl]) (by rw [List.length_map, cs_len, hdl]; omega) (fun _ => rfl) fun i H10 e10 hi => ?_) fun p H10 hp e10 g10 => ?_
  · rw [List.length_map, cs_len, hdl] at hi
    have hg := hN.get (i := 2 + i) (by omega)
    refine ⟨_, at_int (cs_at (d := (ns.getD (2 + i) 0 % 256).toNat) ?_), Ev.is (ev_I (ev_num hN (2 + i) (by omega) (ev_var rfl) (e10 _ _ hc9) (Ev.is (ev_I0 ev_c (ev_var rfl)) (congrArg V.int (by omega)))) ev_c (by decide)) (congrArg V.int (by omega))⟩
    rw [← hds, List.getElem?_map, List.getElem?_range hi]
    rfl
  have hW10 := hW.ex (ex9.trans e10)
  obtain ⟨dx, ws, hd, n, ha, hlL, _⟩ := hW10.len
  refine q_asgML (xs := (cs ds).map V.int) (ev_var rfl) ha rfl (el_of (Ev.s (ev_var rfl) (sq_of g10))) fun p2 H11 hp2 e11 g11 => ⟨a, L, p2, ms, ds, rfl, hW10.ex e11, g11, (fresh_ne hp2 hlL).symm, hd256, by omega, fun H12 hF12 hW12 => ?_⟩
  have ex11 := (ex9.trans e10).trans e11
  have hF := (Fr.ex ex11).trans hF12
  obtain ⟨dx', ws', hd', n', ha', hl', _⟩ := hW.len
  have hpL : p ≠ L := (fresh_ne hp (ex9 _ _ hl')).symm
  have hpa : p ≠ a := (fresh_ne hp (ex9 _ _ ha')).symm
  have g12 := hF12 _ _ hpa hpL (e11 _ _ g10)
  refine q_forLn (K := K) (xs := (cs ds).map V.int) (a := p) (ev_var rfl) (sq_of g12) (fun i σ' H' => ∃ (q : Addr) (z9 : Option V), σ' = [some (.ref a), some (.ref q), some (.ref c), some (.int kd), some (.int (wd : Int)), some (.int (v : Int)), some .non, none, some (.ref p), z9, none] ∧ Ex H12 H' ∧ H' q = some (.lst ((bI (ms ++ (ds.take i).flatMap bits8)).map V.int)) ∧ (q = b ∨ H12 q = none))
    (fun H13 e13 => ⟨b, none, rfl, e13, by show H13 b = some (.lst ((bI (ms ++ [])).map V.int)); rw [List.append_nil]; exact e13 _ _ (hF _ _ hba hbL hb), .inl rfl⟩) (fun i σ' H' _ h => by obtain ⟨_, _, _, e, _⟩ := h; exact sq_of (e _ _ g12)) ?_ ?_
  · rintro i x σ' H13 hx ⟨q, z9, rfl, e13, gq, hq⟩
    obtain ⟨n2, hn2, hi, rfl⟩ := int_at hx
    rw [cs_len] at hi
    have hd2 : ds[i]? = some ds[i] := List.getElem?_eq_getElem hi
    have hn3 := cs_at hd2
    rw [hn2] at hn3
    have hn3 := Option.some.inj hn3
    rw [show ds.take (i + 1) = ds.take i ++ [ds[i]] from by rw [List.take_add_one, hd2]; rfl, List.flatMap_append, List.flatMap_cons, List.flatMap_nil, List.append_nil]
    have hpl : ((ds.take i).flatMap bits8).length ≤ 24 := by rw [bits_flat_len, List.length_take]; omega
    generalize ds[i] = d at *
    subst hn3
    refine s_asgL (xs := (bI (ms ++ ((ds.take i).flatMap bits8 ++ bits8 d))).map V.int) (EvL.is (el_cat (Ev.r (ev_var rfl) gq) (EvL.r (el_bits (wd := 8) (v := d) (by decide) ev_c (ev_var rfl))) (by rw [List.length_map, List.length_map, bI_len, bI_len, List.length_append, bitsN_len]; omega)) (by rw [← List.append_assoc, bI_append (ms ++ _), List.map_append]; rfl)) fun q2 H14 hq2 e14 g14 => ?_
    exact ⟨q2, _, rfl, e13.trans e14, g14, .inr (by cases h : H12 q2 with | none => rfl | some o => rw [e13 _ _ h] at hq2; cases hq2)⟩
  · rintro σ' H13 ⟨q, z9, rfl, e13, gq, hq⟩
    rw [List.length_map, cs_len, List.take_length] at gq
    obtain ⟨dx2, ws2, hd2, n2, ha2, hl2, _⟩ := hW12.len
    refine s_retU (eu_tup (ea_cons (ev_var rfl) (ea_cons (ev_var rfl) ea_nil)) (Nat.le_of_ble_eq_true rfl)) fun t H14 ht e14 g14 => ?_
    refine k t q _ H14 (hF.trans (Fr.ex (e13.trans e14))) (hW12.ex (e13.trans e14)) (e14 _ _ gq) ?_ ?_ (st_of g14) (by rw [List.length_append, bits_flat_len]; omega)
    · rcases hq with h | h
      · exact .inl h
      · exact .inr (hW.back hW12 hF h)
    · rcases hq with h | h
      · rw [h]
        exact hbL
      · exact (fresh_ne h hl2).symm
theorem q_forL' {σ : L2.St} {H : Hp} {D : Ends} {tu tz : TS} {tl : TE} {g : TG} {xs : List V} (h : EvL tl σ H xs) (k : ∀ p H1, H p = none → Ex H H1 → H1 p = some (.lst xs) → tSeq (tFor (iList K (tC (.ref p))) g tu) tz D σ H1) : tSeq (tFor (iList K tl) g tu) tz D σ H := h H (Ex.refl H) _ fun p H1 hp e g => k p H1 hp e g

/-! ### two writers side by side -/
structure Two (C : Addr) (H : Hp) (W B s : Addr) (a L b : Nat → Addr) (ms : Nat → List Bool) (bd : Nat) : Prop where
  hW : H W = some (.lst [.ref (a 0), .ref (a 1)])
  hB : H B = some (.lst [.ref (b 0), .ref (b 1)])
  hw : ∀ j, j < 2 → WrAt C H (a j) (L j) (ms j)
  hb : ∀ j, j < 2 → H (b j) = some (.lst ((bI (ms j)).map V.int))
  sep : ∀ i j, i < 2 → j < 2 → i ≠ j → a i ≠ a j ∧ L i ≠ L j
  nl : ∀ j, j < 2 → W ≠ L j ∧ B ≠ L j ∧ s ≠ L j ∧ ∀ i, i < 2 → b i ≠ L j
  nB : W ≠ B ∧ s ≠ B ∧ ∀ i, i < 2 → b i ≠ B
  len : ∀ j, j < 2 → (ms j).length ≤ bd
theorem Two.ex {C : Addr} {H H1 : Hp} {W B s : Addr} {a L b : Nat → Addr} {ms : Nat → List Bool} {bd : Nat} (h : Two C H W B s a L b ms bd) (e : Ex H H1) : Two C H1 W B s a L b ms bd :=
  ⟨e _ _ h.hW, e _ _ h.hB, fun j hj => (h.hw j hj).ex e, fun j hj => e _ _ (h.hb j hj), h.sep, h.nl, h.nB, h.len⟩
theorem ins_ne {H : Hp} {a p C dx : Addr} {fs : List (Str × V)} {xs : List V} (h1 : H a = some (.ins C dx fs)) (h2 : H p = some (.lst xs)) : p ≠ a := by
  intro e
  rw [e, h1] at h2
  cases h2
theorem Two.notA {C : Addr} {H : Hp} {W B s : Addr} {a L b : Nat → Addr} {ms : Nat → List Bool} {bd : Nat} (h : Two C H W B s a L b ms bd) {j : Nat} (hj : j < 2) {p : Addr} {xs : List V} (hp : H p = some (.lst xs)) : p ≠ a j := by
  obtain ⟨dx, ws, hd, n, ha, _⟩ := h.hw j hj
  exact ins_ne ha hp
def upN {α : Type} (f : Nat → α) (j : Nat) (x : α) : Nat → α := fun i => if i = j then x else f i
theorem upN_same {α : Type} {f : Nat → α} {j : Nat} {x : α} : upN f j x j = x := if_pos rfl
theorem upN_ne {α : Type} {f : Nat → α} {i j : Nat} {x : α} (h : i ≠ j) : upN f j x i = f i := if_neg h
/-- a step of the writer j -/
theorem Two.step {C : Addr} {H H1 H2 : Hp} {W B s : Addr} {a L b : Nat → Addr} {ms : Nat → List Bool} {bd : Nat} (h : Two C H W B s a L b ms bd) {j : Nat} (hj : j < 2) {q : Addr} {ms' : List Bool} (hF : Fr (a j) (L j) H H1) (hW1 : WrAt C H1 (a j) (L j) ms') (hq : H1 q = some (.lst ((bI ms').map V.int))) (hqq : q = b j ∨ H q = none) (hqL : q ≠ L j) (hl : ms'.length ≤ bd + 300) (e : Ex (upd H1 B (.lst ([.ref (b 0), .ref (b 1)].set j (.ref q)))) H2) :
    Two C H2 W B s a L (upN b j q) (upN ms j ms') (bd + 300) := by
  have nW : H1 W = some (.lst [.ref (a 0), .ref (a 1)]) := hF _ _ (h.notA hj h.hW) (h.nl j hj).1 h.hW
  have nB1 : H1 B = some (.lst [.ref (b 0), .ref (b 1)]) := hF _ _ (h.notA hj h.hB) (h.nl j hj).2.1 h.hB
  have hqB : q ≠ B := by
    rcases hqq with h1 | h1
    · rw [h1]
      exact h.nB.2.2 j hj
    · exact (fresh_ne h1 h.hB).symm
  have hbn : ∀ i, i < 2 → i ≠ j → H1 (b i) = some (.lst ((bI (ms i)).map V.int)) := fun i hi _ => hF _ _ (h.notA hj (h.hb i hi)) ((h.nl j hj).2.2.2 i hi) (h.hb i hi)
  have hwn : ∀ i, i < 2 → WrAt C H1 (a i) (L i) (upN ms j ms' i) := fun i hi => by
    by_cases hij : i = j
    · subst hij
      rw [upN_same]
      exact hW1
    · rw [upN_ne hij]
      have hs := h.sep i j hi hj hij
      obtain ⟨dx, ws, hd, n, ha, hL, _⟩ := h.hw i hi
      obtain ⟨dx2, ws2, hd2, n2, ha2, hL2, _⟩ := h.hw j hj
      exact (h.hw i hi).fr hF hs.1 (ins_ne ha hL2).symm (ins_ne ha2 hL) hs.2
  have updk : ∀ {p : Addr} {o : HO}, p ≠ B → H1 p = some o → H2 p = some o := fun n hp => e _ _ (by rw [upd_ne n]; exact hp)
  refine ⟨updk h.nB.1 nW, ?_, fun i hi => ?_, fun i hi => ?_, h.sep, fun i hi => ?_, ?_, fun i hi => ?_⟩
  · rw [e _ _ upd_same]
    match j, hj with
    | 0, _ => rfl
    | 1, _ => rfl
  · obtain ⟨dx, ws, hd, n, ha, hL, hr⟩ := hwn i hi
    exact ⟨dx, ws, hd, n, updk (ins_ne ha nB1).symm ha, updk (h.nl i hi).2.1.symm hL, hr⟩
  · by_cases hij : i = j
    · subst hij
      rw [upN_same, upN_same]
      exact updk hqB hq
    · rw [upN_ne hij, upN_ne hij]
      exact updk (h.nB.2.2 i hi) (hbn i hi hij)
  · obtain ⟨n1, n2, n3, n4⟩ := h.nl i hi
    refine ⟨n1, n2, n3, fun l hl => ?_⟩
    by_cases hlj : l = j
    · rw [hlj, upN_same]
      by_cases hij : i = j
      · rw [hij]
        exact hqL
      · rcases hqq with h1 | h1
        · rw [h1]
          exact n4 j hj
        · obtain ⟨dx, ws, hd, n, ha, hL, _⟩ := h.hw i hi
          exact (fresh_ne h1 hL).symm
    · rw [upN_ne hlj]
      exact n4 l hl
  · refine ⟨h.nB.1, h.nB.2.1, fun i hi => ?_⟩
    by_cases hij : i = j
    · rw [hij, upN_same]
      exact hqB
    · rw [upN_ne hij]
      exact h.nB.2.2 i hi
  · by_cases hij : i = j
    · rw [hij, upN_same]
      exact hl
    · rw [upN_ne hij]
      have := h.len i hi
      omega
theorem Two.more {C : Addr} {H : Hp} {W B s : Addr} {a L b : Nat → Addr} {ms : Nat → List Bool} {bd bd' : Nat} (h : Two C H W B s a L b ms bd) (hl : bd ≤ bd') : Two C H W B s a L b ms bd' :=
  ⟨h.hW, h.hB, h.hw, h.hb, h.sep, h.nl, h.nB, fun j hj => Nat.le_trans (h.len j hj) hl⟩
theorem ev_pick {σ : L2.St} {H : Hp} {tl ti : TE} {p : Addr} {f : Nat → Addr} {j : Nat} (hj : j < 2) (h1 : Ev tl σ H (.ref p)) (hp : H p = some (.lst [.ref (f 0), .ref (f 1)])) (h2 : Ev ti σ H (.int (j : Int))) : Ev (tOp (rIxL K) tl ti) σ H (.ref (f j)) := by
  refine ev_at (Ev.s h1 (sq_of hp)) h2 (at_of rfl ?_)
  match j, hj with
  | 0, _ => rfl
  | 1, _ => rfl
theorem mk_w {C : Addr} {E : XK} {σ : L2.St} {H : Hp} {Q : VK} (k : ∀ a L H', H a = none → H L = none → Ex H H' → WrAt C H' a L [] → Q (.ref a) H') : tMake C (sp_winit C) [] E tNil σ H Q := fun x dx hx hdx hne => by
  have hex : ∀ b o, H b = some o → upd (upd H dx (HO.own x)) x (HO.ins C dx []) b = some o := fun b o hb => by
    rw [upd_ne (fresh_ne hx hb), upd_ne (fresh_ne hdx hb)]
    exact hb
  refine ⟨x, dx, rfl, upd_same, fun L H' hL hF hW => ⟨rfl, k x L H' hx ?_ (fun b o hb => hF b o (fresh_ne hx hb) (hex b o hb)) hW⟩⟩
  cases h : H L with
  | none => rfl
  | some o => rw [hex L o h] at hL; cases hL
theorem two_w {C : Addr} {E E' : XK} {σ : L2.St} {H : Hp} {Q : VK} (k : ∀ a0 L0 H1 a1 L1 H2 W, H a0 = none → H L0 = none → Ex H H1 → WrAt C H1 a0 L0 [] → H1 a1 = none → H1 L1 = none → Ex H1 H2 → WrAt C H2 a1 L1 [] → H2 W = none → Q (.ref W) (upd H2 W (.lst [.ref a0, .ref a1]))) : tLst (tCons (tMake C (sp_winit C) [] E tNil) (tCons (tMake C (sp_winit C) [] E' tNil) tNil)) σ H Q := by
  show tMake C (sp_winit C) [] E tNil σ H (fun x H1 => tMake C (sp_winit C) [] E' tNil σ H1 fun y H2 => [x, y].length ≤ sizeLine ∧ ∀ p, H2 p = none → Q (.ref p) (upd H2 p (.lst [x, y])))
  exact mk_w fun a0 L0 H1 ha0 hL0 e1 w0 => mk_w fun a1 L1 H2 ha1 hL1 e2 w1 => ⟨sz_of (Nat.le_of_ble_eq_true rfl), fun W hW => k a0 L0 H1 a1 L1 H2 W ha0 hL0 e1 w0 ha1 hL1 e2 w1 hW⟩
theorem q_asgCG {σ : L2.St} {H : Hp} {D : Ends} {tz : TS} {g : TG} {sp : Sp} {dvs vs : List V} {E : XK} {tA : TA} (h : EvA tA σ H vs) (k : ∀ H1, Ex H H1 → sp (vs ++ dvs) H1 (fun x H2 => g x σ H2 (tz D)) E) : tSeq (tAsg (tCall sp dvs E tA) g) tz D σ H := h H (Ex.refl H) _ fun H1 e => k H1 e
theorem gsub_ok {σ : L2.St} {H : Hp} {to ti : TE} {v : V} {l : Addr} {xs : List V} {j : Nat} {Q : L2.St → Hp → Prop} (hl : H l = some (.lst xs)) (ho : Ev to σ H (.ref l)) (hi : Ev ti σ H (.int (j : Int))) (hj : j < xs.length) (k : ∀ H1, Ex H H1 → Q σ (upd H1 l (.lst (xs.set j v)))) : gSub to ti rSetL v σ H Q :=
  (q_setL (te := tC v) (D := ⟨Q, fun _ _ => False, fun _ _ => False, fun _ _ => False⟩) (tz := fun D => D.nx) hl ev_c ho hi hj k : tSeq _ _ _ _ _)
theorem et_is {σ : L2.St} {H : Hp} {t : TT} {a b : Bool} (h : EvT t σ H a) (e : a = b) : EvT t σ H b := e ▸ h
theorem q_asgTy {σ : L2.St} {H : Hp} {D : Ends} {tz : TS} {te : TE} {i : Nat} (P : V → Hp → Prop) (h : ∀ Q : VK, (∀ x H2, P x H2 → Q x H2) → te σ H Q) (k : ∀ x H2, P x H2 → tz D (σ.set i (some x)) H2) : tSeq (tAsg te (gName i)) tz D σ H := h _ k
def sp_law (K : PySem.W.Frag) : Sp := fun vs H Q _ => ∃ (a : Addr) (ns : List Int), vs = [.ref a] ∧ SqL K H a (ns.map V.int) ∧ ns.length ≤ 63 ∧ ∀ H', Q (.bl true) H'
theorem ok_law (T : TX K mg) : FnOk P w K mg base CX0 4 T.a_law T.d_law ["script"] (sp_law K) := by
  refine T.F_law.ok sc_law (fun vs H Q E h => by obtain ⟨a, ns, rfl, _⟩ := h; rfl) (fun cdv A outer s H vs Q E hr h => ?_)
  obtain ⟨a, ns, rfl, hS, hlen, k⟩ := h
  refine ⟨_, (pss_cons (ps_set (i := 1) sc_law.nd rfl (Or.inl rfl) (pe_lst (pa_cons (pe_make0 T.M_BitWriter (ok_BitWriter_init T) (hr.mono (by decide)) (by rfl) T.g_BitWriter T.b_BitWriter_init .nil pass0) (pa_cons (pe_make0 T.M_BitWriter (ok_BitWriter_init T) (hr.mono (by decide)) (by rfl) T.g_BitWriter T.b_BitWriter_init .nil pass0) pa_nil))))
      (pss_cons (ps_set (i := 2) sc_law.nd rfl (Or.inl rfl) (pe_lst (pa_cons (pe_lst pa_nil) (pa_cons (pe_lst pa_nil) pa_nil))))
      (pss_cons (ps_for PassesOwn.never rfl (pi_list (pe_slice (r := rSlL K) sl_list (pv 0) po_none (po_some pe_int))) (pg_name (i := 3) sc_law.nd rfl (Or.inl rfl)) (pss_cons (ps_set (i := 4) sc_law.nd rfl (Or.inl rfl) (pe_call (ok_law_draw T) (hr.mono (by decide)) (by rfl) T.g_law_draw T.F_law_draw.kp T.b_law_draw .nil pass0 (pa_cons (pv 3) (pa_cons pe_int (pa_cons (pe_op op_shl pe_int pe_int) pa_nil)))))
        (pss_cons (ps_set (i := 5) sc_law.nd rfl (Or.inl rfl) (pe_op op_mod (pe_ix (r := rIxL K) ix_list (pv 4) pe_int (fun _ _ => rfl)) pe_int))
        (pss_cons (ps_asg (pe_call (ok_law_step T) (hr.mono (by decide)) (by rfl) T.g_law_step T.F_law_step.kp T.b_law_step .nil pass0 (pa_cons (pe_ix (r := rIxL K) ix_list (pv 1) (pv 5) (fun _ _ => rfl)) (pa_cons (pe_ix (r := rIxL K) ix_list (pv 2) (pv 5) (fun _ _ => rfl)) (pa_cons (pv 4) pa_nil)))) (pg_tup rfl (pgs_cons (pg_name (i := 6) sc_law.nd rfl (Or.inl rfl)) (pgs_cons (pg_sub (pv 2) (pv 5) set_list) pgs_nil))))
        (pss_cons (ps_if (pt_cmpR op_notN1 (pv 6) pe_non (nomark _)) (pss_one (ps_ret pe_bl)) pss_nil)
        (pss_one (ps_if (PW.pt (pw_and (pt_cmpR op_eq (pe_op op_mod (pe_op op_fdiv (pe_ix (r := rIxL K) ix_list (pv 4) pe_int (fun _ _ => rfl)) pe_int) pe_int) pe_int (nomark _)) (pw_and1 (pt_not (pt_val (pe_call (ok_law_right T) (hr.mono (by decide)) (by rfl) T.g_law_right T.F_law_right.kp T.b_law_right .nil pass0 (pa_cons (pe_ix (r := rIxL K) ix_list (pv 1) (pv 5) (fun _ _ => rfl)) (pa_cons (pe_ix (r := rIxL K) ix_list (pv 2) (pv 5) (fun _ _ => rfl)) pa_nil)))))))) (pss_one (ps_ret pe_bl)) pss_nil)))))))
      (pss_cons (ps_for PassesOwn.never rfl (pi_range1 (by rfl) T.m_range (pa_cons pe_int pa_nil)) (pg_name (i := 7) sc_law.nd rfl (Or.inl rfl)) (pss_cons (ps_set (i := 8) sc_law.nd rfl (Or.inl rfl) (pe_meth0 (pe_ix (r := rIxL K) ix_list (pv 1) (pv 7) (fun _ _ => rfl)) T.cl_BitWriter T.me_BitWriter_byte_list (ok_BitWriter_byte_list T) (hr.mono (by decide)) T.b_BitWriter_byte_list .nil pass0))
        (pss_cons (ps_if (pt_not (pt_val (pe_call (ok_law_same T) (hr.mono (by decide)) (by rfl) T.g_law_same T.F_law_same.kp T.b_law_same .nil pass0 (pa_cons (pv 8) (pa_cons (pe_call (ok_law_bytes T) (hr.mono (by decide)) (by rfl) T.g_law_bytes T.F_law_bytes.kp T.b_law_bytes .nil pass0 (pa_cons (pe_ix (r := rIxL K) ix_list (pv 2) (pv 7) (fun _ _ => rfl)) pa_nil)) pa_nil))))) (pss_one (ps_ret pe_bl)) pss_nil)
        (pss_cons (ps_expr (pe_bm PySem.F.plainAttrs_list PySem.F.slot_list_append PySem.F.type_list_append mt_append (pv 8) (pa_cons pe_int pa_nil)))
        (pss_one (ps_if (pt_not (pt_val (pe_call (ok_law_right T) (hr.mono (by decide)) (by rfl) T.g_law_right T.F_law_right.kp T.b_law_right .nil pass0 (pa_cons (pe_ix (r := rIxL K) ix_list (pv 1) (pv 7) (fun _ _ => rfl)) (pa_cons (pe_ix (r := rIxL K) ix_list (pv 2) (pv 7) (fun _ _ => rfl)) pa_nil))))) (pss_one (ps_ret pe_bl)) pss_nil))))))
      (pss_one (ps_ret pe_bl)))))), ?_⟩
  refine q_asgTy (fun x H2 => ∃ W a0 a1 L0 L1, x = .ref W ∧ Ex H H2 ∧ H2 W = some (.lst [.ref a0, .ref a1]) ∧ WrAt T.C_BitWriter H2 a0 L0 [] ∧ WrAt T.C_BitWriter H2 a1 L1 [] ∧ a0 ≠ a1 ∧ L0 ≠ L1 ∧ W ≠ L0 ∧ W ≠ L1) (fun Q q => ?_) ?_
  · refine two_w fun a0 L0 H1 a1 L1 H2 W ha0 hL0 e1 w0 ha1 hL1 e2 w1 hW => q _ _ ?_
    obtain ⟨dx, ws, hd, n, g1, g2, _⟩ := w0
    obtain ⟨dx', ws', hd', n', g1', g2', _⟩ := id w1
    have eW : Ex H2 (upd H2 W (.lst [.ref a0, .ref a1])) := Ex.new hW
    exact ⟨W, a0, a1, L0, L1, rfl, (e1.trans e2).trans eW, upd_same, WrAt.ex (e2.trans eW) ⟨dx, ws, hd, n, g1, g2, by assumption⟩, w1.ex eW, fresh_ne ha1 g1, fresh_ne hL1 g2, (fresh_ne hW (e2 _ _ g2)).symm, (fresh_ne hW g2').symm⟩
  rintro _ H1 ⟨W, a0, a1, L0, L1, rfl, e1, hW, w0, w1, ha01, hL01, hWL0, hWL1⟩
  refine q_asgTy (fun x H2 => ∃ B b0 b1, x = .ref B ∧ Ex H1 H2 ∧ H2 B = some (.lst [.ref b0, .ref b1]) ∧ H2 b0 = some (.lst []) ∧ H2 b1 = some (.lst []) ∧ H1 b0 = none ∧ H1 b1 = none ∧ H1 B = none ∧ b0 ≠ B ∧ b1 ≠ B) (fun Q q => ?_) ?_
  · refine ⟨sz_of (Nat.le_of_ble_eq_true rfl), fun b0 hb0 => ⟨sz_of (Nat.le_of_ble_eq_true rfl), fun b1 hb1 => ⟨sz_of (Nat.le_of_ble_eq_true rfl), fun B hB => q _ _ ?_⟩⟩⟩
    have e0 : Ex H1 (upd H1 b0 (.lst [])) := Ex.new hb0
    have e1' : Ex (upd H1 b0 (.lst [])) (upd (upd H1 b0 (.lst [])) b1 (.lst [])) := Ex.new hb1
    have e2 : Ex (upd (upd H1 b0 (.lst [])) b1 (.lst [])) _ := Ex.new (o := .lst [.ref b0, .ref b1]) hB
    have bk : ∀ {H H' : Hp} {p : Addr}, Ex H H' → H' p = none → H p = none := fun {H H' p} e h => by
      cases h2 : H p with
      | none => rfl
      | some o => rw [e _ _ h2] at h; cases h
    exact ⟨B, b0, b1, rfl, (e0.trans e1').trans e2, upd_same, e2 _ _ (e1' _ _ upd_same), e2 _ _ upd_same, hb0, bk e0 hb1, bk (e0.trans e1') hB, fresh_ne hB (e1' _ _ upd_same), fresh_ne hB upd_same⟩
  rintro _ H2 ⟨B, b0, b1, rfl, e2, hB, hb0, hb1, fb0, fb1, fB, nb0, nb1⟩
  refine q_forL' (xs := (ns.take 63).map V.int) (el_to (i := 63) (Ev.s (ev_var rfl) (ex_l (e1.trans e2) hS)) ev_c) fun s H3 hs e3 hs3 => ?_
  have two0 : Two T.C_BitWriter H3 W B s (fun j => if j = 0 then a0 else a1) (fun j => if j = 0 then L0 else L1) (fun j => if j = 0 then b0 else b1) (fun _ => []) 0 := by
    obtain ⟨dx, ws, hd, n, g1, g2, g3⟩ := w0
    obtain ⟨dx', ws', hd', n', g1', g2', g3'⟩ := w1
    have e23 := e2.trans e3
    refine ⟨e23 _ _ hW, e3 _ _ hB, fun j hj => ?_, fun j hj => ?_, fun i j hi hj hij => ?_, fun j hj => ?_, ⟨fresh_ne fB hW, (fresh_ne hs hB).symm, fun i hi => ?_⟩, fun j hj => Nat.le_refl _⟩
    · match j, hj with
      | 0, _ => exact ⟨dx, ws, hd, n, e23 _ _ g1, e23 _ _ g2, g3⟩
      | 1, _ => exact ⟨dx', ws', hd', n', e23 _ _ g1', e23 _ _ g2', g3'⟩
    · match j, hj with
      | 0, _ => exact e3 _ _ hb0
      | 1, _ => exact e3 _ _ hb1
    · match i, j, hi, hj with
      | 0, 0, _, _ => exact absurd rfl hij
      | 1, 1, _, _ => exact absurd rfl hij
      | 0, 1, _, _ => exact ⟨ha01, hL01⟩
      | 1, 0, _, _ => exact ⟨ha01.symm, hL01.symm⟩
    · match j, hj with
      | 0, _ => exact ⟨hWL0, (fresh_ne fB g2).symm, (fresh_ne hs (e2 _ _ g2)).symm, fun i hi => match i, hi with
          | 0, _ => (fresh_ne fb0 g2).symm
          | 1, _ => (fresh_ne fb1 g2).symm⟩
      | 1, _ => exact ⟨hWL1, (fresh_ne fB g2').symm, (fresh_ne hs (e2 _ _ g2')).symm, fun i hi => match i, hi with
          | 0, _ => (fresh_ne fb0 g2').symm
          | 1, _ => (fresh_ne fb1 g2').symm⟩
    · match i, hi with
      | 0, _ => exact nb0
      | 1, _ => exact nb1
  generalize (fun j => if j = 0 then a0 else a1 : Nat → Addr) = fa at two0
  generalize (fun j => if j = 0 then L0 else L1 : Nat → Addr) = fL at two0
  generalize (fun j => if j = 0 then b0 else b1 : Nat → Addr) = fb0 at two0
  refine q_forLn (K := K) (a := s) ev_c (sq_of hs3) (fun i σ' H' => ∃ (fb : Nat → Addr) (ms : Nat → List Bool) (z3 z4 z5 z6 : Option V), σ' = [some (.ref a), some (.ref W), some (.ref B), z3, z4, z5, z6, none, none] ∧ H' s = some (.lst ((ns.take 63).map V.int)) ∧ Two T.C_BitWriter H' W B s fa fL fb ms (300 * i))
    (fun H4 e4 => ⟨fb0, fun _ => [], none, none, none, none, rfl, e4 _ _ hs3, two0.ex e4⟩) (fun i σ' H' _ h => by obtain ⟨_, _, _, _, _, _, _, hs', _⟩ := h; exact sq_of hs') ?_ ?_
  · rintro i x σ' H4 hx ⟨fb, ms, z3, z4, z5, z6, rfl, hs4, two⟩
    obtain ⟨cell, hcell, hi, rfl⟩ := int_at hx
    rw [List.length_take] at hi
    have hbd : 300 * i ≤ 18900 := by omega
    refine q_asgC (vs := [.int cell, .int 7, .int (1 * 2 ^ (20 : Int).toNat)]) (ea_cons (ev_var rfl) (ea_cons ev_c (ea_cons (ev_I ev_c ev_c ⟨by decide, by decide, by decide⟩) ea_nil))) fun H5 e5 => ⟨cell, 7, _, rfl, by decide, by decide, by decide, by decide, fun pn us H6 hpn e6 gn hun hus => ?_⟩
    have hN : Nums us := ⟨by omega, hus⟩
    have e56 := e5.trans e6
    have two6 := two.ex e56
    have hs6 := e56 _ _ hs4
    have g6 := (hN.get (i := 6) (by decide)).2
    refine q_asg (v := .int (((us.getD 6 0 % 2).toNat : Nat) : Int)) (Ev.is (ev_I (ev_num hN 6 (by decide) (ev_var rfl) gn ev_c) ev_c (by decide)) (congrArg V.int (by omega))) fun H7 e7 => ?_
    have hj : (us.getD 6 0 % 2).toNat < 2 := by omega
    generalize (us.getD 6 0 % 2).toNat = j at *
    have two7 := two6.ex e7
    have gn7 := e7 _ _ gn
    have hnL : ∀ l, l < 2 → pn ≠ fL l := fun l hl => by
      obtain ⟨dx, ws, hd, n, g1, g2, _⟩ := (two.ex e5).hw l hl
      exact (fresh_ne hpn g2).symm
    have hnB : pn ≠ B := (fresh_ne hpn (two.ex e5).hB).symm
    refine q_asgCG (vs := [.ref (fa j), .ref (fb j), .ref pn]) (ea_cons (ev_pick hj (ev_var rfl) two7.hW (ev_var rfl)) (ea_cons (ev_pick hj (ev_var rfl) two7.hB (ev_var rfl)) (ea_cons (ev_var rfl) ea_nil))) fun H8 e8 => ⟨fa j, fL j, fb j, pn, ms j, us, rfl, (two7.ex e8).hw j hj, (two7.ex e8).hb j hj, (two7.nl j hj).2.2.2 j hj, e8 _ _ gn7, hnL j hj, hN, by have := two7.len j hj; omega, fun t q ms' H9 hF9 hW9 hq9 hqq hqL hT hl9 => ?_⟩
    have two8 := two7.ex e8
    refine ⟨t, _, rfl, hT, rfl, .non, [.ref q], rfl, .ref q, [], rfl, gsub_ok (j := j) (hF9 _ _ (two8.notA hj two8.hB) (two8.nl j hj).2.1 two8.hB) (ev_var rfl) (ev_var rfl) hj fun H10 e10 => ⟨rfl, ?_⟩⟩
    have hqq8 : q = fb j ∨ H8 q = none := hqq
    have e10' : Ex (upd H9 B (.lst ([.ref (fb 0), .ref (fb 1)].set j (.ref q)))) (upd H10 B (.lst ([.ref (fb 0), .ref (fb 1)].set j (.ref q)))) := fun p o hp => by
      by_cases hpB : p = B
      · rw [hpB, upd_same] at hp ⊢
        exact hp
      · rw [upd_ne hpB] at hp ⊢
        exact e10 _ _ hp
    have two10 := two8.step hj hF9 hW9 hq9 hqq8 hqL (by have := two8.len j hj; omega) e10'
    have hs10 : (upd H10 B (.lst ([.ref (fb 0), .ref (fb 1)].set j (.ref q)))) s = some (.lst ((ns.take 63).map V.int)) := e10' _ _ (by rw [upd_ne two8.nB.2.1]; exact hF9 _ _ (two8.notA hj (e8 _ _ (e7 _ _ hs6))) (two8.nl j hj).2.2.1 (e8 _ _ (e7 _ _ hs6)))
    have gn10 : (upd H10 B (.lst ([.ref (fb 0), .ref (fb 1)].set j (.ref q)))) pn = some (.lst (us.map V.int)) := e10' _ _ (by rw [upd_ne hnB]; exact hF9 _ _ (two8.notA hj (e8 _ _ gn7)) (hnL j hj) (e8 _ _ gn7))
    generalize (upd H10 B (.lst ([.ref (fb 0), .ref (fb 1)].set j (.ref q)))) = H11 at two10 hs10 gn10 ⊢
    refine q_when (b := false) (et_test (Ev.is (ev_notN (ev_var rfl)) (by rw [decide_eq_true rfl]; rfl))) (fun hb => by cases hb) fun _ H12 e12 => ?_
    have two12 := two10.ex e12
    refine s_when (b := false) (et_is (et_and (a := decide (V.int (us.getD 6 0 / 2 % 8) = V.int 0)) (b := !true) (et_test (ev_eq (ev_I (ev_I (ev_num hN 6 (by decide) (ev_var rfl) (e12 _ _ gn10) ev_c) ev_c ⟨by decide, by decide⟩) ev_c (by decide)) ev_c rfl)) fun _ => et_not (et_B (ev_right (ev_pick hj (ev_var rfl) two12.hW (ev_var rfl)) (ev_pick hj (ev_var rfl) two12.hB (ev_var rfl)) (two12.hw j hj) (two12.hb j hj) (by have := two12.len j hj; omega)))) (by simp)) (fun hb => by cases hb) fun _ H13 e13 => ?_
    exact ⟨_, _, _, _, _, _, rfl, (e12.trans e13) _ _ hs10, (two12.ex e13).more (by omega)⟩
  · rintro σ' H4 ⟨fb, ms, z3, z4, z5, z6, rfl, hs4, two⟩
    rw [List.length_map, List.length_take] at two
    refine q_forR1 (n := 2) (ea_cons ev_c ea_nil) (by omega) (fun i σ' H' => ∃ z7 z8, σ' = [some (.ref a), some (.ref W), some (.ref B), z3, z4, z5, z6, z7, z8] ∧ Ex H4 H') (fun H5 e5 => ⟨none, none, rfl, e5⟩) ?_ ?_
    · rintro i σ' H5 hi ⟨z7, z8, rfl, e5⟩
      have hi : i < 2 := by omega
      have two5 := two.ex e5
      have hml : (ms i).length ≤ 18900 := by have := two.len i hi; omega
      have hus : ∃ us : List Nat, us.flatMap bits8 = ms i ++ List.replicate (padN (ms i).length) false ∧ ∀ u ∈ us, u < 256 := by
        obtain ⟨dx, ws, hd, n, _, _, hn, hh, hws, hbits⟩ := two.hw i hi
        exact us_of hn hh hws hbits
      obtain ⟨us, hus, hu⟩ := hus
      have hul : us.length ≤ 20000 := by
        have := congrArg List.length hus
        rw [bits_flat_len, List.length_append, List.length_replicate] at this
        unfold padN at this
        omega
      refine q_asgL (er_list (ev_pick hi (ev_var rfl) two5.hW (ev_var rfl)) (two5.hw i hi) (by omega) hus hu) fun p H6 hp e6 g6 => ?_
      have two6 := two5.ex e6
      refine q_when (b := !true) (et_not (et_B (ev_same (Ev.r (ev_var rfl) g6) (EvL.r (el_bytes (ev_pick hi (ev_var rfl) two6.hB (ev_var rfl)) (two6.hb i hi) (by omega) hus hu)) (by rw [cs_len]; omega)))) (fun hb => by cases hb) fun _ H7 e7 => ?_
      refine q_app (v := .int 7) (e7 _ _ g6) (ev_var rfl) ev_c (by rw [List.length_map, cs_len]; omega) fun H8 e8 => ?_
      have hp4 : H4 p = none := by cases h : H4 p with | none => rfl | some o => rw [e5 _ _ h] at hp; cases hp
      have e48 := Ex.mut (o := .lst (((cs us).map V.int) ++ [.int 7])) (e5.trans (e6.trans (e7.trans e8))) hp4
      have two8 := two.ex e48
      refine s_when (b := !true) (et_not (et_B (ev_right (ev_pick hi (ev_var rfl) two8.hW (ev_var rfl)) (ev_pick hi (ev_var rfl) two8.hB (ev_var rfl)) (two8.hw i hi) (two8.hb i hi) (by omega)))) (fun hb => by cases hb) fun _ H9 e9 => ?_
      exact ⟨_, _, rfl, e48.trans e9⟩
    · rintro σ' H5 ⟨z7, z8, rfl, e5⟩
      walk_at "ret"
      intro H6 e6
      exact k _

end
theorem all_mk {l : PySem.W.OpenLaw} {w : World} {K : PySem.W.Frag} {h : Heap} {mg : Str → Option Value} {fa : Addr} {f1 f2 f3 f4 f5 f6 f7 f8 f9 f10 f11 f12 f13 f14 f15 f16 f17 f18 f19 C_BitWriter : Addr} (X : K.In h) (G : h.Ns mainGlobals mg) (hfa : mg "law" = some (.ref fa))
    {od1 an1 : Option Addr} {sl1 : Array (Option Value)} {oc1 dc1 pm1 cd1 ct1 : Value} {kV1 : Value} {od2 an2 : Option Addr} {sl2 : Array (Option Value)} {oc2 dc2 pm2 cd2 ct2 : Value} {kV2 : Value} {od3 an3 : Option Addr} {sl3 : Array (Option Value)} {oc3 dc3 pm3 cd3 ct3 : Value} {kV3 : Value} {od4 an4 : Option Addr} {sl4 : Array (Option Value)} {oc4 dc4 pm4 cd4 ct4 : Value} {kV4 : Value} {od5 an5 : Option Addr} {sl5 : Array (Option Value)} {oc5 dc5 pm5 cd5 ct5 : Value} {kV5 : Value} {od6 an6 : Option Addr} {sl6 : Array (Option Value)} {oc6 dc6 pm6 cd6 ct6 : Value} {kV6 : Value} {od7 an7 : Option Addr} {sl7 : Array (Option Value)} {oc7 dc7 pm7 cd7 ct7 : Value} {kV7 : Value} {od8 an8 : Option Addr} {sl8 : Array (Option Value)} {oc8 dc8 pm8 cd8 ct8 : Value} {kV8 : Value} {od9 an9 : Option Addr} {sl9 : Array (Option Value)} {oc9 dc9 pm9 cd9 ct9 : Value} {kV9 : Value} {od10 an10 : Option Addr} {sl10 : Array (Option Value)} {oc10 dc10 pm10 cd10 ct10 : Value} {kV10 : Value} {od11 an11 : Option Addr} {sl11 : Array (Option Value)} {oc11 dc11 pm11 cd11 ct11 : Value} {kV11 : Value} {od12 an12 : Option Addr} {sl12 : Array (Option Value)} {oc12 dc12 pm12 cd12 ct12 : Value} {kV12 : Value} {od13 an13 : Option Addr} {sl13 : Array (Option Value)} {oc13 dc13 pm13 cd13 ct13 : Value} {kV13 : Value} {od14 an14 : Option Addr} {sl14 : Array (Option Value)} {oc14 dc14 pm14 cd14 ct14 : Value} {kV14 : Value} {od15 an15 : Option Addr} {sl15 : Array (Option Value)} {oc15 dc15 pm15 cd15 ct15 : Value} {kV15 : Value} {od16 an16 : Option Addr} {sl16 : Array (Option Value)} {oc16 dc16 pm16 cd16 ct16 : Value} {kV16 : Value} {od17 an17 : Option Addr} {sl17 : Array (Option Value)} {oc17 dc17 pm17 cd17 ct17 : Value} {kV17 : Value} {od18 an18 : Option Addr} {sl18 : Array (Option Value)} {oc18 dc18 pm18 cd18 ct18 : Value} {kV18 : Value} {od19 an19 : Option Addr} {sl19 : Array (Option Value)} {oc19 dc19 pm19 cd19 ct19 : Value} {kV19 : Value} {u_MOST_ZEROS : Value}
    (a1 : PySem.W.findIn K (.ref C_BitWriter) "__init__" = some (some (.ref f1))) (i1 : PySem.W.isFn K (.ref f1) = true)
    (l1 : K.lookup f1 = some ⟨oc1, od1, .func (PySem.W.fnOf "__init__" "BitWriter.__init__" (defArgs s_BitWriter_init) (defBody s_BitWriter_init) (defScope s_BitWriter_init) .none kV1 dc1 pm1 an1 cd1 ct1), sl1⟩) (c1 : PySem.W.codeIn K cd1 "BitWriter.__init__" = true) (k1 : PySem.W.keepIn K (.ref f1) = true)
    (a2 : PySem.W.findIn K (.ref C_BitWriter) "write" = some (some (.ref f2))) (i2 : PySem.W.isFn K (.ref f2) = true)
    (l2 : K.lookup f2 = some ⟨oc2, od2, .func (PySem.W.fnOf "write" "BitWriter.write" (defArgs s_BitWriter_write) (defBody s_BitWriter_write) (defScope s_BitWriter_write) .none kV2 dc2 pm2 an2 cd2 ct2), sl2⟩) (c2 : PySem.W.codeIn K cd2 "BitWriter.write" = true) (k2 : PySem.W.keepIn K (.ref f2) = true)
    (a3 : PySem.W.findIn K (.ref C_BitWriter) "write_signed" = some (some (.ref f3))) (i3 : PySem.W.isFn K (.ref f3) = true)
    (l3 : K.lookup f3 = some ⟨oc3, od3, .func (PySem.W.fnOf "write_signed" "BitWriter.write_signed" (defArgs s_BitWriter_write_signed) (defBody s_BitWriter_write_signed) (defScope s_BitWriter_write_signed) .none kV3 dc3 pm3 an3 cd3 ct3), sl3⟩) (c3 : PySem.W.codeIn K cd3 "BitWriter.write_signed" = true) (k3 : PySem.W.keepIn K (.ref f3) = true)
    (a4 : PySem.W.findIn K (.ref C_BitWriter) "write_unary" = some (some (.ref f4))) (i4 : PySem.W.isFn K (.ref f4) = true)
    (l4 : K.lookup f4 = some ⟨oc4, od4, .func (PySem.W.fnOf "write_unary" "BitWriter.write_unary" (defArgs s_BitWriter_write_unary) (defBody s_BitWriter_write_unary) (defScope s_BitWriter_write_unary) .none kV4 dc4 pm4 an4 cd4 ct4), sl4⟩) (c4 : PySem.W.codeIn K cd4 "BitWriter.write_unary" = true) (k4 : PySem.W.keepIn K (.ref f4) = true)
    (a5 : PySem.W.findIn K (.ref C_BitWriter) "pad" = some (some (.ref f5))) (i5 : PySem.W.isFn K (.ref f5) = true)
    (l5 : K.lookup f5 = some ⟨oc5, od5, .func (PySem.W.fnOf "pad" "BitWriter.pad" (defArgs s_BitWriter_pad) (defBody s_BitWriter_pad) (defScope s_BitWriter_pad) .none kV5 dc5 pm5 an5 cd5 ct5), sl5⟩) (c5 : PySem.W.codeIn K cd5 "BitWriter.pad" = true) (k5 : PySem.W.keepIn K (.ref f5) = true)
    (a6 : PySem.W.findIn K (.ref C_BitWriter) "append_bytes" = some (some (.ref f6))) (i6 : PySem.W.isFn K (.ref f6) = true)
    (l6 : K.lookup f6 = some ⟨oc6, od6, .func (PySem.W.fnOf "append_bytes" "BitWriter.append_bytes" (defArgs s_BitWriter_append_bytes) (defBody s_BitWriter_append_bytes) (defScope s_BitWriter_append_bytes) .none kV6 dc6 pm6 an6 cd6 ct6), sl6⟩) (c6 : PySem.W.codeIn K cd6 "BitWriter.append_bytes" = true) (k6 : PySem.W.keepIn K (.ref f6) = true)
    (a7 : PySem.W.findIn K (.ref C_BitWriter) "byte_list" = some (some (.ref f7))) (i7 : PySem.W.isFn K (.ref f7) = true)
    (l7 : K.lookup f7 = some ⟨oc7, od7, .func (PySem.W.fnOf "byte_list" "BitWriter.byte_list" (defArgs s_BitWriter_byte_list) (defBody s_BitWriter_byte_list) (defScope s_BitWriter_byte_list) .none kV7 dc7 pm7 an7 cd7 ct7), sl7⟩) (c7 : PySem.W.codeIn K cd7 "BitWriter.byte_list" = true) (k7 : PySem.W.keepIn K (.ref f7) = true)
    (a8 : PySem.W.findIn K (.ref C_BitWriter) "bits_written" = some (some (.ref f8))) (i8 : PySem.W.isFn K (.ref f8) = true)
    (l8 : K.lookup f8 = some ⟨oc8, od8, .func (PySem.W.fnOf "bits_written" "BitWriter.bits_written" (defArgs s_BitWriter_bits_written) (defBody s_BitWriter_bits_written) (defScope s_BitWriter_bits_written) .none kV8 dc8 pm8 an8 cd8 ct8), sl8⟩) (c8 : PySem.W.codeIn K cd8 "BitWriter.bits_written" = true) (k8 : PySem.W.keepIn K (.ref f8) = true)
    (a9 : PySem.W.nsIn K mainGlobals "_law_draw" = some (some (.ref f9)))
    (l9 : K.lookup f9 = some ⟨oc9, od9, .func (PySem.W.fnOf "_law_draw" "_law_draw" (defArgs s_law_draw) (defBody s_law_draw) (defScope s_law_draw) .none kV9 dc9 pm9 an9 cd9 ct9), sl9⟩) (c9 : PySem.W.codeIn K cd9 "_law_draw" = true) (k9 : PySem.W.keepIn K (.ref f9) = true)
    (a10 : PySem.W.nsIn K mainGlobals "_law_is_integer" = some (some (.ref f10)))
    (l10 : K.lookup f10 = some ⟨oc10, od10, .func (PySem.W.fnOf "_law_is_integer" "_law_is_integer" (defArgs s_law_is_integer) (defBody s_law_is_integer) (defScope s_law_is_integer) .none kV10 dc10 pm10 an10 cd10 ct10), sl10⟩) (c10 : PySem.W.codeIn K cd10 "_law_is_integer" = true) (k10 : PySem.W.keepIn K (.ref f10) = true)
    (a11 : PySem.W.nsIn K mainGlobals "_law_same" = some (some (.ref f11)))
    (l11 : K.lookup f11 = some ⟨oc11, od11, .func (PySem.W.fnOf "_law_same" "_law_same" (defArgs s_law_same) (defBody s_law_same) (defScope s_law_same) .none kV11 dc11 pm11 an11 cd11 ct11), sl11⟩) (c11 : PySem.W.codeIn K cd11 "_law_same" = true) (k11 : PySem.W.keepIn K (.ref f11) = true)
    (a12 : PySem.W.nsIn K mainGlobals "_law_bits" = some (some (.ref f12)))
    (l12 : K.lookup f12 = some ⟨oc12, od12, .func (PySem.W.fnOf "_law_bits" "_law_bits" (defArgs s_law_bits) (defBody s_law_bits) (defScope s_law_bits) .none kV12 dc12 pm12 an12 cd12 ct12), sl12⟩) (c12 : PySem.W.codeIn K cd12 "_law_bits" = true) (k12 : PySem.W.keepIn K (.ref f12) = true)
    (a13 : PySem.W.nsIn K mainGlobals "_law_bytes" = some (some (.ref f13)))
    (l13 : K.lookup f13 = some ⟨oc13, od13, .func (PySem.W.fnOf "_law_bytes" "_law_bytes" (defArgs s_law_bytes) (defBody s_law_bytes) (defScope s_law_bytes) .none kV13 dc13 pm13 an13 cd13 ct13), sl13⟩) (c13 : PySem.W.codeIn K cd13 "_law_bytes" = true) (k13 : PySem.W.keepIn K (.ref f13) = true)
    (a14 : PySem.W.nsIn K mainGlobals "_law_value" = some (some (.ref f14)))
    (l14 : K.lookup f14 = some ⟨oc14, od14, .func (PySem.W.fnOf "_law_value" "_law_value" (defArgs s_law_value) (defBody s_law_value) (defScope s_law_value) .none kV14 dc14 pm14 an14 cd14 ct14), sl14⟩) (c14 : PySem.W.codeIn K cd14 "_law_value" = true) (k14 : PySem.W.keepIn K (.ref f14) = true)
    (a15 : PySem.W.nsIn K mainGlobals "_law_width" = some (some (.ref f15)))
    (l15 : K.lookup f15 = some ⟨oc15, od15, .func (PySem.W.fnOf "_law_width" "_law_width" (defArgs s_law_width) (defBody s_law_width) (defScope s_law_width) .none kV15 dc15 pm15 an15 cd15 ct15), sl15⟩) (c15 : PySem.W.codeIn K cd15 "_law_width" = true) (k15 : PySem.W.keepIn K (.ref f15) = true)
    (a16 : PySem.W.nsIn K mainGlobals "_law_zeros" = some (some (.ref f16)))
    (l16 : K.lookup f16 = some ⟨oc16, od16, .func (PySem.W.fnOf "_law_zeros" "_law_zeros" (defArgs s_law_zeros) (defBody s_law_zeros) (defScope s_law_zeros) .none kV16 dc16 pm16 an16 cd16 ct16), sl16⟩) (c16 : PySem.W.codeIn K cd16 "_law_zeros" = true) (k16 : PySem.W.keepIn K (.ref f16) = true)
    (a17 : PySem.W.nsIn K mainGlobals "_law_step" = some (some (.ref f17)))
    (l17 : K.lookup f17 = some ⟨oc17, od17, .func (PySem.W.fnOf "_law_step" "_law_step" (defArgs s_law_step) (defBody s_law_step) (defScope s_law_step) .none kV17 dc17 pm17 an17 cd17 ct17), sl17⟩) (c17 : PySem.W.codeIn K cd17 "_law_step" = true) (k17 : PySem.W.keepIn K (.ref f17) = true)
    (a18 : PySem.W.nsIn K mainGlobals "_law_right" = some (some (.ref f18)))
    (l18 : K.lookup f18 = some ⟨oc18, od18, .func (PySem.W.fnOf "_law_right" "_law_right" (defArgs s_law_right) (defBody s_law_right) (defScope s_law_right) .none kV18 dc18 pm18 an18 cd18 ct18), sl18⟩) (c18 : PySem.W.codeIn K cd18 "_law_right" = true) (k18 : PySem.W.keepIn K (.ref f18) = true)
    (a19 : PySem.W.nsIn K mainGlobals "law" = some (some (.ref f19)))
    (l19 : K.lookup f19 = some ⟨oc19, od19, .func (PySem.W.fnOf "law" "law" (defArgs s_law) (defBody s_law) (defScope s_law) .none kV19 dc19 pm19 an19 cd19 ct19), sl19⟩) (c19 : PySem.W.codeIn K cd19 "law" = true) (k19 : PySem.W.keepIn K (.ref f19) = true)
    (aC_BitWriter : PySem.W.nsIn K mainGlobals "BitWriter" = some (some (.ref C_BitWriter)))
    (pg_BitWriter : PySem.W.plainGet K C_BitWriter Str.empty = true) (hd_BitWriter : PySem.W.hasDictIn K C_BitWriter = true) (po_BitWriter : PySem.W.plainOver K C_BitWriter = true) (sa_BitWriter : PySem.W.findIn K (.ref C_BitWriter) "__setattr__" = some (some (.builtin "object.__setattr__"))) (mk_BitWriter : PySem.W.makesIn K C_BitWriter = true) (kc_BitWriter : PySem.W.keepIn K (.ref C_BitWriter) = true)
    (n_BitWriter_whole : PySem.W.findIn K (.ref C_BitWriter) "_whole" = some none)
    (n_BitWriter_held : PySem.W.findIn K (.ref C_BitWriter) "_held" = some none)
    (n_BitWriter_held_bits : PySem.W.findIn K (.ref C_BitWriter) "_held_bits" = some none)
    (z_list : PySem.W.nsIn K mainGlobals "list" = some none)
    (z_len : PySem.W.nsIn K mainGlobals "len" = some none)
    (z_range : PySem.W.nsIn K mainGlobals "range" = some none)
    (z_int : PySem.W.nsIn K mainGlobals "int" = some none)
    (z_isinstance : PySem.W.nsIn K mainGlobals "isinstance" = some none)
    (z_bool : PySem.W.nsIn K mainGlobals "bool" = some none)
    (z_max : PySem.W.nsIn K mainGlobals "max" = some none)
    (q_MOST_ZEROS : PySem.W.nsIn K mainGlobals "_MOST_ZEROS" = some (some u_MOST_ZEROS)) (r_MOST_ZEROS : RelV (.int (56)) u_MOST_ZEROS)
    : ∃ fd : FuncData, (∀ (s : Shared) (v : Value), BindsTo s fd ⟨[v], []⟩ [("script", v)]) ∧ ∀ base : Heap, K.In base → base.Ns mainGlobals mg → FnOk l.prog w K mg base CX0 4 fa fd ["script"] (sp_law K) := by
  have e := hfa.symm.trans (PySem.W.mg_of X G a19)
  cases e
  have F1 := fun_mk (st := s_BitWriter_init) l1 c1 k1
  have b1 := F1.binds (ps := ["self"]) fun _ _ _ _ _ _ us hl => match us, hl with | [_], _ => rfl
  have F2 := fun_mk (st := s_BitWriter_write) l2 c2 k2
  have b2 := F2.binds (ps := ["self", "width", "value"]) fun _ _ _ _ _ _ us hl => match us, hl with | [_, _, _], _ => rfl
  have F3 := fun_mk (st := s_BitWriter_write_signed) l3 c3 k3
  have b3 := F3.binds (ps := ["self", "width", "value"]) fun _ _ _ _ _ _ us hl => match us, hl with | [_, _, _], _ => rfl
  have F4 := fun_mk (st := s_BitWriter_write_unary) l4 c4 k4
  have b4 := F4.binds (ps := ["self", "count"]) fun _ _ _ _ _ _ us hl => match us, hl with | [_, _], _ => rfl
  have F5 := fun_mk (st := s_BitWriter_pad) l5 c5 k5
  have b5 := F5.binds (ps := ["self"]) fun _ _ _ _ _ _ us hl => match us, hl with | [_], _ => rfl
  have F6 := fun_mk (st := s_BitWriter_append_bytes) l6 c6 k6
  have b6 := F6.binds (ps := ["self", "data"]) fun _ _ _ _ _ _ us hl => match us, hl with | [_, _], _ => rfl
  have F7 := fun_mk (st := s_BitWriter_byte_list) l7 c7 k7
  have b7 := F7.binds (ps := ["self"]) fun _ _ _ _ _ _ us hl => match us, hl with | [_], _ => rfl
  have F8 := fun_mk (st := s_BitWriter_bits_written) l8 c8 k8
  have b8 := F8.binds (ps := ["self"]) fun _ _ _ _ _ _ us hl => match us, hl with | [_], _ => rfl
  have F9 := fun_mk (st := s_law_draw) l9 c9 k9
  have b9 := F9.binds (ps := ["cell", "many", "bound"]) fun _ _ _ _ _ _ us hl => match us, hl with | [_, _, _], _ => rfl
  have F10 := fun_mk (st := s_law_is_integer) l10 c10 k10
  have b10 := F10.binds (ps := ["actual"]) fun _ _ _ _ _ _ us hl => match us, hl with | [_], _ => rfl
  have F11 := fun_mk (st := s_law_same) l11 c11 k11
  have b11 := F11.binds (ps := ["actual", "expected"]) fun _ _ _ _ _ _ us hl => match us, hl with | [_, _], _ => rfl
  have F12 := fun_mk (st := s_law_bits) l12 c12 k12
  have b12 := F12.binds (ps := ["width", "value"]) fun _ _ _ _ _ _ us hl => match us, hl with | [_, _], _ => rfl
  have F13 := fun_mk (st := s_law_bytes) l13 c13 k13
  have b13 := F13.binds (ps := ["bits"]) fun _ _ _ _ _ _ us hl => match us, hl with | [_], _ => rfl
  have F14 := fun_mk (st := s_law_value) l14 c14 k14
  have b14 := F14.binds (ps := ["numbers", "width"]) fun _ _ _ _ _ _ us hl => match us, hl with | [_, _], _ => rfl
  have F15 := fun_mk (st := s_law_width) l15 c15 k15
  have b15 := F15.binds (ps := ["numbers"]) fun _ _ _ _ _ _ us hl => match us, hl with | [_], _ => rfl
  have F16 := fun_mk (st := s_law_zeros) l16 c16 k16
  have b16 := F16.binds (ps := ["numbers"]) fun _ _ _ _ _ _ us hl => match us, hl with | [_], _ => rfl
  have F17 := fun_mk (st := s_law_step) l17 c17 k17
  have b17 := F17.binds (ps := ["writer", "bits", "numbers"]) fun _ _ _ _ _ _ us hl => match us, hl with | [_, _, _], _ => rfl
  have F18 := fun_mk (st := s_law_right) l18 c18 k18
  have b18 := F18.binds (ps := ["writer", "bits"]) fun _ _ _ _ _ _ us hl => match us, hl with | [_, _], _ => rfl
  have F19 := fun_mk (st := s_law) l19 c19 k19
  have b19 := F19.binds (ps := ["script"]) fun _ _ _ _ _ _ us hl => match us, hl with | [_], _ => rfl
  let T : TX K mg := ⟨f1, _, F1, b1, f2, _, F2, b2, f3, _, F3, b3, f4, _, F4, b4, f5, _, F5, b5, f6, _, F6, b6, f7, _, F7, b7, f8, _, F8, b8, f9, _, F9, b9, (PySem.W.mg_of X G a9), f10, _, F10, b10, (PySem.W.mg_of X G a10), f11, _, F11, b11, (PySem.W.mg_of X G a11), f12, _, F12, b12, (PySem.W.mg_of X G a12), f13, _, F13, b13, (PySem.W.mg_of X G a13), f14, _, F14, b14, (PySem.W.mg_of X G a14), f15, _, F15, b15, (PySem.W.mg_of X G a15), f16, _, F16, b16, (PySem.W.mg_of X G a16), f17, _, F17, b17, (PySem.W.mg_of X G a17), f18, _, F18, b18, (PySem.W.mg_of X G a18), fa, _, F19, b19, (PySem.W.mg_of X G a19), C_BitWriter, ⟨pg_BitWriter, hd_BitWriter, po_BitWriter, sa_BitWriter⟩, (PySem.W.mg_of X G aC_BitWriter), ⟨mk_BitWriter, a1, i1, kc_BitWriter⟩, ⟨a2, i2, k2⟩, ⟨a3, i3, k3⟩, ⟨a4, i4, k4⟩, ⟨a5, i5, k5⟩, ⟨a6, i6, k6⟩, ⟨a7, i7, k7⟩, ⟨a8, i8, k8⟩, n_BitWriter_whole, n_BitWriter_held, n_BitWriter_held_bits, (PySem.W.mg_none_of X G z_list), (PySem.W.mg_none_of X G z_len), (PySem.W.mg_none_of X G z_range), (PySem.W.mg_none_of X G z_int), (PySem.W.mg_none_of X G z_isinstance), (PySem.W.mg_none_of X G z_bool), (PySem.W.mg_none_of X G z_max), u_MOST_ZEROS, (PySem.W.mg_of X G q_MOST_ZEROS), r_MOST_ZEROS⟩
  exact ⟨_, fun s v => .of_eq rfl, fun base _ _ => ok_law T⟩
end K01
open PySem PySem.W PyProof.Rows
set_option maxRecDepth 100000 in
set_option maxHeartbeats 0 in
theorem PySem.Challenge.cw_monochord_k01_fields_of_a_writer_holds : PySem.Challenge.rw_monochord_k01_fields_of_a_writer.Holds := by
  w_on; o_law; k_head; (case hw => w_witness2)
  k_fill
  refine L2.walk_of (l := PySem.Challenge.rw_monochord_k01_fields_of_a_writer) (n := 63) (k := 4) (x := "script") (CX := fun _ => L2.CX0) (sp := fun w => K01.sp_law _) rfl (by decide) rfl ⟨rfl, by decide, by decide⟩ (fun w h Y => PySem.W.kIn_of Y) ?F (fun _ _ a ns hl _ hS => ⟨a, ns, rfl, hS, hl, fun _ => rfl⟩) (fun _ _ _ _ _ h => h)
  case F =>
    intro w mg fa h KX G hmg
    refine' K01.all_mk KX G hmg ?a1 ?i1 ?l1 ?c1 ?k1 ?a2 ?i2 ?l2 ?c2 ?k2 ?a3 ?i3 ?l3 ?c3 ?k3 ?a4 ?i4 ?l4 ?c4 ?k4 ?a5 ?i5 ?l5 ?c5 ?k5 ?a6 ?i6 ?l6 ?c6 ?k6 ?a7 ?i7 ?l7 ?c7 ?k7 ?a8 ?i8 ?l8 ?c8 ?k8 ?a9 ?l9 ?c9 ?k9 ?a10 ?l10 ?c10 ?k10 ?a11 ?l11 ?c11 ?k11 ?a12 ?l12 ?c12 ?k12 ?a13 ?l13 ?c13 ?k13 ?a14 ?l14 ?c14 ?k14 ?a15 ?l15 ?c15 ?k15 ?a16 ?l16 ?c16 ?k16 ?a17 ?l17 ?c17 ?k17 ?a18 ?l18 ?c18 ?k18 ?a19 ?l19 ?c19 ?k19 ?aC_BitWriter ?pg_BitWriter ?hd_BitWriter ?po_BitWriter ?sa_BitWriter ?mk_BitWriter ?kc_BitWriter ?n_BitWriter_whole ?n_BitWriter_held ?n_BitWriter_held_bits ?z_list ?z_len ?z_range ?z_int ?z_isinstance ?z_bool ?z_max ?q_MOST_ZEROS ?r_MOST_ZEROS
    (case aC_BitWriter => k_is)
    (case a1 => k_is)
    (case i1 => k_is)
    (case l1 => k_is)
    (case c1 => k_is)
    (case k1 => k_is)
    (case a2 => k_is)
    (case i2 => k_is)
    (case l2 => k_is)
    (case c2 => k_is)
    (case k2 => k_is)
    (case a3 => k_is)
    (case i3 => k_is)
    (case l3 => k_is)
    (case c3 => k_is)
    (case k3 => k_is)
    (case a4 => k_is)
    (case i4 => k_is)
    (case l4 => k_is)
    (case c4 => k_is)
    (case k4 => k_is)
    (case a5 => k_is)
    (case i5 => k_is)
    (case l5 => k_is)
    (case c5 => k_is)
    (case k5 => k_is)
    (case a6 => k_is)
    (case i6 => k_is)
    (case l6 => k_is)
    (case c6 => k_is)
    (case k6 => k_is)
    (case a7 => k_is)
    (case i7 => k_is)
    (case l7 => k_is)
    (case c7 => k_is)
    (case k7 => k_is)
    (case a8 => k_is)
    (case i8 => k_is)
    (case l8 => k_is)
    (case c8 => k_is)
    (case k8 => k_is)
    (case a9 => k_is)
    (case l9 => k_is)
    (case c9 => k_is)
    (case k9 => k_is)
    (case a10 => k_is)
    (case l10 => k_is)
    (case c10 => k_is)
    (case k10 => k_is)
    (case a11 => k_is)
    (case l11 => k_is)
    (case c11 => k_is)
    (case k11 => k_is)
    (case a12 => k_is)
    (case l12 => k_is)
    (case c12 => k_is)
    (case k12 => k_is)
    (case a13 => k_is)
    (case l13 => k_is)
    (case c13 => k_is)
    (case k13 => k_is)
    (case a14 => k_is)
    (case l14 => k_is)
    (case c14 => k_is)
    (case k14 => k_is)
    (case a15 => k_is)
    (case l15 => k_is)
    (case c15 => k_is)
    (case k15 => k_is)
    (case a16 => k_is)
    (case l16 => k_is)
    (case c16 => k_is)
    (case k16 => k_is)
    (case a17 => k_is)
    (case l17 => k_is)
    (case c17 => k_is)
    (case k17 => k_is)
    (case a18 => k_is)
    (case l18 => k_is)
    (case c18 => k_is)
    (case k18 => k_is)
    (case a19 => k_is)
    (case l19 => k_is)
    (case c19 => k_is)
    (case k19 => k_is)
    (case pg_BitWriter => k_is)
    (case hd_BitWriter => k_is)
    (case po_BitWriter => k_is)
    (case sa_BitWriter => k_is)
    (case mk_BitWriter => k_is)
    (case kc_BitWriter => k_is)
    (case n_BitWriter_whole => k_is)
    (case n_BitWriter_held => k_is)
    (case n_BitWriter_held_bits => k_is)
    (case z_list => k_is)
    (case z_len => k_is)
    (case z_range => k_is)
    (case z_int => k_is)
    (case z_isinstance => k_is)
    (case z_bool => k_is)
    (case z_max => k_is)
    (case q_MOST_ZEROS => k_is)
    (case r_MOST_ZEROS => first | rfl | exact ⟨_, rfl⟩)
