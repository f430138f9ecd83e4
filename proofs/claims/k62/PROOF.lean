import PyProof.Rows.All
import Wide.All
import OpenK.AllK
import Wide.FinOn
import HandS.ForMost
import HandS.Steps
import HandS.Evl
import HandS.IsInst
import HandS.Wide
import HandS.WideBits
import HandS.Defaults
import HandS.Style
import HandS.SortKw
import HandS.Rev
import HandS.Zip
import HandS.Walk
import KE.DataMinMax
import PyProof.P3Eq
import PySem.Challenge.RW_monochord_k62_predictors_of_samples
set_option Elab.async false
set_option linter.all false
set_option maxRecDepth 100000
set_option maxHeartbeats 4000000
namespace K62
open PySem PySem.Spec PyProof.Rows L2 Evl
def topS (i : Nat) : Stmt := PySem.Challenge.pw_monochord_k62_predictors_of_samples.main.body.getD i (.Pass ⟨0, 0, 0, 0⟩)
abbrev s_weighted : Stmt := topS 2
theorem sc_weighted : FnScope ["samples", "many", "at", "sample"] ["samples"] (defScope s_weighted) := ⟨rfl, rfl, rfl, by decide +kernel, rfl, by decide +kernel, by decide +kernel⟩
abbrev s_autocorrelation : Stmt := topS 3
theorem sc_autocorrelation : FnScope ["values", "most", "lag", "a", "b"] ["values", "most"] (defScope s_autocorrelation) := ⟨rfl, rfl, rfl, by decide +kernel, rfl, by decide +kernel, by decide +kernel⟩
abbrev s_exact_predictors : Stmt := topS 4
theorem sc_exact_predictors : FnScope ["correlation", "found", "numerators", "before", "denominator", "order", "last", "mirrored", "a", "b"] ["correlation"] (defScope s_exact_predictors) := ⟨rfl, rfl, rfl, by decide +kernel, rfl, by decide +kernel, by decide +kernel⟩
abbrev s_quantize : Stmt := topS 5
theorem sc_quantize : FnScope ["numerators", "denominator", "precision", "bound", "greatest", "shift", "numerator"] ["numerators", "denominator", "precision"] (defScope s_quantize) := ⟨rfl, rfl, rfl, by decide +kernel, rfl, by decide +kernel, by decide +kernel⟩
abbrev s_predictors : Stmt := topS 6
theorem sc_predictors : FnScope ["samples", "most", "precision", "exact", "numerators", "denominator"] ["samples", "most", "precision"] (defScope s_predictors) := ⟨rfl, rfl, rfl, by decide +kernel, rfl, by decide +kernel, by decide +kernel⟩
abbrev s_last_numerator : Stmt := topS 7
theorem sc_last_numerator : FnScope ["correlation", "numerators", "denominator", "order", "known", "at"] ["correlation", "numerators", "denominator"] (defScope s_last_numerator) := ⟨rfl, rfl, rfl, by decide +kernel, rfl, by decide +kernel, by decide +kernel⟩
abbrev s_rounded : Stmt := topS 8
theorem sc_rounded : FnScope ["a", "b"] ["a", "b"] (defScope s_rounded) := ⟨rfl, rfl, rfl, by decide +kernel, rfl, by decide +kernel, by decide +kernel⟩
abbrev s_law_cell : Stmt := topS 10
theorem sc_law_cell : FnScope ["script", "k"] ["script", "k"] (defScope s_law_cell) := ⟨rfl, rfl, rfl, by decide +kernel, rfl, by decide +kernel, by decide +kernel⟩
abbrev s_law_integer : Stmt := topS 11
theorem sc_law_integer : FnScope ["value"] ["value"] (defScope s_law_integer) := ⟨rfl, rfl, rfl, by decide +kernel, rfl, by decide +kernel, by decide +kernel⟩
abbrev s_law_integers : Stmt := topS 12
theorem sc_law_integers : FnScope ["values", "value"] ["values"] (defScope s_law_integers) := ⟨rfl, rfl, rfl, by decide +kernel, rfl, by decide +kernel, by decide +kernel⟩
abbrev s_law_row : Stmt := topS 13
theorem sc_law_row : FnScope ["cell", "count", "bound", "rest", "mixed", "row", "k"] ["cell", "count", "bound"] (defScope s_law_row) := ⟨rfl, rfl, rfl, by decide +kernel, rfl, by decide +kernel, by decide +kernel⟩
abbrev s_law_samples : Stmt := topS 14
theorem sc_law_samples : FnScope ["cell", "count", "shape", "samples", "level", "step", "k", "x"] ["cell", "count", "shape"] (defScope s_law_samples) := ⟨rfl, rfl, rfl, by decide +kernel, rfl, by decide +kernel, by decide +kernel⟩
abbrev s_law_solution : Stmt := topS 15
theorem sc_law_solution : FnScope ["sums", "size", "rows", "i", "before", "k", "pivot", "factor", "j", "row"] ["sums", "size"] (defScope s_law_solution) := ⟨rfl, rfl, rfl, by decide +kernel, rfl, by decide +kernel, by decide +kernel⟩
abbrev s_law_quantized : Stmt := topS 16
theorem sc_law_quantized : FnScope ["numerators", "denominator", "digits", "bound", "step", "scale", "row", "x", "magnitude", "largest"] ["numerators", "denominator", "digits"] (defScope s_law_quantized) := ⟨rfl, rfl, rfl, by decide +kernel, rfl, by decide +kernel, by decide +kernel⟩
abbrev s_law : Stmt := topS 17
theorem sc_law : FnScope ["script", "first", "samples", "most", "digits", "values", "k", "sums", "lag", "given", "actual", "degree", "expected", "solved", "entry", "i"] ["script"] (defScope s_law) := ⟨rfl, rfl, rfl, by decide +kernel, rfl, by decide +kernel, by decide +kernel⟩
theorem hu64 {A : Around} {k : Nat} (hr : Room k A) : A.units + 64 < cLine := hr.units
/-! ### short words for readings -/
theorem ret_eq {v w : V} {H H' : Hp} {Q : VK} (k : RetV v H Q) (ex : Ex H H') (e : w = v) : Q w H' := e ▸ k H' ex
/-- isinstance(x, T), T a built-in class -/
theorem ev_isi {K : PySem.W.Frag} {σ : L2.St} {H : Hp} {ta : TE} {x : V} {t : String} {T : String} {b : Bool} (ha : Ev ta σ H x) (ht : ∀ H1, Ex H H1 → TyX K H1 x (.type t)) (hk : kitB t T = some b) :
    Ev (tCB (rIsi K) (tCons ta (tCons (tC (.ty T)) tNil))) σ H (.bl b) :=
  ev_cb (ea_cons ha (ea_cons ev_c ea_nil)) fun H1 e Q q => ⟨x, .ty T, _, _, b, rfl, .ty T, ht H1 e, kit_ty hk, q H1 (Ex.refl H1)⟩
theorem isi_int {K : PySem.W.Frag} {H : Hp} {i : Int} : ∀ H1, Ex H H1 → TyX K H1 (V.int i) (.type "int") := fun _ _ => .base (.int _)
theorem isi_bl {K : PySem.W.Frag} {H : Hp} {b : Bool} : ∀ H1, Ex H H1 → TyX K H1 (V.bl b) (.type "bool") := fun _ _ => .base (.bl _)
theorem isi_non {K : PySem.W.Frag} {H : Hp} : ∀ H1, Ex H H1 → TyX K H1 V.non (.type "NoneType") := fun _ _ => .base .non
theorem isi_lst {K : PySem.W.Frag} {H : Hp} {a : Addr} {xs : List V} (h : H a = some (.lst xs)) : ∀ H1, Ex H H1 → TyX K H1 (V.ref a) (.type "list") := fun _ e => .base (.lst (e _ _ h))
theorem isi_tup {K : PySem.W.Frag} {H : Hp} {a : Addr} {xs : List V} (h : H a = some (.tup xs)) : ∀ H1, Ex H H1 → TyX K H1 (V.ref a) (.type "tuple") := fun _ e => .base (.tup (e _ _ h))
theorem kit_ii : kitB "int" "int" = some true := by decide +kernel
theorem kit_ib : kitB "int" "bool" = some false := by decide +kernel
theorem kit_bb : kitB "bool" "bool" = some true := by decide +kernel
theorem kit_bi : kitB "bool" "int" = some true := by decide +kernel
theorem kit_ll : kitB "list" "list" = some true := by decide +kernel
theorem kit_tt : kitB "tuple" "tuple" = some true := by decide +kernel
theorem ev_isiI {K : PySem.W.Frag} {σ : L2.St} {H : Hp} {ta : TE} {i : Int} (ha : Ev ta σ H (.int i)) : Ev (tCB (rIsi K) (tCons ta (tCons (tC (.ty "int")) tNil))) σ H (.bl true) := ev_isi ha isi_int kit_ii
theorem ev_isiB {K : PySem.W.Frag} {σ : L2.St} {H : Hp} {ta : TE} {i : Int} (ha : Ev ta σ H (.int i)) : Ev (tCB (rIsi K) (tCons ta (tCons (tC (.ty "bool")) tNil))) σ H (.bl false) := ev_isi ha isi_int kit_ib
theorem ev_isiL {K : PySem.W.Frag} {σ : L2.St} {H : Hp} {ta : TE} {a : Addr} {xs : List V} (ha : Ev ta σ H (.ref a)) (h : H a = some (.lst xs)) : Ev (tCB (rIsi K) (tCons ta (tCons (tC (.ty "list")) tNil))) σ H (.bl true) := ev_isi ha (isi_lst h) kit_ll
theorem ev_isiBB {K : PySem.W.Frag} {σ : L2.St} {H : Hp} {ta : TE} {b : Bool} (ha : Ev ta σ H (.bl b)) : Ev (tCB (rIsi K) (tCons ta (tCons (tC (.ty "bool")) tNil))) σ H (.bl true) := ev_isi ha isi_bl kit_bb
theorem ev_chain {σ : L2.St} {H : Hp} {ta tb tc : TE} {g g' : Int → Int → Bool} {a b c : Int} (ha : Ev ta σ H (.int a)) (hb : Ev tb σ H (.int b)) (hc : Ev tc σ H (.int c)) :
    Ev (tChain (rI0 fun i j => .bl (g i j)) (rI0 fun i j => .bl (g' i j)) ta tb tc) σ H (.bl (g a b && g' b c)) := fun H1 e Q q =>
  ha H1 e _ fun H2 e2 => hb H2 (e.trans e2) _ fun H3 e3 => ⟨a, b, rfl, rfl, g a b, rfl, by
    cases hg : g a b with
    | true =>
      rw [if_pos rfl]
      rw [hg, Bool.true_and] at q
      exact hc H3 ((e.trans e2).trans e3) _ fun H4 e4 => ⟨b, c, rfl, rfl, q H4 ((e2.trans e3).trans e4)⟩
    | false =>
      rw [if_neg (by decide)]
      rw [hg, Bool.false_and] at q
      exact q H3 (e2.trans e3)⟩
theorem ev_isN {σ : L2.St} {H : Hp} {ta : TE} {x : V} (ha : Ev ta σ H x) : Ev (tOp rIsN ta (tC .non)) σ H (.bl (decide (x = .non))) := fun H1 e Q q => ha H1 e _ fun H2 e2 => ⟨rfl, q H2 e2⟩
theorem ev_notN {σ : L2.St} {H : Hp} {ta : TE} {x : V} (ha : Ev ta σ H x) : Ev (tOp rNotN ta (tC .non)) σ H (.bl (!decide (x = .non))) := fun H1 e Q q => ha H1 e _ fun H2 e2 => ⟨rfl, q H2 e2⟩
theorem ev_min2 {σ : L2.St} {H : Hp} {ta tb : TE} {i j : Int} (ha : Ev ta σ H (.int i)) (hb : Ev tb σ H (.int j)) :
    Ev (tCB (fun xs H Q => ∃ i j, xs = [.int i, .int j] ∧ Q (.int (if j < i then j else i)) H) (tCons ta (tCons tb tNil))) σ H (.int (if j < i then j else i)) :=
  ev_cb (ea_cons ha (ea_cons hb ea_nil)) fun H1 _ _ q => ⟨i, j, rfl, q H1 (Ex.refl H1)⟩
theorem ev_negI {σ : L2.St} {H : Hp} {ta : TE} {i : Int} (ha : Ev ta σ H (.int i)) : Ev (tUn (rU fun i => .int (-i)) ta) σ H (.int (-i)) := ev_un ha ru_neg
theorem ev_I0 {σ : L2.St} {H : Hp} {ta tb : TE} {g : Int → Int → V} {i j : Int} (ha : Ev ta σ H (.int i)) (hb : Ev tb σ H (.int j)) : Ev (tOp (rI0 g) ta tb) σ H (g i j) := ev_op ha hb rv_I0
theorem ev_I {σ : L2.St} {H : Hp} {ta tb : TE} {C : Int → Int → Prop} {g : Int → Int → V} {i j : Int} (ha : Ev ta σ H (.int i)) (hb : Ev tb σ H (.int j)) (hc : C i j) : Ev (tOp (rI C g) ta tb) σ H (g i j) := ev_op ha hb (rv_I hc)
theorem ev_eq {σ : L2.St} {H : Hp} {ta tb : TE} {x y : V} (ha : Ev ta σ H x) (hb : Ev tb σ H y) (hs : scal x y = true) : Ev (tOp rEq ta tb) σ H (.bl (decide (x = y))) := ev_op ha hb (rv_eq hs)
theorem ev_ne {σ : L2.St} {H : Hp} {ta tb : TE} {x y : V} (ha : Ev ta σ H x) (hb : Ev tb σ H y) (hs : scal x y = true) : Ev (tOp rNe ta tb) σ H (.bl (!decide (x = y))) := ev_op ha hb (rv_ne hs)
theorem et_B' {σ : L2.St} {H : Hp} {te : TE} {x : V} {b : Bool} (h : Ev te σ H x) (e : x = .bl b) : EvT (tB te) σ H b := et_B (e ▸ h)
theorem dec_lt {a b : Nat} : decide ((a : Int) < (b : Int)) = decide (a < b) := by
  by_cases h : a < b
  · rw [decide_eq_true h, decide_eq_true (by omega)]
  · rw [decide_eq_false h, decide_eq_false (by omega)]
theorem int_at {ns : List Int} {i : Nat} {x : V} (hx : (ns.map V.int)[i]? = some x) : ∃ n, ns[i]? = some n ∧ i < ns.length ∧ x = V.int n := by
  rw [List.getElem?_map] at hx
  cases en : ns[i]? with
  | none => rw [en] at hx; cases hx
  | some n => rw [en] at hx; exact ⟨n, rfl, (List.getElem?_eq_some_iff.mp en).1, (Option.some.inj hx).symm⟩
theorem at_int {ns : List Int} {i : Nat} {n : Int} (h : ns[i]? = some n) : (ns.map V.int)[i]? = some (V.int n) := by rw [List.getElem?_map, h]; rfl
local macro_rules | `(tactic| walk_at "side") => `(tactic| first
  | omega | (show CMul _ _; unfold CMul; omega) | (show CDiv _ _; unfold CDiv; omega) | (show CPow _ _; unfold CPow; omega) | (show (_ : Int) < _; omega) | (show (_ : Int) ≤ _; omega) | decide)
local macro_rules | `(tactic| walk_at "ev") => `(tactic| first
  | exact ev_var rfl
  | exact ev_c
  | (refine' ev_I0 ?h1 ?h2; (case h1 => walk_at "ev"); (case h2 => walk_at "ev"))
  | (refine' ev_negI ?h1; (case h1 => walk_at "ev"))
  | (refine' ev_I ?h1 ?h2 ?hc; (case h1 => walk_at "ev"); (case h2 => walk_at "ev"); (case hc => walk_at "side"))
  | (refine' ev_eq ?h1 ?h2 ?hc; (case h1 => walk_at "ev"); (case h2 => walk_at "ev"); (case hc => rfl))
  | (refine' ev_ne ?h1 ?h2 ?hc; (case h1 => walk_at "ev"); (case h2 => walk_at "ev"); (case hc => rfl))
  | (refine' ev_max2 ?h1 ?h2; (case h1 => walk_at "ev"); (case h2 => walk_at "ev"))
  | (refine' ev_min2 ?h1 ?h2; (case h1 => walk_at "ev"); (case h2 => walk_at "ev"))
  | (refine' ev_chain ?h1 ?h2 ?h3; (case h1 => walk_at "ev"); (case h2 => walk_at "ev"); (case h3 => walk_at "ev"))
  | (refine' ev_isN ?h1; (case h1 => walk_at "ev"))
  | (refine' ev_notN ?h1; (case h1 => walk_at "ev"))
  | (refine' ev_isiI ?h1; (case h1 => walk_at "ev"))
  | (refine' ev_isiB ?h1; (case h1 => walk_at "ev"))
  | (refine' ev_isiBB ?h1; (case h1 => walk_at "ev"))
  | (refine' ev_andV ?h1 (fun _ => ?h2); (case h1 => walk_at "ev"); (case h2 => walk_at "ev"))
  | (refine' ev_orV ?h1 (fun _ => ?h2); (case h1 => walk_at "ev"); (case h2 => walk_at "ev"))
  | (refine' ev_notV ?h1; (case h1 => walk_at "ev"))
  | walk_at "evmore")
local macro_rules | `(tactic| walk_at "et") => `(tactic| first
  | (refine' et_test ?h1; (case h1 => walk_at "ev"))
  | (refine' et_B ?h1; (case h1 => walk_at "ev"))
  | (refine' et_not ?h1; (case h1 => walk_at "et"))
  | (refine' et_and ?h1 (fun _ => ?h2); (case h1 => walk_at "et"); (case h2 => walk_at "et"))
  | (refine' et_or ?h1 (fun _ => ?h2); (case h1 => walk_at "et"); (case h2 => walk_at "et")))
local macro_rules | `(tactic| walk_at "ea") => `(tactic| first
  | exact ea_nil
  | (refine' ea_cons ?h1 ?h2; (case h1 => walk_at "ev"); (case h2 => walk_at "ea")))
local macro_rules | `(tactic| walk_at "when") => `(tactic| (refine' q_when ?h ?h1 ?h2; (case h => walk_at "et")))
local macro_rules | `(tactic| walk_at "whenS") => `(tactic| (refine' s_when ?h ?h1 ?h2; (case h => walk_at "et")))
local macro_rules | `(tactic| walk_at "if") => `(tactic| (refine' q_if ?h ?h1 ?h2; (case h => walk_at "et")))
local macro_rules | `(tactic| walk_at "ifS") => `(tactic| (refine' s_if ?h ?h1 ?h2; (case h => walk_at "et")))
local macro_rules | `(tactic| walk_at "ret") => `(tactic| (refine' s_ret ?h ?h1; (case h => walk_at "ev")))
local macro_rules | `(tactic| walk_at "asg") => `(tactic| (refine' q_asg ?h ?h1; (case h => walk_at "ev")))
local macro_rules | `(tactic| walk_at "asgS") => `(tactic| (refine' s_asg ?h ?h1; (case h => walk_at "ev")))

/-! ### lists, existing or new -/
def EvR (te : TE) (σ : L2.St) (H : Hp) (xs : List V) : Prop := ∀ H1, Ex H H1 → ∀ Q : VK, (∀ p H2, Ex H1 H2 → H2 p = some (.lst xs) → Q (.ref p) H2) → te σ H1 Q
def EvS (K : PySem.W.Frag) (te : TE) (σ : L2.St) (H : Hp) (xs : List V) : Prop := ∀ H1, Ex H H1 → ∀ Q : VK, (∀ p H2, Ex H1 H2 → SqL K H2 p xs → Q (.ref p) H2) → te σ H1 Q
section
variable {K : PySem.W.Frag} {σ : L2.St} {H H' : Hp} {ta tb te : TE} {xs ys : List V} {a : Addr}
theorem EvL.r (h : EvL te σ H xs) : EvR te σ H xs := fun H1 e Q q => h H1 e Q fun p H2 _ e2 h2 => q p H2 e2 h2
theorem Ev.r (h : Ev te σ H (.ref a)) (hx : H a = some (.lst xs)) : EvR te σ H xs := fun H1 e Q q => h H1 e Q fun H2 e2 => q a H2 e2 (e2 _ _ (e _ _ hx))
theorem EvR.s (h : EvR te σ H xs) : EvS K te σ H xs := fun H1 e Q q => h H1 e Q fun p H2 e2 h2 => q p H2 e2 (sq_of h2)
theorem Ev.s (h : Ev te σ H (.ref a)) (hx : SqL K H a xs) : EvS K te σ H xs := fun H1 e Q q => h H1 e Q fun H2 e2 => q a H2 e2 (ex_l e2 (ex_l e hx))
theorem EvR.mono (e : Ex H H') (h : EvR te σ H xs) : EvR te σ H' xs := fun H1 a Q q => h H1 (e.trans a) Q q
theorem EvS.mono (e : Ex H H') (h : EvS K te σ H xs) : EvS K te σ H' xs := fun H1 a Q q => h H1 (e.trans a) Q q
theorem EvL.is (h : EvL te σ H xs) (e : xs = ys) : EvL te σ H ys := e ▸ h
theorem EvR.is (h : EvR te σ H xs) (e : xs = ys) : EvR te σ H ys := e ▸ h
theorem el_cat (ha : EvR ta σ H xs) (hb : EvR tb σ H ys) (hl : xs.length + ys.length ≤ 100000) : EvL (tOp rCat ta tb) σ H (xs ++ ys) := fun H1 e Q q =>
  ha H1 e _ fun p H2 e2 h2 => hb H2 (e.trans e2) _ fun r H3 e3 h3 => ⟨p, r, xs, ys, rfl, rfl, e3 _ _ h2, h3, sz_of hl, fun l hl => q l _ (fresh_back (e2.trans e3) hl) ((e2.trans e3).trans (Ex.new hl)) upd_same⟩
theorem el_rep {k : Int} (ha : EvR ta σ H xs) (hb : Ev tb σ H (.int k)) (hk : -(2 ^ 63) ≤ k ∧ k < 2 ^ 63) (hl : xs.length * k.toNat ≤ 100000) : EvL (tOp rRep ta tb) σ H (List.replicate k.toNat xs).flatten := fun H1 e Q q =>
  ha H1 e _ fun p H2 e2 h2 => hb H2 (e.trans e2) _ fun H3 e3 => ⟨p, k, xs, rfl, rfl, e3 _ _ h2, hk.1, hk.2, sz_of hl, fun l hl => q l _ (fresh_back (e2.trans e3) hl) ((e2.trans e3).trans (Ex.new hl)) upd_same⟩
theorem rep_one {x : V} (n : Nat) : (List.replicate n [x]).flatten = List.replicate n x := by
  induction n with
  | zero => rfl
  | succ n ih => rw [List.replicate_succ, List.replicate_succ, List.flatten_cons, ih]; rfl
theorem el_of {te : TE} (h : EvS K te σ H xs) : EvL (tCB (rListS K) (tCons te tNil)) σ H xs := fun H1 e Q q =>
  h H1 e _ fun p H2 e2 h2 => ⟨p, xs, rfl, .inl h2, fun l hl => q l _ (fresh_back e2 hl) (e2.trans (Ex.new hl)) upd_same⟩
theorem ev_lenS (h : EvS K te σ H xs) : Ev (tCB (rLenS K) (tCons te tNil)) σ H (.int (xs.length : Int)) := fun H1 e Q q =>
  h H1 e _ fun p H2 e2 h2 => ⟨p, xs, rfl, .inl h2, q H2 e2⟩
theorem ev_sum {ns : List Int} (h : EvS K te σ H (ns.map V.int)) : Ev (tCB (rSum K) (tCons te tNil)) σ H (.int ns.sum) := fun H1 e Q q =>
  h H1 e _ fun p H2 e2 h2 => ⟨p, ns, rfl, h2, q H2 e2⟩
theorem dp_ints {K : PySem.W.Frag} {H : Hp} : ∀ ns : List Int, DpAll K H (ns.map V.int) (ns.map PyData.int)
  | [] => .nil
  | n :: r => .cons (.int n) (dp_ints r)
theorem eqv_ints : ∀ ns ms : List Int, PyData.eqvAll (ns.map PyData.int) (ms.map PyData.int) = decide (ns = ms)
  | [], [] => by simp [PyData.eqvAll]
  | [], _ :: _ => by simp [PyData.eqvAll]
  | _ :: _, [] => by simp [PyData.eqvAll]
  | n :: r, m :: t => by
    show (PyData.eqv (.int n) (.int m) && PyData.eqvAll (r.map PyData.int) (t.map PyData.int)) = _
    rw [eqv_ints r t]
    show ((n == m) && decide (r = t)) = _
    by_cases h1 : n = m <;> by_cases h2 : r = t <;> simp [h1, h2]
theorem canLay_ints : ∀ ns : List Int, PyData.canLayAll0 (ns.map PyData.int) = true
  | [] => by simp [PyData.canLayAll0]
  | n :: r => by
    show PyData.canLayAll0 (PyData.int n :: r.map PyData.int) = true
    rw [PyData.canLayAll0, canLay_ints r]
    simp [PyData.canLay0]
theorem depth_ints : ∀ ns : List Int, PyData.depthAll (ns.map PyData.int) ≤ 1
  | [] => by simp [PyData.depthAll]
  | n :: r => by
    show PyData.depthAll (PyData.int n :: r.map PyData.int) ≤ 1
    have := depth_ints r
    simp only [PyData.depthAll, PyData.depth]
    omega
theorem shaped_ints (ns : List Int) : SeqAt.shaped (.list (ns.map PyData.int)) = true := by
  unfold SeqAt.shaped
  have h1 := canLay_ints ns
  have h2 := depth_ints ns
  have h3 : PyData.depth (.list (ns.map PyData.int)) ≤ 64 := by
    rw [PyData.depth]
    omega
  rw [decide_eq_true h3, Bool.and_true]
  simpa only [PyData.canLay0] using h1
theorem ev_eqI {ns ms : List Int} (ha : EvS K ta σ H (ns.map V.int)) (hb : EvS K tb σ H (ms.map V.int)) : Ev (tOp (rEqD K) ta tb) σ H (.bl (decide (ns = ms))) := fun H1 e Q q =>
  ha H1 e _ fun p H2 e2 h2 => hb H2 (e.trans e2) _ fun r H3 e3 h3 => ⟨.list (ns.map PyData.int), .list (ms.map PyData.int), .lst (ex_l e3 h2) (dp_ints ns), .lst h3 (dp_ints ms), shaped_ints ns, shaped_ints ms, by
    show Q (.bl (PyData.eqvAll (ns.map PyData.int) (ms.map PyData.int))) H3
    rw [eqv_ints]
    exact q H3 (e2.trans e3)⟩
theorem ev_neI {ns ms : List Int} (ha : EvS K ta σ H (ns.map V.int)) (hb : EvS K tb σ H (ms.map V.int)) : Ev (tOp (rNeD K) ta tb) σ H (.bl (!decide (ns = ms))) := fun H1 e Q q =>
  ha H1 e _ fun p H2 e2 h2 => hb H2 (e.trans e2) _ fun r H3 e3 h3 => ⟨.list (ns.map PyData.int), .list (ms.map PyData.int), .lst (ex_l e3 h2) (dp_ints ns), .lst h3 (dp_ints ms), shaped_ints ns, shaped_ints ms, by
    show Q (.bl (!PyData.eqvAll (ns.map PyData.int) (ms.map PyData.int))) H3
    rw [eqv_ints]
    exact q H3 (e2.trans e3)⟩
theorem ev_ixS {i : Nat} {n : Int} {tl ti : TE} {v : V} (h : EvS K tl σ H xs) (hi : Ev ti σ H (.int n)) (ha : atI xs n = some v) : Ev (tOp (rIxL K) tl ti) σ H v := fun H1 e Q q =>
  h H1 e _ fun p H2 e2 h2 => hi H2 (e.trans e2) _ fun H3 e3 => ⟨p, xs, n, v, rfl, rfl, ex_l e3 h2, ha, q H3 (e2.trans e3)⟩
theorem el_slS {tl th : TO} {lo hi : Option Int} (h : EvS K te σ H xs) (h1 : EvO tl σ H lo) (h2 : EvO th σ H hi) : EvL (tSl (rSlL K) te tl th) σ H (cutV xs lo hi) := fun H1 e _ q =>
  h H1 e _ fun a H2 e2 hs => h1 H2 (e.trans e2) _ fun H3 e3 => h2 H3 ((e.trans e2).trans e3) _ fun H4 e4 =>
    ⟨a, xs, rfl, ex_l (e3.trans e4) hs, fun p hp => q p _ (fresh_back ((e2.trans e3).trans e4) hp) (((e2.trans e3).trans e4).trans (Ex.new hp)) upd_same⟩
theorem ev_at {n : Int} {tl ti : TE} {v : V} (h : EvS K tl σ H xs) (hi : Ev ti σ H (.int n)) (ha : atI xs n = some v) : Ev (tOp (rIxL K) tl ti) σ H v := ev_ixS (i := 0) h hi ha
theorem cut_to (xs : List V) (i : Nat) : cutV xs none (some (i : Int)) = xs.take i := by
  unfold cutV
  rw [HT.sIx_none, HT.sIx_nat, List.drop_zero, Nat.sub_zero]
  by_cases h : i ≤ xs.length
  · rw [Nat.min_eq_left h]
  · rw [Nat.min_eq_right (by omega), List.take_of_length_le (Nat.le_refl _), List.take_of_length_le (by omega)]
theorem cut_from (xs : List V) (i : Nat) : cutV xs (some (i : Int)) none = xs.drop i := by
  unfold cutV
  rw [HT.sIx_none, HT.sIx_nat]
  by_cases h : i ≤ xs.length
  · rw [Nat.min_eq_left h, List.take_of_length_le (by rw [List.length_drop]; omega)]
  · rw [Nat.min_eq_right (by omega), List.drop_of_length_le (Nat.le_refl _), List.drop_of_length_le (show xs.length ≤ i by omega), List.take_nil]
theorem cut_mid (xs : List V) (i j : Nat) : cutV xs (some (i : Int)) (some (j : Int)) = (xs.drop i).take (j - i) := by
  unfold cutV
  rw [HT.sIx_nat, HT.sIx_nat]
  by_cases h : i ≤ xs.length
  · rw [Nat.min_eq_left h]
    by_cases h2 : j ≤ xs.length
    · rw [Nat.min_eq_left h2]
    · rw [Nat.min_eq_right (by omega), List.take_of_length_le (by rw [List.length_drop]; omega), List.take_of_length_le (by rw [List.length_drop]; omega)]
  · rw [Nat.min_eq_right (by omega : xs.length ≤ i), List.drop_of_length_le (Nat.le_refl _), List.drop_of_length_le (show xs.length ≤ i by omega)]
    simp
theorem el_to {th : TE} {ns : List Int} {i : Nat} (h : EvS K te σ H (ns.map V.int)) (h2 : Ev th σ H (.int i)) : EvL (tSl (rSlL K) te tNoPart (tPart th)) σ H ((ns.take i).map V.int) :=
  EvL.is (el_slS h eo_none (eo_some h2)) (by rw [List.map_take]; exact cut_to _ i)
theorem el_from {th : TE} {ns : List Int} {i : Nat} (h : EvS K te σ H (ns.map V.int)) (h2 : Ev th σ H (.int i)) : EvL (tSl (rSlL K) te (tPart th) tNoPart) σ H ((ns.drop i).map V.int) :=
  EvL.is (el_slS h (eo_some h2) eo_none) (by rw [List.map_drop]; exact cut_from _ i)
theorem el_mid {t1 t2 : TE} {ns : List Int} {i j : Nat} (h : EvS K te σ H (ns.map V.int)) (h1 : Ev t1 σ H (.int i)) (h2 : Ev t2 σ H (.int j)) : EvL (tSl (rSlL K) te (tPart t1) (tPart t2)) σ H (((ns.drop i).take (j - i)).map V.int) :=
  EvL.is (el_slS h (eo_some h1) (eo_some h2)) (by rw [List.map_take, List.map_drop]; exact cut_mid _ i j)
section
variable {D : Ends} {tz : TS} {sp : Sp} {dvs vs : List V} {E : XK} {tA : TA}
/-- x = f(..), whatever f promises -/
theorem q_asgC {i : Nat} (h : EvA tA σ H vs) (k : ∀ H1, Ex H H1 → sp (vs ++ dvs) H1 (fun x H2 => tz D (σ.set i (some x)) H2) E) : tSeq (tAsg (tCall sp dvs E tA) (gName i)) tz D σ H := h H (Ex.refl H) _ fun H1 e => k H1 e
theorem s_asgC {i : Nat} (h : EvA tA σ H vs) (k : ∀ H1, Ex H H1 → sp (vs ++ dvs) H1 (fun x H2 => D.nx (σ.set i (some x)) H2) E) : tAsg (tCall sp dvs E tA) (gName i) D σ H := h H (Ex.refl H) _ fun H1 e => k H1 e
theorem q_dropC (h : EvA tA σ H vs) (k : ∀ H1, Ex H H1 → sp (vs ++ dvs) H1 (fun _ H2 => tz D σ H2) E) : tSeq (tDrop (tCall sp dvs E tA)) tz D σ H := h H (Ex.refl H) _ fun H1 e => k H1 e
theorem s_retC (h : EvA tA σ H vs) (k : ∀ H1, Ex H H1 → sp (vs ++ dvs) H1 D.rt E) : tRet (tCall sp dvs E tA) D σ H := h H (Ex.refl H) _ fun H1 e => k H1 e
end
theorem gl_get {ns : List Int} {i : Nat} (h : i < ns.length) : ns[i]? = some (ns.getD i 0) := by
  rw [List.getD_eq_getElem?_getD, List.getElem?_eq_getElem h]
  rfl
theorem q_asgRaw {te : TE} {i : Nat} {D : Ends} {tz : TS} (P : V → Hp → Prop) (h : ∀ Q : VK, (∀ x H2, P x H2 → Q x H2) → te σ H Q) (k : ∀ x H2, P x H2 → tz D (σ.set i (some x)) H2) : tSeq (tAsg te (gName i)) tz D σ H := h _ k
/-- a, b = a pair -/
theorem q_asgT {te : TE} {i j : Nat} {D : Ends} {tz : TS} (P : V → V → Hp → Prop) (h : ∀ Q : VK, (∀ t x y H2, P x y H2 → SqT K H2 t [x, y] → Q (.ref t) H2) → te σ H Q) (k : ∀ x y H2, P x y H2 → tz D ((σ.set i (some x)).set j (some y)) H2) :
    tSeq (tAsg te (gTup K 2 (gCons (gName i) (gCons (gName j) gNil)))) tz D σ H := h _ fun t x y H2 hP hT => ⟨t, [x, y], rfl, hT, rfl, x, [y], rfl, y, [], rfl, rfl, k x y H2 hP⟩
/-- the law's cell -/
def cellI (ns : List Int) (k : Int) : Int := ns.getD k.toNat 0
theorem cellI_in {ns : List Int} {k : Int} (h0 : 0 ≤ k) (h : k < ns.length) : ns[k.toNat]? = some (cellI ns k) := by
  unfold cellI
  rw [List.getD_eq_getElem?_getD, List.getElem?_eq_getElem (by omega)]
  rfl
theorem cellI_out {ns : List Int} {k : Int} (h : ¬ k < ns.length) : cellI ns k = 0 := by
  unfold cellI
  rw [List.getD_eq_getElem?_getD, List.getElem?_eq_none (by omega)]
  rfl
end
theorem Ex.get {H H' : Hp} {a : Addr} {o : HO} (e : Ex H H') (h : H a = some o) : H' a = some o := e a o h
local macro_rules | `(tactic| walk_at "hp") => `(tactic| first
  | assumption
  | exact upd_same
  | (refine' Ex.get (by assumption) ?h1; (case h1 => walk_at "hp")))
local macro_rules | `(tactic| walk_at "ex") => `(tactic| first
  | assumption
  | exact Ex.refl _
  | (refine' Ex.trans ?h1 (by assumption); (case h1 => walk_at "ex")))
local macro_rules | `(tactic| walk_at "sq") => `(tactic| first
  | assumption
  | (refine' sq_of ?h1; (case h1 => walk_at "hp"))
  | (refine' ex_l (by assumption) ?h1; (case h1 => walk_at "sq")))
local macro_rules | `(tactic| walk_at "evs") => `(tactic| first
  | (refine' Ev.s ?h1 ?h2; (case h1 => exact ev_var rfl); (case h2 => walk_at "sq"))
  | (refine' EvR.s ?h1; (case h1 => walk_at "evr")))
local macro_rules | `(tactic| walk_at "evr") => `(tactic| first
  | (refine' Ev.r ?h1 ?h2; (case h1 => exact ev_var rfl); (case h2 => walk_at "hp"))
  | (refine' EvL.r ?h1; (case h1 => walk_at "el")))
local macro_rules | `(tactic| walk_at "eo") => `(tactic| first
  | exact eo_none
  | (refine' eo_some ?h1; (case h1 => walk_at "ev")))
local macro_rules | `(tactic| walk_at "el") => `(tactic| first
  | (refine' el_lst ?h1 ?h2; (case h1 => walk_at "ea"); (case h2 => exact Nat.le_of_ble_eq_true rfl))
  | (refine' el_cat ?h1 ?h2 ?h3; (case h1 => walk_at "evr"); (case h2 => walk_at "evr"); (case h3 => walk_at "len"))
  | (refine' el_rep ?h1 ?h2 ?h3 ?h4; (case h1 => walk_at "evr"); (case h2 => walk_at "ev"); (case h3 => walk_at "side2"); (case h4 => walk_at "len"))
  | (refine' el_of ?h1; (case h1 => walk_at "evs"))
  | (refine' el_to ?h1 ?h2; (case h1 => walk_at "evs"); (case h2 => walk_at "ev"))
  | (refine' el_from ?h1 ?h2; (case h1 => walk_at "evs"); (case h2 => walk_at "ev"))
  | (refine' el_mid ?h1 ?h2 ?h3; (case h1 => walk_at "evs"); (case h2 => walk_at "ev"); (case h3 => walk_at "ev"))
  | (refine' el_slS ?h1 ?h2 ?h3; (case h1 => walk_at "evs"); (case h2 => walk_at "eo"); (case h3 => walk_at "eo"))
  | walk_at "elmore")
local macro_rules | `(tactic| walk_at "evmore") => `(tactic| first
  | (refine' ev_lenS ?h1; (case h1 => walk_at "evs"))
  | (refine' ev_sum ?h1; (case h1 => walk_at "evs"))
  | (refine' ev_eqI ?h1 ?h2; (case h1 => walk_at "evs"); (case h2 => walk_at "evs"))
  | (refine' ev_neI ?h1 ?h2; (case h1 => walk_at "evs"); (case h2 => walk_at "evs"))
  | (refine' ev_at ?h1 ?h2 ?h3; (case h1 => walk_at "evs"); (case h2 => walk_at "ev"); (case h3 => walk_at "at"))
  | (refine' ev_isiL ?h1 ?h2; (case h1 => walk_at "ev"); (case h2 => walk_at "hp"))
  | walk_at "evown")
local macro_rules | `(tactic| walk_at "at") => `(tactic| first
  | exact at_of rfl (at_int (by assumption))
  | exact at_of rfl (by assumption))
local macro_rules | `(tactic| walk_at "asgL") => `(tactic| (refine' q_asgL ?h ?h1; (case h => walk_at "el")))
local macro_rules | `(tactic| walk_at "retL") => `(tactic| (refine' s_retL ?h ?h1; (case h => walk_at "el")))

/-- a walk's reading said in other words -/
theorem PI.k {X : Cx} {tg e : Expr} {wi wi' : TI} (h : PI X tg e wi) (q : wi = wi') : PI X tg e wi' := q ▸ h
/-! ### comprehensions whose items are said in a list -/
theorem et_yes {σ : L2.St} {H : Hp} : EvT tYes σ H true := fun H1 _ _ q => q H1 (Ex.refl H1)
section
variable {K : PySem.W.Frag} {σ : L2.St} {H : Hp} {t1 t2 te : TE} {xs ys zs : List V} {vs : List Nat}
theorem take_snoc {zs : List V} {i : Nat} {z : V} (h : zs[i]? = some z) : zs.take (i + 1) = zs.take i ++ [z] := by
  rw [List.take_add_one, h]
  rfl
theorem el_lcZ {j1 j2 : Nat} (zs : List V) (h1 : EvS K t1 σ H xs) (h2 : EvS K t2 σ H ys) (hz : zs.length = min xs.length ys.length) (hb : zs.length ≤ 50000)
    (hw : ∀ x y, wipe (((wipe σ vs).set j1 (some x)).set j2 (some y)) vs = wipe σ vs)
    (he : ∀ (i : Nat) (x y : V) H1, Ex H H1 → xs[i]? = some x → ys[i]? = some y → ∃ z, zs[i]? = some z ∧ Ev te (((wipe σ vs).set j1 (some x)).set j2 (some y)) H1 z) :
    EvL (tLc (iZip K (tCons t1 (tCons t2 tNil))) (gTup K 2 (gCons (gName j1) (gCons (gName j2) gNil))) tYes te vs) σ H zs := fun H0 e Q q =>
  h1 H0 e _ fun p H1 e1 hp => h2 H1 (e.trans e1) _ fun r H2 e2 hr => ⟨p, r, xs, ys, rfl, ex_l e2 hp, hr, fun D hD =>
    ⟨fun i m H' => m = zs.length - i ∧ i ≤ zs.length ∧ Ex H2 H' ∧ H' D = some (.lst (zs.take i)), ⟨zs.length, rfl, Nat.zero_le _, Ex.new hD, upd_same⟩, by
      rintro i m H' ⟨rfl, hi, ex, hd⟩
      have qx : SqL K H' p xs := ex_l (e2.trans ex) hp
      have qy : SqL K H' r ys := ex_l ex hr
      by_cases hlt : i < zs.length
      · have hx : xs[i]? = some xs[i] := List.getElem?_eq_getElem (by omega)
        have hy : ys[i]? = some ys[i] := List.getElem?_eq_getElem (by omega)
        refine .inr ⟨⟨xs, ys, _, _, qx, qy, hx, hy⟩, fun H3 => i + 1 ≤ zs.length ∧ Ex H2 H3 ∧ H3 D = some (.lst (zs.take (i + 1))), fun H3 h3 => ⟨zs.length - (i + 1), by omega, rfl, h3⟩, fun v H3 hv => ?_⟩
        obtain ⟨T, x, y, rfl, hT, rfl, f1, f2⟩ := hv
        have ex3 : Ex H' (upd H' T (.tup [x, y])) := Ex.new hT
        obtain ⟨z, hz1, hz2⟩ := he i x y (upd H' T (.tup [x, y])) ((((e.trans e1).trans e2).trans ex).trans ex3) (f1 _ qx) (f2 _ qy)
        refine ⟨T, [x, y], rfl, st_of upd_same, rfl, x, [y], rfl, y, [], rfl, rfl, hw x y, ?_⟩
        refine hz2 _ (Ex.refl _) _ fun H4 e4 => ⟨zs.take i, e4 _ _ (ex3 _ _ hd), sz_lt (by rw [List.length_take]; omega), hlt, ?_, ?_⟩
        · exact Ex.mut ((ex.trans ex3).trans e4) hD
        · rw [upd_same, take_snoc hz1]
      · have ei : i = zs.length := by omega
        refine .inl ⟨⟨xs, ys, qx, qy, by omega⟩, ?_⟩
        rw [ei, List.take_length] at hd
        exact q D H' (fresh_back (e1.trans e2) hD) ((e1.trans e2).trans ex) hd⟩⟩
/-- over a list, each item kept -/
theorem el_lcS {j : Nat} (zs : List V) (h1 : EvS K t1 σ H xs) (hz : zs.length = xs.length) (hb : zs.length ≤ 50000) (hw : ∀ x, wipe ((wipe σ vs).set j (some x)) vs = wipe σ vs)
    (he : ∀ (i : Nat) (x : V) H1, Ex H H1 → xs[i]? = some x → ∃ z, zs[i]? = some z ∧ Ev te ((wipe σ vs).set j (some x)) H1 z) :
    EvL (tLc (iList K t1) (gName j) tYes te vs) σ H zs := fun H0 e Q q =>
  h1 H0 e _ fun p H1 e1 hp => ⟨p, rfl, ⟨xs, hp⟩, fun D hD => lc_list (xs := xs) (fun i H' => Ex H1 H' ∧ H' D = some (.lst (zs.take i))) ⟨Ex.new hD, upd_same⟩ (fun i H' _ h => ex_l h.1 hp)
    (fun i x H' hi h => ⟨hw x, by
      obtain ⟨z, hz1, hz2⟩ := he i x H' ((e.trans e1).trans h.1) hi
      have hl : i < xs.length := (List.getElem?_eq_some_iff.mp hi).1
      refine hz2 H' (Ex.refl _) _ fun H4 e4 => ⟨zs.take i, e4 _ _ h.2, sz_lt (by rw [List.length_take]; omega), Ex.mut (h.1.trans e4) hD, ?_⟩
      rw [upd_same, take_snoc hz1]⟩)
    (fun H' h => q D H' (fresh_back e1 hD) (e1.trans h.1) (by rw [h.2, ← hz, List.take_length]))⟩
/-- over range(n) -/
theorem el_lcR {ta : TA} {n : Int} {j : Nat} (zs : List V) (h1 : EvA ta σ H [.int n]) (hn : -100000 ≤ n) (hz : zs.length = n.toNat) (hb : zs.length ≤ 50000) (hw : ∀ x, wipe ((wipe σ vs).set j (some x)) vs = wipe σ vs)
    (he : ∀ (i : Nat) H1, Ex H H1 → i < zs.length → ∃ z, zs[i]? = some z ∧ Ev te ((wipe σ vs).set j (some (.int (i : Int)))) H1 z) :
    EvL (tLc (iRng1 ta) (gName j) tYes te vs) σ H zs := fun H0 e Q q =>
  h1 H0 e _ fun H1 e1 => ⟨n, rfl, by omega, by omega, fun D hD => lc_range (lo := 0) (n := n.toNat) (fun i H' => Ex H1 H' ∧ H' D = some (.lst (zs.take i))) ⟨Ex.new hD, upd_same⟩
    (fun i H' hi h => by
      have e0 : (0 : Int) + (i : Int) = (i : Int) := Int.zero_add _
      rw [e0]
      obtain ⟨z, hz1, hz2⟩ := he i H' ((e.trans e1).trans h.1) (by omega)
      refine ⟨hw _, hz2 H' (Ex.refl _) _ fun H4 e4 => ⟨zs.take i, e4 _ _ h.2, sz_lt (by rw [List.length_take]; omega), Ex.mut (h.1.trans e4) hD, ?_⟩⟩
      rw [upd_same, take_snoc hz1])
    (fun H' h => q D H' (fresh_back e1 hD) (e1.trans h.1) (by rw [h.2, show n.toNat = zs.length by omega, List.take_length]))⟩
/-- y = [.. for x in f(..)], whatever f promises -/
theorem s_asgLC {sp : Sp} {dvs args : List V} {E : XK} {ta : TA} {g : TG} {tt : TT} {D : Ends} {i : Nat} (h : EvA ta σ H args) (k : ∀ H1, Ex H H1 → sp (args ++ dvs) H1 (fun x H2 => tAsg (tLc (iList K (tC x)) g tt te vs) (gName i) D σ H2) E) :
    tAsg (tLc (iList K (tCall sp dvs E ta)) g tt te vs) (gName i) D σ H := h H (Ex.refl H) _ fun H1 e => k H1 e
theorem q_asgLC {sp : Sp} {dvs args : List V} {E : XK} {ta : TA} {g : TG} {tt : TT} {D : Ends} {i : Nat} {tz : TS} (h : EvA ta σ H args) (k : ∀ H1, Ex H H1 → sp (args ++ dvs) H1 (fun x H2 => tSeq (tAsg (tLc (iList K (tC x)) g tt te vs) (gName i)) tz D σ H2) E) :
    tSeq (tAsg (tLc (iList K (tCall sp dvs E ta)) g tt te vs) (gName i)) tz D σ H := h H (Ex.refl H) _ fun H1 e => k H1 e
theorem s_retLC {sp : Sp} {dvs args : List V} {E : XK} {ta : TA} {g : TG} {tt : TT} {D : Ends} (h : EvA ta σ H args) (k : ∀ H1, Ex H H1 → sp (args ++ dvs) H1 (fun x H2 => tRet (tLc (iList K (tC x)) g tt te vs) D σ H2) E) :
    tRet (tLc (iList K (tCall sp dvs E ta)) g tt te vs) D σ H := h H (Ex.refl H) _ fun H1 e => k H1 e
end

/-- [.. for j in range(lo, n)] -/
theorem el_lcR2 {σ : L2.St} {H : Hp} {te : TE} {vs : List Nat} {ta : TA} {lo n : Int} {j : Nat} (zs : List V) (h1 : EvA ta σ H [.int lo, .int n]) (hn : -100000 ≤ lo ∧ lo ≤ 100000 ∧ -100000 ≤ n ∧ n ≤ 100000) (hz : zs.length = (n - lo).toNat) (hb : zs.length ≤ 50000) (hw : ∀ x, wipe ((wipe σ vs).set j (some x)) vs = wipe σ vs)
    (he : ∀ (i : Nat) H1, Ex H H1 → i < zs.length → ∃ z, zs[i]? = some z ∧ Ev te ((wipe σ vs).set j (some (.int (lo + (i : Int))))) H1 z) :
    EvL (tLc (iRng2 ta) (gName j) tYes te vs) σ H zs := fun H0 e Q q =>
  h1 H0 e _ fun H1 e1 => ⟨lo, n, rfl, ⟨by omega, by omega, by omega, by omega⟩, fun D hD => lc_range (lo := lo) (n := (n - lo).toNat) (fun i H' => Ex H1 H' ∧ H' D = some (.lst (zs.take i))) ⟨Ex.new hD, upd_same⟩
    (fun i H' hi h => by
      obtain ⟨z, hz1, hz2⟩ := he i H' ((e.trans e1).trans h.1) (by omega)
      refine ⟨hw _, hz2 H' (Ex.refl _) _ fun H4 e4 => ⟨zs.take i, e4 _ _ h.2, sz_lt (by rw [List.length_take]; omega), Ex.mut (h.1.trans e4) hD, ?_⟩⟩
      rw [upd_same, take_snoc hz1])
    (fun H' h => q D H' (fresh_back e1 hD) (e1.trans h.1) (by rw [h.2, ← hz, List.take_length]))⟩

/-- [.. for i, x in enumerate(xs)] -/
theorem el_lcE {K : PySem.W.Frag} {σ : L2.St} {H : Hp} {t1 te : TE} {xs : List V} {vs : List Nat} {j1 j2 : Nat} (zs : List V) (h1 : EvS K t1 σ H xs) (hz : zs.length = xs.length) (hb : zs.length ≤ 50000)
    (hw : ∀ x y, wipe (((wipe σ vs).set j1 (some x)).set j2 (some y)) vs = wipe σ vs)
    (he : ∀ (i : Nat) (x : V) H1, Ex H H1 → xs[i]? = some x → ∃ z, zs[i]? = some z ∧ Ev te (((wipe σ vs).set j1 (some (.int (i : Int)))).set j2 (some x)) H1 z) :
    EvL (tLc (iEnum K (tCons t1 tNil)) (gTup K 2 (gCons (gName j1) (gCons (gName j2) gNil))) tYes te vs) σ H zs := fun H0 e Q q =>
  h1 H0 e _ fun p H1 e1 hp => ⟨p, xs, rfl, hp, fun D hD =>
    ⟨fun i m H' => m = zs.length - i ∧ i ≤ zs.length ∧ Ex H1 H' ∧ H' D = some (.lst (zs.take i)), ⟨zs.length, rfl, Nat.zero_le _, Ex.new hD, upd_same⟩, by
      rintro i m H' ⟨rfl, hi, ex, hd⟩
      have qx : SqL K H' p xs := ex_l ex hp
      by_cases hlt : i < zs.length
      · have hx : xs[i]? = some xs[i] := List.getElem?_eq_getElem (by omega)
        refine .inr ⟨⟨xs, _, qx, hx⟩, fun H3 => i + 1 ≤ zs.length ∧ Ex H1 H3 ∧ H3 D = some (.lst (zs.take (i + 1))), fun H3 h3 => ⟨zs.length - (i + 1), by omega, rfl, h3⟩, fun v H3 hv => ?_⟩
        obtain ⟨T, x, rfl, hT, rfl, f1⟩ := hv
        have ex3 : Ex H' (upd H' T (.tup [.int (i : Int), x])) := Ex.new hT
        obtain ⟨z, hz1, hz2⟩ := he i x (upd H' T (.tup [.int (i : Int), x])) (((e.trans e1).trans ex).trans ex3) (f1 _ qx)
        refine ⟨T, [.int (i : Int), x], rfl, st_of upd_same, rfl, .int (i : Int), [x], rfl, x, [], rfl, rfl, hw _ x, ?_⟩
        refine hz2 _ (Ex.refl _) _ fun H4 e4 => ⟨zs.take i, e4 _ _ (ex3 _ _ hd), sz_lt (by rw [List.length_take]; omega), hlt, ?_, ?_⟩
        · exact Ex.mut ((ex.trans ex3).trans e4) hD
        · rw [upd_same, take_snoc hz1]
      · have ei : i = zs.length := by omega
        refine .inl ⟨⟨xs, qx, by omega⟩, ?_⟩
        rw [ei, List.take_length] at hd
        exact q D H' (fresh_back e1 hD) (e1.trans ex) hd⟩⟩

/-! ### calls with keywords, defaults -/
theorem kwAllN {K : PySem.W.Frag} {D : Addr} : ∀ p ∈ ([] : List (Str × V)), ∃ u, PySem.W.nsIn K D p.1 = some (some u) ∧ RelV p.2 u := fun p hp => by cases hp
theorem kwAllC {K : PySem.W.Frag} {D : Addr} {q : Str × V} {l : List (Str × V)} (h : ∃ u, PySem.W.nsIn K D q.1 = some (some u) ∧ RelV q.2 u) (hl : ∀ p ∈ l, ∃ u, PySem.W.nsIn K D p.1 = some (some u) ∧ RelV p.2 u) : ∀ p ∈ q :: l, ∃ u, PySem.W.nsIn K D p.1 = some (some u) ∧ RelV p.2 u := fun p hp => by
  rcases List.mem_cons.mp hp with rfl | hp
  · exact h
  · exact hl p hp
theorem kwAll1 {K : PySem.W.Frag} {D : Addr} {q : Str × V} (h : ∃ u, PySem.W.nsIn K D q.1 = some (some u) ∧ RelV q.2 u) : ∀ p ∈ [q], ∃ u, PySem.W.nsIn K D p.1 = some (some u) ∧ RelV p.2 u := fun p hp => by
  rcases List.mem_cons.mp hp with rfl | hp
  · exact h
  · cases hp
section
variable {K : PySem.W.Frag} {x qual : Str} {params : Arguments} {body : List Stmt} {scope : Scope} {dvs : List V} {kws : List (Str × V)} {f : Addr} {fd : FuncData} {ps : List Str}
/-- f(a, .., k = v, ..), nothing left to a default, no defaults of place -/
theorem fund_kb0 {g : List Value → List Value → List Value} {gV : List V → List V → List V} (F : FunD K x qual params body scope [] kws f fd) (n : Nat) (ks : List Str)
    (hrel : ∀ {vs : List V} {us : List Value} {zs : List V} {ws : List Value}, Vals vs us → Vals zs ws → Vals (gV vs zs) (g us ws))
    (h : ∀ (kV doc pm : Value) (an : Option Addr) (cdv ct : Value) (us ws : List Value), us.length = n → ws.length = ks.length → bindArgs (PySem.W.fnOf x qual params body scope .none kV doc pm an cdv ct) ⟨us, ks.zip ws⟩ = pure (ps.zip (g us ws))) :
    KBn K fd ps n ks g gV := by
  obtain ⟨oc, od, dV, kV, doc, pm, an, cdv, ct, osl, rfl, lk, hcd, hD, hK⟩ := F.ex
  rcases hD with ⟨_, rfl⟩ | ⟨e, _⟩
  · exact ⟨fun s us ws X l1 l2 => .of_eq (h kV doc pm an cdv ct us ws l1 l2), hrel⟩
  · exact absurd rfl e
/-- the same of a def with defaults of place -/
theorem fund_kb1 {g : List Value → List Value → List Value} {gV : List V → List V → List V} (F : FunD K x qual params body scope dvs kws f fd) (hd : dvs ≠ []) (n : Nat) (ks : List Str)
    (hrel : ∀ {vs : List V} {us : List Value} {zs : List V} {ws : List Value}, Vals vs us → Vals zs ws → Vals (gV vs zs) (g us ws))
    (h : ∀ (T : Addr) (kV doc pm : Value) (an : Option Addr) (cdv ct : Value) (us its ws : List Value), us.length = n → its.length = dvs.length → ws.length = ks.length →
      ∃ k, bindArgs (PySem.W.fnOf x qual params body scope (.ref T) kV doc pm an cdv ct) ⟨us, ks.zip ws⟩ = seqItems? (.ref T) >>= k ∧ k (some its.toArray) = pure (ps.zip (g us ws))) :
    KBn K fd ps n ks g gV := by
  obtain ⟨oc, od, dV, kV, doc, pm, an, cdv, ct, osl, rfl, lk, hcd, hD, hK⟩ := F.ex
  rcases hD with ⟨e, _⟩ | ⟨_, T, o, its, m, rfl, lT, oT, rT⟩
  · exact absurd e hd
  · refine ⟨fun s us ws X l1 l2 => ?_, hrel⟩
    obtain ⟨k, e1, e2⟩ := h T kV doc pm an cdv ct us its ws l1 rT.length.symm l2
    refine BindsTo.of_looks fun M => ?_
    rw [e1]
    exact looks_items X lT oT (.of_pure e2)
end

/-! ### data at any depth -/
mutual
theorem dp_ex {K : PySem.W.Frag} {H H' : Hp} (e : Ex H H') : ∀ (d : PyData) (v : V), Dp K H v d → Dp K H' v d
  | .none, _, h => by cases h; exact .non
  | .bool b, _, h => by cases h; exact .bl b
  | .int i, _, h => by cases h; exact .int i
  | .str x, _, h => by cases h; exact .str x
  | .list ds, _, h => by cases h with | lst hs ha => exact .lst (ex_l e hs) (dpa_ex e ds _ ha)
  | .tuple ds, _, h => by cases h with | tup hs ha => exact .tup (ex_t e hs) (dpa_ex e ds _ ha)
  | .dict _, _, h => by cases h
theorem dpa_ex {K : PySem.W.Frag} {H H' : Hp} (e : Ex H H') : ∀ (ds : List PyData) (vs : List V), DpAll K H vs ds → DpAll K H' vs ds
  | [], _, h => by cases h; exact .nil
  | d :: ds, _, h => by cases h with | cons h1 h2 => exact .cons (dp_ex e d _ h1) (dpa_ex e ds _ h2)
end
def EvD (K : PySem.W.Frag) (te : TE) (σ : L2.St) (H : Hp) (d : PyData) : Prop := ∀ H1, Ex H H1 → ∀ Q : VK, (∀ v H2, Ex H1 H2 → Dp K H2 v d → Q v H2) → te σ H1 Q
section
variable {K : PySem.W.Frag} {σ : L2.St} {H : Hp} {te ta tb t1 t2 t3 : TE} {d d1 d2 d3 : PyData} {v : V}
theorem EvD.of (h : Ev te σ H v) (hd : Dp K H v d) : EvD K te σ H d := fun H1 e Q q => h H1 e _ fun H2 e2 => q v H2 e2 (dp_ex (e.trans e2) d v hd)
theorem EvS.toD {ns : List Int} (h : EvS K te σ H (ns.map V.int)) : EvD K te σ H (.list (ns.map .int)) := fun H1 e Q q => h H1 e _ fun p H2 e2 hp => q (.ref p) H2 e2 (.lst hp (dp_ints ns))
theorem ed_tup2 (h1 : EvD K t1 σ H d1) (h2 : EvD K t2 σ H d2) : EvD K (tTup (tCons t1 (tCons t2 tNil))) σ H (.tuple [d1, d2]) := fun H1 e Q q => h1 H1 e _ fun v H2 e2 hv => h2 H2 (e.trans e2) _ fun u H3 e3 hu =>
  ⟨sz_of (show 2 ≤ 100000 by decide), fun p hp => q (.ref p) _ ((e2.trans e3).trans (Ex.new hp)) (.tup (st_of upd_same) (.cons (dp_ex (e3.trans (Ex.new hp)) _ _ hv) (.cons (dp_ex (Ex.new hp) _ _ hu) .nil)))⟩
theorem ev_eqDD (h1 : EvD K ta σ H d) (h2 : EvD K tb σ H d) (hs : SeqAt.shaped d = true) : Ev (tOp (rEqD K) ta tb) σ H (.bl true) := fun H1 e Q q => h1 H1 e _ fun v H2 e2 hv => h2 H2 (e.trans e2) _ fun u H3 e3 hu =>
  ⟨d, d, dp_ex e3 d v hv, hu, hs, hs, by rw [SeqAt.eqv_refl d (SeqAt.canLay_of_shaped hs)]; exact q H3 (e2.trans e3)⟩
theorem ev_neDD (h1 : EvD K ta σ H d) (h2 : EvD K tb σ H d) (hs : SeqAt.shaped d = true) : Ev (tOp (rNeD K) ta tb) σ H (.bl false) := fun H1 e Q q => h1 H1 e _ fun v H2 e2 hv => h2 H2 (e.trans e2) _ fun u H3 e3 hu =>
  ⟨d, d, dp_ex e3 d v hv, hu, hs, hs, by rw [SeqAt.eqv_refl d (SeqAt.canLay_of_shaped hs)]; exact q H3 (e2.trans e3)⟩
end
theorem shaped_pair (ns ms : List Int) : SeqAt.shaped (.tuple [.list (ns.map .int), .list (ms.map .int)]) = true := by
  unfold SeqAt.shaped
  have h1 := canLay_ints ns
  have h2 := depth_ints ns
  have h3 := canLay_ints ms
  have h4 := depth_ints ms
  rw [Bool.and_eq_true, decide_eq_true_iff]
  refine ⟨by simp only [PyData.canLay0, PyData.canLayAll0, h1, h3, Bool.and_self], ?_⟩
  simp only [PyData.depth, PyData.depthAll]
  omega

/-! ### max(xs, default=d), bit_length -/
def maxI (d : Int) : List Int → Int
  | [] => d
  | n :: r => r.foldl max n
def rMaxDef (K : PySem.W.Frag) : List V → List V → Hp → VK → Prop := fun vs zs H Q => ∃ (a : Addr) (ns : List Int) (d : Int), vs = [.ref a] ∧ zs = [.int d] ∧ SqL K H a (ns.map V.int) ∧ Q (.int (maxI d ns)) H
theorem alike_ints (ns : List Int) : PySem.W.AlikeAll (ns.map PyData.int) := by
  refine ⟨fun x hx y hy => ?_, fun x hx => ?_⟩
  · obtain ⟨n, _, rfl⟩ := List.mem_map.mp hx
    obtain ⟨m, _, rfl⟩ := List.mem_map.mp hy
    rfl
  · obtain ⟨n, _, rfl⟩ := List.mem_map.mp hx
    intro h
    cases h
theorem cr_maxDef {X : Cx} (hu : X.A.units + 64 < cLine) (hc : X.calm = true := by rfl) : CallRK X (.builtin "max") [Str.ofString "default"] (rMaxDef X.K) := by
  intro pins s σ H vs zs us ws Q I r rz h
  obtain ⟨a, ns, d, rfl, rfl, hs, q⟩ := h
  obtain rfl := Vals.ref1 r
  obtain ⟨w1, rfl, e1⟩ := vals1 rz
  obtain ⟨its, rv, hl, _⟩ := I.list hs
  obtain ⟨as, hr⟩ := Dp.readsAll I (ns.map PyData.int) _ its (dp_ints ns) rv
  have hd := depth_ints ns
  refine PySem.W.max_list_default (xs := ns.map PyData.int) (I.ok.hd hc) hl.isList (by simpa using hr) (alike_ints ns) (by omega) (fun h0 h' tk hk => ?_) fun y ys i v h' tk bs he hv hrd hk => ?_
  · cases ns with
    | nil => exact ⟨.int d, H, I.kept hk, e1, q⟩
    | cons x r => cases h0
  · cases ns with
    | nil => cases he
    | cons x r =>
      injection he with h1 h2
      subst h1 h2
      rw [PySem.W.maxD_ints] at hrd
      cases hrd
      exact ⟨.int _, H, I.kept hk, ⟨_, rfl⟩, q⟩
theorem ev_maxD {K : PySem.W.Frag} {σ : L2.St} {H : Hp} {t td : TE} {ns : List Int} {d : Int} (h : EvS K t σ H (ns.map V.int)) (hd : Ev td σ H (.int d)) : Ev (tCKw (rMaxDef K) (tCons t tNil) (tCons td tNil)) σ H (.int (maxI d ns)) := fun H1 e Q q =>
  h H1 e _ fun p H2 e2 hp => hd H2 (e.trans e2) _ fun H3 e3 => ⟨p, ns, d, rfl, rfl, ex_l e3 hp, q H3 (e2.trans e3)⟩
theorem ev_bits {σ : L2.St} {H : Hp} {to : TE} {i : Int} (h : Ev to σ H (.int i)) : Ev (tBits to) σ H (.int ((Builtin.Int.intBits i : Nat) : Int)) := fun H1 e Q q => h H1 e _ fun H2 e2 => ⟨i, rfl, q H2 e2⟩

theorem foldl_max : ∀ (ns : List Int) (d : Int), (ns.foldl max d = d ∨ ns.foldl max d ∈ ns) ∧ d ≤ ns.foldl max d ∧ ∀ n ∈ ns, n ≤ ns.foldl max d
  | [], d => ⟨.inl rfl, Int.le_refl _, fun n hn => by cases hn⟩
  | x :: r, d => by
    obtain ⟨h1, h2, h3⟩ := foldl_max r (max d x)
    show (r.foldl max (max d x) = d ∨ r.foldl max (max d x) ∈ x :: r) ∧ d ≤ r.foldl max (max d x) ∧ ∀ n ∈ x :: r, n ≤ r.foldl max (max d x)
    refine ⟨?_, by omega, fun n hn => ?_⟩
    · rcases h1 with h | h
      · rw [h]
        by_cases hd : d ≤ x
        · exact .inr (by rw [Int.max_eq_right hd]; exact List.mem_cons_self ..)
        · exact .inl (by omega)
      · exact .inr (List.mem_cons_of_mem _ h)
    · rcases List.mem_cons.mp hn with rfl | hn
      · omega
      · exact h3 n hn

/-! ### list(reversed(a list)) -/
theorem extend_rev {prog : Program} {w : World} {A : Around} {s : Shared} {R : Result → Shared → Prop} {it l S : Addr} {items : Array Value} {c0 : Nat} {res : Value} (hh : A.handled = none) (hit : s.heap.IsRevIter it l ((items.size : Int) - 1)) (hl : s.heap.IsList l items) (hne : l ≠ it) (hn : items.size ≤ sizeLine)
    (hS : s.heap.get? S = some { cls := .type "list", data := .seq #[] c0 }) (hSi : S ≠ it) (hSl : S ≠ l)
    (hR : ∀ (h' : Heap) (tk : Nat) (acc : Array Value) (c' : Nat), (∀ b o, b ≠ S → b ≠ it → s.heap.get? b = some o → h'.get? b = some o) → h'.get? S = some { cls := .type "list", dict := none, data := .seq acc c', slots := #[] } → ItemsOf (fun i v => items[items.size - 1 - i]? = some v) acc items.size → R (.ok (.ret res)) { s with heap := h', toks := tk }) :
    wpAny (model prog w) A.in1 (Builtin.List.listExtendWith (.ref S) (.ref it) res)
      (fun fin s' => match fin with | .done f => R (.ok f) s' | .again c' => c'.quiet = true ∧ codeAny (model prog w) A c' R s') (fun e s' => R (.error e) s') s := by
  have W := (Walks.listRev (prog := prog) (w := w) (A := A.in1) hh it l hne items).toS
  have hSf : S ∉ [it, l] := by simp only [List.mem_cons, List.not_mem_nil, or_false, not_or]; exact ⟨hSi, hSl⟩
  have hT : s.TypeIs (.ref it) "list_reverseiterator" := hit.typeIs
  have h1 : Builtin.List.listSameRef (.ref S) (.ref it) = false := by simp [Builtin.List.listSameRef, hSi]
  unfold Builtin.List.listExtendWith
  refine wpAny_bind (wpAny_typeOf hT ?_)
  rw [if_neg (by rw [h1]; decide)]
  refine wpAny_bind (wpAny_pyIter_revIter hit ?_)
  refine wpAny_bind (wpAny_holding ?_)
  unfold Builtin.List.listLengthHint
  refine wpAny_bind (wpAny_specialOf hT RT.nolen_lri ?_)
  show wpAny _ A.in1 (specialOf (Value.ref it) (Str.ofString "__length_hint__") >>= _) _ _ _
  refine wpAny_bind (wpAny_specialOf hT RT.hint_lri ?_)
  generalize hid : ("list_reverseiterator.__length_hint__" : String) = id0
  wp_delta
  rw [show splitId id0 = some ("list_reverseiterator", "__length_hint__") from by subst hid; decide +kernel]
  subst hid
  refine wpAny_bind (wpAny_isInstance (b := true) hT (by rw [isSubtype_type]; kernel_rfl) ?_)
  refine wpAny_pure ?_
  rw [if_neg (by decide)]
  have e0 : ((items.size : Nat) : Int) - 1 - ((0 : Nat) : Int) = (items.size : Int) - 1 := by omega
  refine wpAny_pure ⟨plainId_quiet F.plain_extend_loop _, codeAny_extend_loopS W hn S hSf _ items.size 0 _ _ _ rfl (Nat.zero_le _) ⟨Nat.zero_le _, by rw [e0]; exact hit, hl⟩ hS (ItemsOf.nil _) fun s' acc' c' hm hS' hacc => ?_⟩
  rw [Moved.eq_with hm]
  refine hR s'.heap s'.toks acc' c' (fun b o hb hb2 e => hm.heap b o (fun hmem => ?_) e) hS' hacc
  rcases List.mem_cons.mp hmem with e' | hmem
  · exact hb e'
  · exact hb2 (List.mem_singleton.mp hmem)
theorem call_list_rev {prog : Program} {w : World} {A : Around} {E : Value → Shared → Prop} {s : Shared} {Q : Value → Shared → Prop} {it l : Addr} {items : Array Value} (hh : A.handled = none) (hit : s.heap.IsRevIter it l ((items.size : Int) - 1)) (hl : s.heap.IsList l items) (hne : l ≠ it) (hn : items.size ≤ sizeLine)
    (hQ : ∀ (h' : Heap) (tk : Nat) (acc : Array Value) (c' : Nat), (∀ b o, b ≠ it → s.heap.get? b = some o → h'.get? b = some o) → h'.get? s.heap.objs.size = some { cls := .type "list", dict := none, data := .seq acc c', slots := #[] } → ItemsOf (fun i v => items[items.size - 1 - i]? = some v) acc items.size → Q (.ref s.heap.objs.size) { s with heap := h', toks := tk }) :
    wpAny (model prog w) A (call (.type "list") [.ref it]) Q E s := by
  refine callType_codes (Q₁ := fun obj s₁ => obj = .ref s.heap.objs.size ∧ s₁ = { s with heap := s.heap.push { cls := .type "list", data := .seq #[] } }) F.called_list (F.typeCall_list_1 _) F.entry_list_init
    (code_list_new _ ⟨rfl, rfl⟩) fun obj s₁ h₁ => ?_
  obtain ⟨rfl, rfl⟩ := h₁
  obtain ⟨S, hSs⟩ : ∃ S, S = s.heap.objs.size := ⟨_, rfl⟩
  rw [← hSs] at hQ ⊢
  have hS : (s.heap.push { cls := .type "list", data := .seq #[] }).get? S = some { cls := .type "list", data := .seq #[] } := by rw [hSs]; exact Heap.get?_push_size _ rfl
  obtain ⟨oi, hoi, _⟩ := id hit
  obtain ⟨ol, hol, _⟩ := id hl
  have hSi : S ≠ it := by rw [hSs]; exact Nat.ne_of_gt (Heap.lt_size hoi)
  have hSl : S ≠ l := by rw [hSs]; exact Nat.ne_of_gt (Heap.lt_size hol)
  refine ⟨⟨_, hS, rfl⟩, F.args_list_init_2 _ _, ?_⟩
  have hit1 : (s.heap.push { cls := .type "list", data := .seq #[] }).IsRevIter it l ((items.size : Int) - 1) := hit.at fun o e => Heap.get?_push_of_some _ e
  have hl1 : (s.heap.push { cls := .type "list", data := .seq #[] }).IsList l items := hl.push _
  have hk1 : ∀ b o, s.heap.get? b = some o → (s.heap.push { cls := .type "list", data := .seq #[] }).get? b = some o := fun b o e => Heap.get?_push_of_some _ e
  generalize s.heap.push { cls := .type "list", data := .seq #[] } = h1 at *
  show wpAny _ _ (do let old ← Builtin.List.listItems (.ref S); Builtin.List.listUpdate (.ref S) (fun _ => #[]); letGo old.toList.reverse; Builtin.List.listExtendWith (.ref S) (.ref it) .none) _ _ _
  refine wpAny_bind ?_
  unfold Builtin.List.listItems
  refine wpAny_bind (wpAny_seqItems hS rfl (wpAny_pure ?_))
  show wpAny _ _ (updateSeq S (fun _ => #[]) >>= fun _ => letGo (#[] : Array Value).toList.reverse >>= fun _ => Builtin.List.listExtendWith (.ref S) (.ref it) .none) _ _ _
  refine wpAny_bind (wpAny_updateSeq hS rfl ?_)
  have hS₂ := Heap.get?_update_self (Obj.mapSeq (fun _ => (#[] : Array Value))) hS rfl
  have oth : ∀ b o, b ≠ S → h1.get? b = some o → (h1.update S (Obj.mapSeq (fun _ => (#[] : Array Value)))).get? b = some o :=
    fun b o hb e => (Heap.get?_update_other _ _ (Ne.symm hb)).trans e
  refine wpAny_bind (wpAny_letGo ?_)
  refine extend_rev (A := A.in1) (s := { s with heap := h1.update S (Obj.mapSeq (fun _ => (#[] : Array Value))) }) hh (hit1.at fun o e => oth _ o (Ne.symm hSi) e) (by
    obtain ⟨o, e, r⟩ := hl1
    exact ⟨o, oth _ o (Ne.symm hSl) e, r⟩) hne hn hS₂ hSi hSl fun h' tk acc c' hk hS' hacc => ?_
  exact ⟨rfl, hQ h' tk acc c' (fun b o hb e => hk b o (by rw [hSs]; exact Nat.ne_of_lt (Heap.lt_size e)) hb (oth b o (by rw [hSs]; exact Nat.ne_of_lt (Heap.lt_size e)) (hk1 b o e))) hS' hacc⟩
/-- list(reversed(x)), x a list: a new list -/
def tListRev (K : PySem.W.Frag) (te : TE) : TE := fun σ H Q => te σ H fun v H1 => ∃ (a : Addr) (xs : List V), v = .ref a ∧ SqL K H1 a xs ∧ ∀ q, H1 q = none → Q (.ref q) (upd H1 q (.lst xs.reverse))
theorem pe_listRev {X : Cx} {e : Expr} {te : TE} {p p2 pos pos2 : Pos} (hc : X.calm = true) (hg : Gl X "list") (hm : X.mg "list" = none) (hg2 : Gl X "reversed") (hm2 : X.mg "reversed" = none) (he : PE X e te)
    (hs : starEach [e] X.env = (false, eval e X.env) :: starEach [] X.env := by rfl)
    (hs2 : starEach [.Call (.Name "reversed" p2) [e] [] pos2] X.env = (false, eval (.Call (.Name "reversed" p2) [e] [] pos2) X.env) :: starEach [] X.env := by rfl) :
    PE X (.Call (.Name "list" p) [.Call (.Name "reversed" p2) [e] [] pos2] [] pos) (tListRev X.K te) := by
  refine ⟨fun pins s σ H Q I h => ?_⟩
  refine Call_ (ld_blt I hg hm boot_list (PyProof.Rows.callWith_type1 (args_cons (Call_ (ld_blt I hg2 hm2 PyProof.Rows.boot_reversed (PyProof.Rows.callWith_type1 (args_cons (thn (he.run pins s σ H _ I h) fun u s1 ⟨v, H1, I1, r1, q1⟩ => args_nil ?_) hs) hs rfl))) hs2) hs2 rfl))
  obtain ⟨a, xs, ev, hq, q⟩ := q1
  subst ev
  obtain rfl : u = Value.ref a := r1
  obtain ⟨its, rv, p', hz⟩ := I1.list hq
  refine call_reversed_list p'.isList (args_nil ?_)
  have k0 : ∀ b o, s1.heap.get? b = some o → (s1.heap.push (revObj a ((its.toArray.size : Int) - 1))).get? b = some o := fun b o e => Heap.get?_push_of_some _ e
  have hl := p'.isList
  obtain ⟨ol, hol, _⟩ := id hl
  have hne : a ≠ s1.heap.objs.size := Nat.ne_of_lt (Heap.lt_size hol)
  have hn : its.toArray.size ≤ sizeLine := by rw [List.size_toArray, ← rv.length]; exact hz
  refine call_list_rev (s := { s1 with heap := s1.heap.push (revObj a ((its.toArray.size : Int) - 1)) }) (I1.ok.hd hc) ⟨_, Heap.get?_push_size _ rfl, rfl, rfl⟩ (hl.push _) hne hn fun h' tk acc c' hk hS' hi => ?_
  have hle : s1.heap.objs.size ≤ (s1.heap.push (revObj a ((its.toArray.size : Int) - 1))).objs.size := by
    show _ ≤ (s1.heap.objs.push _).size
    rw [Array.size_push]
    omega
  refine ⟨.ref (s1.heap.push (revObj a ((its.toArray.size : Int) - 1))).objs.size, upd H1 (s1.heap.push (revObj a ((its.toArray.size : Int) - 1))).objs.size (.lst xs.reverse), I1.laid (t' := tk) (fun b o e => hk b o (Nat.ne_of_lt (Heap.lt_size e)) (k0 b o e)) hle (show ObjOk X.prog X.w _ h' _ (.lst xs.reverse) from ⟨by rw [List.length_reverse]; exact hz, acc.toList, c', RT.vals_rev rv hi, ?_⟩), rfl, q _ (I1.hok.fresh hle)⟩
  rw [Array.toArray_toList]
  exact hS'

/-- what the top has left -/
structure TX (K : PySem.W.Frag) (mg : Str → Option Value) where
  a_weighted : Addr
  d_weighted : FuncData
  F_weighted : Fun K "weighted" "weighted" s_weighted a_weighted d_weighted
  b_weighted : Binds K d_weighted ["samples"] []
  g_weighted : mg "weighted" = some (.ref a_weighted)
  a_autocorrelation : Addr
  d_autocorrelation : FuncData
  F_autocorrelation : Fun K "autocorrelation" "autocorrelation" s_autocorrelation a_autocorrelation d_autocorrelation
  b_autocorrelation : Binds K d_autocorrelation ["values", "most"] []
  g_autocorrelation : mg "autocorrelation" = some (.ref a_autocorrelation)
  a_exact_predictors : Addr
  d_exact_predictors : FuncData
  F_exact_predictors : Fun K "exact_predictors" "exact_predictors" s_exact_predictors a_exact_predictors d_exact_predictors
  b_exact_predictors : Binds K d_exact_predictors ["correlation"] []
  g_exact_predictors : mg "exact_predictors" = some (.ref a_exact_predictors)
  a_quantize : Addr
  d_quantize : FuncData
  F_quantize : Fun K "quantize" "quantize" s_quantize a_quantize d_quantize
  b_quantize : Binds K d_quantize ["numerators", "denominator", "precision"] []
  g_quantize : mg "quantize" = some (.ref a_quantize)
  a_predictors : Addr
  d_predictors : FuncData
  F_predictors : Fun K "predictors" "predictors" s_predictors a_predictors d_predictors
  b_predictors : Binds K d_predictors ["samples", "most", "precision"] []
  g_predictors : mg "predictors" = some (.ref a_predictors)
  a_last_numerator : Addr
  d_last_numerator : FuncData
  F_last_numerator : Fun K "_last_numerator" "_last_numerator" s_last_numerator a_last_numerator d_last_numerator
  b_last_numerator : Binds K d_last_numerator ["correlation", "numerators", "denominator"] []
  g_last_numerator : mg "_last_numerator" = some (.ref a_last_numerator)
  a_rounded : Addr
  d_rounded : FuncData
  F_rounded : Fun K "_rounded" "_rounded" s_rounded a_rounded d_rounded
  b_rounded : Binds K d_rounded ["a", "b"] []
  g_rounded : mg "_rounded" = some (.ref a_rounded)
  a_law_cell : Addr
  d_law_cell : FuncData
  F_law_cell : Fun K "_law_cell" "_law_cell" s_law_cell a_law_cell d_law_cell
  b_law_cell : Binds K d_law_cell ["script", "k"] []
  g_law_cell : mg "_law_cell" = some (.ref a_law_cell)
  a_law_integer : Addr
  d_law_integer : FuncData
  F_law_integer : Fun K "_law_integer" "_law_integer" s_law_integer a_law_integer d_law_integer
  b_law_integer : Binds K d_law_integer ["value"] []
  g_law_integer : mg "_law_integer" = some (.ref a_law_integer)
  a_law_integers : Addr
  d_law_integers : FuncData
  F_law_integers : Fun K "_law_integers" "_law_integers" s_law_integers a_law_integers d_law_integers
  b_law_integers : Binds K d_law_integers ["values"] []
  g_law_integers : mg "_law_integers" = some (.ref a_law_integers)
  a_law_row : Addr
  d_law_row : FuncData
  F_law_row : Fun K "_law_row" "_law_row" s_law_row a_law_row d_law_row
  b_law_row : Binds K d_law_row ["cell", "count", "bound"] []
  g_law_row : mg "_law_row" = some (.ref a_law_row)
  a_law_samples : Addr
  d_law_samples : FuncData
  F_law_samples : Fun K "_law_samples" "_law_samples" s_law_samples a_law_samples d_law_samples
  b_law_samples : Binds K d_law_samples ["cell", "count", "shape"] []
  g_law_samples : mg "_law_samples" = some (.ref a_law_samples)
  a_law_solution : Addr
  d_law_solution : FuncData
  F_law_solution : Fun K "_law_solution" "_law_solution" s_law_solution a_law_solution d_law_solution
  b_law_solution : Binds K d_law_solution ["sums", "size"] []
  g_law_solution : mg "_law_solution" = some (.ref a_law_solution)
  a_law_quantized : Addr
  d_law_quantized : FuncData
  F_law_quantized : Fun K "_law_quantized" "_law_quantized" s_law_quantized a_law_quantized d_law_quantized
  b_law_quantized : Binds K d_law_quantized ["numerators", "denominator", "digits"] []
  g_law_quantized : mg "_law_quantized" = some (.ref a_law_quantized)
  a_law : Addr
  d_law : FuncData
  F_law : Fun K "law" "law" s_law a_law d_law
  b_law : Binds K d_law ["script"] []
  g_law : mg "law" = some (.ref a_law)
  m_len : mg "len" = none
  m_enumerate : mg "enumerate" = none
  m_range : mg "range" = none
  m_sum : mg "sum" = none
  m_zip : mg "zip" = none
  m_list : mg "list" = none
  m_reversed : mg "reversed" = none
  m_max : mg "max" = none
  m_abs : mg "abs" = none
  m_isinstance : mg "isinstance" = none
  m_int : mg "int" = none
  m_bool : mg "bool" = none
  m_all : mg "all" = none
  m_tuple : mg "tuple" = none
  u_MOST_SHIFT : Value
  c_MOST_SHIFT : mg "_MOST_SHIFT" = some u_MOST_SHIFT
  r_MOST_SHIFT : RelV (.int (15)) u_MOST_SHIFT
section
variable {P : Program} {w : World} {K : PySem.W.Frag} {mg : Str → Option Value} {base : Heap}
/-! ### int(x), bits of a number -/
theorem Ev.is {σ : L2.St} {H : Hp} {te : TE} {x y : V} (h : Ev te σ H x) (e : x = y) : Ev te σ H y := e ▸ h
theorem ev_int1 {σ : L2.St} {H : Hp} {te : TE} {i : Int} (h : Ev te σ H (.int i)) : Ev (tCB (fun xs H Q => (∃ i, xs = [V.int i] ∧ Q (V.int i) H) ∨ ∃ k, xs = [V.bl k] ∧ Q (V.int (if k = true then 1 else 0)) H) (tCons te tNil)) σ H (.int i) :=
  ev_cb (ea_cons h ea_nil) fun H1 _ Q q => .inl ⟨i, rfl, q H1 (Ex.refl H1)⟩
theorem q_augR {σ : L2.St} {H : Hp} {te : TE} {D : Ends} {tz : TS} {i : Nat} {g : Int → Int → V} {a b : Int} (h1 : σ[i]? = some (some (.int a))) (h : Ev te σ H (.int b)) (k : ∀ H1, Ex H H1 → tz D (σ.set i (some (g a b))) H1) : tSeq (tAug i te (rI0 g)) tz D σ H :=
  ⟨_, h1, h H (Ex.refl H) _ fun H1 e => ⟨a, b, rfl, rfl, k H1 e⟩⟩
theorem s_augR {σ : L2.St} {H : Hp} {te : TE} {D : Ends} {i : Nat} {g : Int → Int → V} {a b : Int} (h1 : σ[i]? = some (some (.int a))) (h : Ev te σ H (.int b)) (k : ∀ H1, Ex H H1 → D.nx (σ.set i (some (g a b))) H1) : tAug i te (rI0 g) D σ H :=
  ⟨_, h1, h H (Ex.refl H) _ fun H1 e => ⟨a, b, rfl, rfl, k H1 e⟩⟩
theorem ev_atT {K : PySem.W.Frag} {σ : L2.St} {H : Hp} {tl ti : TE} {t : Addr} {xs : List V} {n : Int} {v : V} (h : Ev tl σ H (.ref t)) (hT : SqT K H t xs) (hi : Ev ti σ H (.int n)) (ha : atI xs n = some v) : Ev (tOp (rIxT K) tl ti) σ H v := fun H1 e Q q =>
  h H1 e _ fun H2 e2 => hi H2 (e.trans e2) _ fun H3 e3 => ⟨t, xs, n, v, rfl, rfl, ex_t ((e.trans e2).trans e3) hT, ha, q H3 (e2.trans e3)⟩
local macro_rules | `(tactic| walk_at "side") => `(tactic| first
  | omega
  | (show CDivW _ _; exact ⟨by omega, by decide⟩)
  | (show CDivW _ _; exact wide_div (b := 80) (by omega) (by omega) (by decide) (by decide)))
local macro_rules | `(tactic| walk_at "evown") => `(tactic| (refine' ev_int1 ?h1; (case h1 => walk_at "ev")))
/-- numbers from 0 on, as such -/
def cs (ds : List Nat) : List Int := ds.map fun d : Nat => (d : Int)
theorem cs_of {ns : List Int} {b : Int} (h : ∀ n ∈ ns, 0 ≤ n ∧ n < b) : ∃ ds : List Nat, ns = cs ds ∧ ds.length = ns.length ∧ ∀ d ∈ ds, (d : Int) < b := by
  refine ⟨ns.map Int.toNat, ?_, List.length_map .., fun d hd => ?_⟩
  · unfold cs
    rw [List.map_map]
    conv => lhs; rw [← List.map_id ns]
    refine List.map_congr_left fun n hn => ?_
    have := (h n hn).1
    show n = ((n.toNat : Nat) : Int)
    omega
  · obtain ⟨n, hn, rfl⟩ := List.mem_map.mp hd
    have := h n hn
    omega
theorem cs_len (ds : List Nat) : (cs ds).length = ds.length := List.length_map ..
theorem cs_at {ds : List Nat} {i : Nat} {d : Nat} (h : ds[i]? = some d) : (cs ds)[i]? = some (d : Int) := by unfold cs; rw [List.getElem?_map, h]; rfl
theorem cs_take (ds : List Nat) (i : Nat) : (cs ds).take i = cs (ds.take i) := by unfold cs; rw [List.map_take]
theorem cs_drop (ds : List Nat) (i : Nat) : (cs ds).drop i = cs (ds.drop i) := by unfold cs; rw [List.map_drop]
theorem cs_append (ds es : List Nat) : cs (ds ++ es) = cs ds ++ cs es := List.map_append ..

theorem ev_all {σ : L2.St} {H : Hp} {te : TE} {bs : List Bool} {b : Bool} (h : EvS K te σ H (bs.map V.bl)) (hb : bs.all id = b) : Ev (tCB (rAll K) (tCons te tNil)) σ H (.bl b) := fun H1 e Q q => h H1 e _ fun p H2 e2 hp => ⟨p, bs, rfl, hp, by rw [hb]; exact q H2 e2⟩

def sp_cell (K : PySem.W.Frag) : Sp := fun vs H Q _ => ∃ (a : Addr) (ns : List Int) (k : Int), vs = [.ref a, .int k] ∧ SqL K H a (ns.map V.int) ∧ 0 ≤ k ∧ RetV (.int (cellI ns k)) H Q
theorem ok_law_cell (T : TX K mg) : FnOk P w K mg base CX0 1 T.a_law_cell T.d_law_cell ["script", "k"] (sp_cell K) := by
  refine T.F_law_cell.ok sc_law_cell (fun vs H Q E h => by obtain ⟨a, ns, k, rfl, _⟩ := h; rfl) (fun cdv A outer s H vs Q E hr h => ?_)
  obtain ⟨a, ns, k, rfl, hS, hk, q⟩ := h
  refine ⟨_, (pss_cons (ps_if (pt_cmpR op_lt (pv 1) (pe_callB (r := rLenS K) call_len_seq (by rfl) T.m_len PySem.boot_len (pa_cons (pv 0) pa_nil)) (nomark _)) (pss_one (ps_ret (pe_ix (r := rIxL K) ix_list (pv 0) (pv 1) (fun _ _ => rfl)))) pss_nil)
      (pss_one (ps_ret pe_int))), ?_⟩
  have hl := (ev_lenS (K := K) (Ev.s (te := tVar 0) (σ := start ["script", "k"] [.ref a, .int k]) (ev_var rfl) hS))
  refine q_when (et_test (ev_I0 (ev_var rfl) hl)) ?_ ?_
  · intro hb H1 e1
    have hb : k < ns.length := by
      have := of_decide_eq_true hb
      rwa [List.length_map] at this
    refine s_ret (v := .int (cellI ns k)) (ev_ixS (i := 0) (n := k) (Ev.s (ev_var rfl) (ex_l e1 hS)) (ev_var rfl) ?_) fun H2 e2 => q H2 (e1.trans e2)
    exact at_of (j := k.toNat) (by omega) (at_int (cellI_in hk hb))
  · intro hb H1 e1
    have hb : ¬ k < ns.length := by
      have := of_decide_eq_false hb
      rwa [List.length_map] at this
    walk_at "ret"
    intro H2 e2
    exact ret_eq q (e1.trans e2) (by rw [cellI_out hb])
theorem ev_cell {σ : L2.St} {H : Hp} {ta tk : TE} {E : XK} {ns : List Int} {k : Int} {a : Addr} (ha : Ev ta σ H (.ref a)) (hS : SqL K H a (ns.map V.int)) (hk : Ev tk σ H (.int k)) (h0 : 0 ≤ k) : Ev (tCall (sp_cell K) [] E (tCons ta (tCons tk tNil))) σ H (.int (cellI ns k)) :=
  ev_call (ea_cons ha (ea_cons hk ea_nil)) fun H1 e Q q _ => ⟨a, ns, k, rfl, ex_l e hS, h0, q⟩
local macro_rules | `(tactic| walk_at "evown") => `(tactic| (refine' ev_cell ?h1 ?h2 ?h3 ?h4; (case h1 => exact ev_var rfl); (case h2 => walk_at "sq"); (case h3 => walk_at "ev"); (case h4 => walk_at "side")))

/-! ### weights, autocorrelation -/
def wgt (ns : List Int) : List Int := (List.range ns.length).map fun i => ns.getD i 0 * ((i : Int) + 1) * ((ns.length : Int) - i)
theorem wgt_len (ns : List Int) : (wgt ns).length = ns.length := by unfold wgt; rw [List.length_map, List.length_range]
theorem wgt_at {ns : List Int} {i : Nat} {n : Int} (h : ns[i]? = some n) : (wgt ns)[i]? = some (n * ((i : Int) + 1) * ((ns.length : Int) - i)) := by
  have hi := (List.getElem?_eq_some_iff.mp h).1
  unfold wgt
  rw [List.getElem?_map, List.getElem?_range hi]
  show some (ns.getD i 0 * _ * _) = _
  rw [List.getD_eq_getElem?_getD, h]
  rfl

def sp_weighted (K : PySem.W.Frag) : Sp := fun vs H Q _ => ∃ (a : Addr) (ns : List Int), vs = [.ref a] ∧ SqL K H a (ns.map V.int) ∧ ns.length ≤ 1000 ∧ RetL ((wgt ns).map V.int) H Q
theorem ok_weighted (T : TX K mg) : FnOk P w K mg base CX0 1 T.a_weighted T.d_weighted ["samples"] (sp_weighted K) := by
  refine T.F_weighted.ok sc_weighted (fun vs H Q E h => by obtain ⟨a, ns, rfl, _⟩ := h; rfl) (fun cdv A outer s0 H vs Q E hr h => ?_)
  obtain ⟨a, ns, rfl, hS, hl, k⟩ := h
  refine ⟨_, (pss_cons (ps_set (i := 1) sc_weighted.nd rfl (Or.inr rfl) (pe_callB (r := rLenS K) call_len_seq (by rfl) T.m_len PySem.boot_len (pa_cons (pv 0) pa_nil)))
      (pss_one (ps_ret (pe_lc (own := [("at", 2), ("sample", 3)]) (g := (gTup K 2 (gCons (gName 2) (gCons (gName 3) gNil)))) (tt := tYes) rfl sc_weighted.nd (pi_enum (by rfl) T.m_enumerate (pa_cons (pv 0) pa_nil)) (blkOk_by (N := ["samples", "many", "at", "sample"]) (sc := defScope s_weighted) (by decide +kernel)) (fun _ _ _ _ _ => (pg_tup rfl (pgs_cons (pg_name (i := 2) sc_weighted.nd rfl (Or.inl rfl)) (pgs_cons (pg_name (i := 3) sc_weighted.nd rfl (Or.inl rfl)) pgs_nil)))) (fun _ _ _ _ _ => pts_nil) (fun _ _ _ _ _ => (pe_op op_mul (pe_op op_mul (pv 3) (pe_op op_add (pv 2) pe_int)) (pe_op op_sub (pv 1) (pv 2)))))))), ?_⟩
  refine q_asg (v := .int (ns.length : Int)) (Ev.is (ev_lenS (Ev.s (ev_var rfl) hS)) (by rw [List.length_map])) fun H1 e1 => ?_
  refine s_retL (el_lcE (xs := ns.map V.int) ((wgt ns).map V.int) (Ev.s (ev_var rfl) (ex_l e1 hS)) (by rw [List.length_map, List.length_map, wgt_len]) (by rw [List.length_map, wgt_len]; omega) (fun _ _ => rfl) fun i x H2 e2 hx => ?_) fun p H2 hp e2 g2 => k.go e1 hp e2 g2
  obtain ⟨n, hn, hi, rfl⟩ := int_at hx
  exact ⟨_, at_int (wgt_at hn), ev_I (ev_I (ev_var rfl) (ev_I0 (ev_var rfl) ev_c) (.inr ⟨by omega, by omega⟩)) (ev_I0 (ev_var rfl) (ev_var rfl)) (.inr ⟨by omega, by omega⟩)⟩
theorem el_weighted {σ : L2.St} {H : Hp} {te : TE} {E : XK} {ns : List Int} (h : EvS K te σ H (ns.map V.int)) (hl : ns.length ≤ 1000) : EvL (tCall (sp_weighted K) [] E (tCons te tNil)) σ H ((wgt ns).map V.int) := fun H1 e Q q =>
  h H1 e _ fun p H2 e2 hp => ⟨p, ns, rfl, hp, hl, fun r H3 hr e3 g3 => q r H3 (fresh_back e2 hr) (e2.trans e3) g3⟩
def lagS (ns : List Int) (d : Nat) : Int := (List.zipWith (fun x y => x * y) (ns.drop d) ns).sum
def acor (ns : List Int) (m : Nat) : List Int := (List.range (m + 1)).map (lagS ns)
theorem acor_len (ns : List Int) (m : Nat) : (acor ns m).length = m + 1 := by unfold acor; rw [List.length_map, List.length_range]
theorem acor_at {ns : List Int} {m i : Nat} (h : i < m + 1) : (acor ns m)[i]? = some (lagS ns i) := by unfold acor; rw [List.getElem?_map, List.getElem?_range h]; rfl
def BdA (ns : List Int) : Prop := ∀ n ∈ ns, -(2 ^ 60) < n ∧ n < 2 ^ 60

def sp_acor (K : PySem.W.Frag) : Sp := fun vs H Q _ => ∃ (a : Addr) (ns : List Int) (m : Nat), vs = [.ref a, .int (m : Int)] ∧ SqL K H a (ns.map V.int) ∧ ns.length ≤ 1000 ∧ m ≤ 1000 ∧ BdA ns ∧ RetL ((acor ns m).map V.int) H Q
theorem ok_autocorrelation (T : TX K mg) : FnOk P w K mg base CX0 1 T.a_autocorrelation T.d_autocorrelation ["values", "most"] (sp_acor K) := by
  refine T.F_autocorrelation.ok sc_autocorrelation (fun vs H Q E h => by obtain ⟨a, ns, m, rfl, _⟩ := h; rfl) (fun cdv A outer s0 H vs Q E hr h => ?_)
  obtain ⟨a, ns, m, rfl, hS, hl, hm, hbd, k⟩ := h
  refine ⟨_, (pss_one (ps_ret (pe_lc (own := [("lag", 2)]) (g := gName 2) (tt := tYes) rfl sc_autocorrelation.nd (pi_range1 (by rfl) T.m_range (pa_cons (pe_op op_add (pv 1) pe_int) pa_nil)) (blkOk_by (N := ["values", "most", "lag", "a", "b"]) (sc := defScope s_autocorrelation) (by decide +kernel)) (fun _ _ _ _ _ => pg_name (i := 2) sc_autocorrelation.nd rfl (Or.inl rfl)) (fun _ _ _ _ _ => pts_nil) (fun _ _ _ _ _ => (pe_callB (r := rSum K) (cr_sum rfl) (by rfl) T.m_sum PyProof.Rows.boot_sum (pa_cons (by exact pe_lc (own := [("a", 3), ("b", 4)]) (g := (gTup K 2 (gCons (gName 3) (gCons (gName 4) gNil)))) (tt := tYes) rfl sc_autocorrelation.nd (PI.k (wi' := iZip K _) (pi_zip (by rfl) T.m_zip (pa_cons (pe_slice (r := rSlL K) sl_list (pv 0) (po_some (pv 2)) po_none) (pa_cons (pv 0) pa_nil))) rfl) (blkOk_by (N := ["values", "most", "lag", "a", "b"]) (sc := relS _ (defScope s_autocorrelation)) (by decide +kernel)) (fun _ _ _ _ _ => (pg_tup rfl (pgs_cons (pg_name (i := 3) sc_autocorrelation.nd rfl (Or.inl rfl)) (pgs_cons (pg_name (i := 4) sc_autocorrelation.nd rfl (Or.inl rfl)) pgs_nil)))) (fun _ _ _ _ _ => pts_nil) (fun _ _ _ _ _ => (pe_op op_mul (pv 3) (pv 4)))) pa_nil)))))), ?_⟩
  refine s_retL (el_lcR (n := (m : Int) + 1) ((acor ns m).map V.int) (ea_cons (ev_I0 (ev_var rfl) ev_c) ea_nil) (by omega) (by rw [List.length_map, acor_len]; omega) (by rw [List.length_map, acor_len]; omega) (fun _ => rfl) fun i H1 e1 hi => ?_) fun p H2 hp e2 g2 => k p H2 hp e2 g2
  rw [List.length_map, acor_len] at hi
  refine ⟨_, at_int (acor_at hi), ?_⟩
  refine ev_sum (K := K) (ns := List.zipWith (fun x y => x * y) (ns.drop i) ns) (EvR.s (EvL.r (el_lcZ (K := K) (xs := (ns.drop i).map V.int) (ys := ns.map V.int) ((List.zipWith (fun x y => x * y) (ns.drop i) ns).map V.int) (EvR.s (EvL.r (el_from (Ev.s (ev_var rfl) (ex_l e1 hS)) (ev_var rfl)))) (Ev.s (ev_var rfl) (ex_l e1 hS)) (by rw [List.length_map, List.length_zipWith, List.length_map, List.length_map]) (by rw [List.length_map, List.length_zipWith]; omega) (fun x y => rfl) fun j x y H2 e2 hx hy => ?_)))
  obtain ⟨n, hn, hi, rfl⟩ := int_at hx
  obtain ⟨q, hq, hj, rfl⟩ := int_at hy
  have h1 := hbd q (List.mem_iff_getElem?.mpr ⟨j, hq⟩)
  exact ⟨.int (n * q), at_int (by rw [List.getElem?_zipWith, hn, hq]), ev_I (ev_var rfl) (ev_var rfl) (.inr ⟨by omega, by omega⟩)⟩
theorem el_acor {σ : L2.St} {H : Hp} {te tm : TE} {E : XK} {ns : List Int} {m : Nat} (h : EvS K te σ H (ns.map V.int)) (hM : Ev tm σ H (.int (m : Int))) (hl : ns.length ≤ 1000) (hm : m ≤ 1000) (hb : BdA ns) : EvL (tCall (sp_acor K) [] E (tCons te (tCons tm tNil))) σ H ((acor ns m).map V.int) := fun H1 e Q q =>
  h H1 e _ fun p H2 e2 hp => hM H2 (e.trans e2) _ fun H3 e3 => ⟨p, ns, m, rfl, ex_l e3 hp, hl, hm, hb, fun r H4 hr e4 g4 => q r H4 (fresh_back (e2.trans e3) hr) ((e2.trans e3).trans e4) g4⟩

def sp_isint : Sp := fun vs H Q _ => ∃ n : Int, vs = [.int n] ∧ RetV (.bl true) H Q
theorem ok_law_integer (T : TX K mg) : FnOk P w K mg base CX0 1 T.a_law_integer T.d_law_integer ["value"] sp_isint := by
  refine T.F_law_integer.ok sc_law_integer (fun vs H Q E h => by obtain ⟨n, rfl, _⟩ := h; rfl) (fun cdv A outer s H vs Q E hr h => ?_)
  obtain ⟨n, rfl, k⟩ := h
  refine ⟨_, (pss_one (ps_ret (pe_and (pe_callB (r := rIsi K) call_isi (by rfl) T.m_isinstance PyProof.Rows.boot_isinstance (pa_cons (pv 0) (pa_cons (pe_bltn (v := V.ty "int") (by rfl) T.m_int PyProof.Rows.boot_int rfl) pa_nil))) (pe_one (pe_not (pe_callB (r := rIsi K) call_isi (by rfl) T.m_isinstance PyProof.Rows.boot_isinstance (pa_cons (pv 0) (pa_cons (pe_bltn (v := V.ty "bool") (by rfl) T.m_bool PyProof.Rows.boot_bool rfl) pa_nil)))))))), ?_⟩
  walk_at "ret"
  intro H2 e2
  exact ret_eq k e2 rfl
theorem ev_isint {σ : L2.St} {H : Hp} {te : TE} {E : XK} {n : Int} (h : Ev te σ H (.int n)) : Ev (tCall sp_isint [] E (tCons te tNil)) σ H (.bl true) := ev_call (ea_cons h ea_nil) fun H1 _ Q q _ => ⟨n, rfl, q⟩

def sp_ints : Sp := fun vs H Q _ => ∃ (a : Addr) (ns : List Int), vs = [.ref a] ∧ H a = some (.lst (ns.map V.int)) ∧ ns.length ≤ 10000 ∧ RetV (.bl true) H Q
theorem ok_law_integers (T : TX K mg) : FnOk P w K mg base CX0 2 T.a_law_integers T.d_law_integers ["values"] sp_ints := by
  refine T.F_law_integers.ok sc_law_integers (fun vs H Q E h => by obtain ⟨a, ns, rfl, _⟩ := h; rfl) (fun cdv A outer s0 H vs Q E hr h => ?_)
  obtain ⟨a, ns, rfl, hA, hl, k⟩ := h
  refine ⟨_, (pss_cons (ps_if (pt_not (pt_val (pe_callB (r := rIsi K) call_isi (by rfl) T.m_isinstance PyProof.Rows.boot_isinstance (pa_cons (pv 0) (pa_cons (pe_bltn (v := V.ty "list") (by rfl) T.m_list PyProof.Rows.boot_list rfl) pa_nil))))) (pss_one (ps_ret pe_bl)) pss_nil)
      (pss_one (ps_ret (pe_callB (r := rAll K) (cr_all rfl) (by rfl) T.m_all PyProof.Rows.boot_all (pa_cons (pe_lc (own := [("value", 1)]) (g := gName 1) (tt := tYes) rfl sc_law_integers.nd (pi_list (pv 0)) (blkOk_by (N := ["values", "value"]) (sc := defScope s_law_integers) (by decide +kernel)) (fun _ _ _ _ _ => pg_name (i := 1) sc_law_integers.nd rfl (Or.inl rfl)) (fun _ _ _ _ _ => pts_nil) (fun _ _ _ _ _ => (pe_call (ok_law_integer T) (hr.mono (by decide)) (by rfl) T.g_law_integer T.F_law_integer.kp T.b_law_integer .nil pass0 (pa_cons (pv 1) pa_nil)))) pa_nil))))), ?_⟩
  walk_at "when"
  · intro hb
    exact absurd hb (by simp)
  intro _ H1 e1
  refine s_ret (v := .bl true) (ev_all (bs := ns.map fun _ => true) (EvR.s (EvL.r (EvL.is (xs := ns.map fun _ => V.bl true) (el_lcS _ (Ev.s (ev_var rfl) (sq_of (e1 _ _ hA))) (by rw [List.length_map, List.length_map]) (by rw [List.length_map]; omega) (fun _ => rfl) fun i x H2 e2 hx => ?_) (by rw [List.map_map]; rfl)))) (by simp)) fun H2 e2 => k.go (e1.trans e2)
  obtain ⟨n, hn, hi, rfl⟩ := int_at hx
  exact ⟨.bl true, by rw [List.getElem?_map, hn]; rfl, ev_isint (ev_var rfl)⟩
theorem ev_ints {σ : L2.St} {H : Hp} {te : TE} {E : XK} {ns : List Int} (h : EvR te σ H (ns.map V.int)) (hl : ns.length ≤ 10000) : Ev (tCall sp_ints [] E (tCons te tNil)) σ H (.bl true) := fun H1 e Q q =>
  h H1 e _ fun p H2 e2 hp => ⟨p, ns, rfl, hp, hl, fun H3 e3 => q H3 (e2.trans e3)⟩

/-! ### abs, int of a bool, the law's rows -/
theorem ev_abs {σ : L2.St} {H : Hp} {te : TE} {i : Int} (h : Ev te σ H (.int i)) : Ev (tCB (fun xs H Q => ∃ i, xs = [V.int i] ∧ Q (V.int (if i < 0 then -i else i)) H) (tCons te tNil)) σ H (.int (if i < 0 then -i else i)) :=
  ev_cb (ea_cons h ea_nil) fun H1 _ Q q => ⟨i, rfl, q H1 (Ex.refl H1)⟩
theorem ev_intB {σ : L2.St} {H : Hp} {te : TE} {b : Bool} (h : Ev te σ H (.bl b)) : Ev (tCB (fun xs H Q => (∃ i, xs = [V.int i] ∧ Q (V.int i) H) ∨ ∃ k, xs = [V.bl k] ∧ Q (V.int (if k = true then 1 else 0)) H) (tCons te tNil)) σ H (.int (if b = true then 1 else 0)) :=
  ev_cb (ea_cons h ea_nil) fun H1 _ Q q => .inr ⟨b, rfl, q H1 (Ex.refl H1)⟩
def sp_lrow : Sp := fun vs H Q _ => ∃ (c : Int) (n : Nat) (b : Int), vs = [.int c, .int (n : Int), .int b] ∧ n ≤ 1000 ∧ 0 < b ∧ b ≤ 2 ^ 50 ∧ ∀ p (ns : List Int) H', H p = none → Ex H H' → H' p = some (.lst (ns.map V.int)) → ns.length = n → (∀ x ∈ ns, 0 ≤ x ∧ x < b) → Q (.ref p) H'
theorem ok_law_row (T : TX K mg) : FnOk P w K mg base CX0 1 T.a_law_row T.d_law_row ["cell", "count", "bound"] sp_lrow := by
  refine T.F_law_row.ok sc_law_row (fun vs H Q E h => by obtain ⟨c, n, b, rfl, _⟩ := h; rfl) (fun cdv A outer s0 H vs Q E hr h => ?_)
  obtain ⟨c, n, b, rfl, hn, hb0, hb1, k⟩ := h
  refine ⟨_, (pss_cons (ps_set (i := 3) sc_law_row.nd rfl (Or.inl rfl) (pe_callB call_abs (by rfl) T.m_abs PyProof.Rows.boot_abs (pa_cons (pe_callTy call_int1 (by rfl) T.m_int PyProof.Rows.boot_int (pa_cons (pv 0) pa_nil)) pa_nil)))
      (pss_cons (ps_set (i := 4) sc_law_row.nd rfl (Or.inl rfl) (pe_op op_add (pe_op op_mod (pe_callTy call_int1 (by rfl) T.m_int PyProof.Rows.boot_int (pa_cons (pv 0) pa_nil)) pe_int) pe_int))
      (pss_cons (ps_set (i := 5) sc_law_row.nd rfl (Or.inl rfl) (pe_lst pa_nil))
      (pss_cons (ps_for PassesOwn.never rfl (pi_range1 (by rfl) T.m_range (pa_cons (pv 1) pa_nil)) (pg_name (i := 6) sc_law_row.nd rfl (Or.inl rfl)) (pss_one (ps_if (pt_cmpR op_ge (pv 3) (pv 2) (nomark _)) (pss_cons (ps_expr (pe_bm PySem.F.plainAttrs_list PySem.F.slot_list_append PySem.F.type_list_append mt_append (pv 5) (pa_cons (pe_op op_mod (pe_callTy call_int1 (by rfl) T.m_int PyProof.Rows.boot_int (pa_cons (pv 3) pa_nil)) (pv 2)) pa_nil)))
          (pss_one (ps_set (i := 3) sc_law_row.nd rfl (Or.inl rfl) (pe_op op_fdivW (pv 3) (pv 2))))) (pss_cons (ps_set (i := 4) sc_law_row.nd rfl (Or.inl rfl) (pe_op op_mod (pe_callTy call_int1 (by rfl) T.m_int PyProof.Rows.boot_int (pa_cons (pe_op op_add (pe_op op_add (pe_op op_mul (pv 4) pe_int) (pe_op op_mul pe_int (pv 6))) pe_int) pa_nil)) pe_int))
          (pss_one (ps_expr (pe_bm PySem.F.plainAttrs_list PySem.F.slot_list_append PySem.F.type_list_append mt_append (pv 5) (pa_cons (pe_op op_mod (pe_callTy call_int1 (by rfl) T.m_int PyProof.Rows.boot_int (pa_cons (pe_op op_fdivW (pe_op op_mul (pv 4) pe_int) pe_int) pa_nil)) (pv 2)) pa_nil))))))))
      (pss_one (ps_ret (pv 5))))))), ?_⟩
  have hlog : b.natAbs.log2 < 9000 := by
    have : b.natAbs < 2 ^ 51 := by omega
    have := (Nat.log2_lt (n := b.natAbs) (k := 51) (by omega)).mpr this
    omega
  refine q_asg (ev_abs (ev_int1 (ev_var rfl))) fun H1 e1 => ?_
  refine q_asg (ev_I0 (ev_I (ev_int1 (ev_var rfl)) ev_c (by decide)) ev_c) fun H2 e2 => ?_
  refine q_asgL (xs := []) (el_lst ea_nil (by decide)) fun p H3 hp3 e3 g3 => ?_
  have hp := fresh_back (e1.trans e2) hp3
  have e13 := (e1.trans e2).trans e3
  generalize (if c < 0 then -c else c) = re0
  generalize c % 1000003 + 1 = mx0
  refine q_forR1 (n := (n : Int)) (ea_cons (ev_var rfl) ea_nil) (by omega) (fun i σ' H' => ∃ (re mx : Int) (ns : List Int) (z6 : Option V), σ' = [some (.int c), some (.int (n : Int)), some (.int b), some (.int re), some (.int mx), some (.ref p), z6] ∧ Ex H H' ∧ H' p = some (.lst (ns.map V.int)) ∧ ns.length = i ∧ (∀ x ∈ ns, 0 ≤ x ∧ x < b)) (fun H4 e4 => ⟨re0, mx0, [], none, rfl, e13.trans e4, e4 _ _ g3, rfl, fun x hx => by cases hx⟩) ?_ ?_
  · rintro i σ' H4 hi ⟨re, mx, ns, z6, rfl, ex, gp, hnl, hns⟩
    have snoc : ∀ x : Int, 0 ≤ x → x < b → ∀ y ∈ ns ++ [x], 0 ≤ y ∧ y < b := fun x h0 h1 y hy => by
      rcases List.mem_append.mp hy with h | h
      · exact hns y h
      · rw [List.mem_singleton.mp h]
        exact ⟨h0, h1⟩
    have big : ns.length < 100000 := by omega
    refine s_if (et_test (ev_I0 (ev_var rfl) (ev_var rfl))) (fun _ H5 e5 => ?_) (fun _ H5 e5 => ?_)
    · refine q_app (v := .int (re % b)) (e5 _ _ gp) (ev_var rfl) (ev_I (ev_int1 (ev_var rfl)) (ev_var rfl) hb0) (by rw [List.length_map]; exact big) fun H6 e6 => ?_
      refine s_asg (v := .int (re / b)) (ev_I (ev_var rfl) (ev_var rfl) ⟨hb0, hlog⟩) fun H7 e7 => ⟨re / b, mx, ns ++ [re % b], _, rfl, (Ex.mut (ex.trans (e5.trans e6)) hp).trans e7, e7 _ _ (by rw [upd_same, List.map_append]; rfl), by rw [List.length_append, hnl]; rfl, snoc _ (Int.emod_nonneg _ (by omega)) (Int.emod_lt_of_pos _ hb0)⟩
    · obtain ⟨mx1, hmx⟩ : ∃ mx1, (mx * 48271 + 11 * (i : Int) + 7) % 2147483647 = mx1 := ⟨_, rfl⟩
      refine q_asg (v := .int mx1) (Ev.is (ev_I (ev_int1 (ev_I0 (ev_I0 (ev_I (ev_var rfl) ev_c (.inr (by decide))) (ev_I ev_c (ev_var rfl) (.inl (by decide)))) ev_c)) ev_c (by decide)) (congrArg V.int hmx)) fun H6 e6 => ?_
      refine s_app (v := .int ((mx1 * 2862933555777941757 / 1024) % b)) ((e5.trans e6) _ _ gp) (ev_var rfl) (ev_I (ev_int1 (ev_I (ev_I (ev_var rfl) ev_c (.inr (by decide))) ev_c ⟨by decide, by decide⟩)) (ev_var rfl) hb0) (by rw [List.length_map]; exact big) fun H7 e7 => ⟨re, mx1, ns ++ [(mx1 * 2862933555777941757 / 1024) % b], _, rfl, Ex.mut (ex.trans ((e5.trans e6).trans e7)) hp, by rw [upd_same, List.map_append]; rfl, by rw [List.length_append, hnl]; rfl, snoc _ (Int.emod_nonneg _ (by omega)) (Int.emod_lt_of_pos _ hb0)⟩
  · rintro σ' H4 ⟨re, mx, ns, z6, rfl, ex, gp, hnl, hns⟩
    rw [Int.toNat_natCast] at hnl
    exact s_ret (v := .ref p) (ev_var rfl) fun H5 e5 => k p ns H5 hp (ex.trans e5) (e5 _ _ gp) hnl hns

theorem takeG {α : Type} {zs : List α} {i : Nat} {z : α} (h : zs[i]? = some z) : zs.take (i + 1) = zs.take i ++ [z] := by
  rw [List.take_add_one, h]
  rfl
/-! ### the law's sums -/
def lagN (ns : List Int) (d : Nat) (i : Nat) : Int := ((List.range (i - d)).map fun t => ns.getD (t + d) 0 * ns.getD t 0).sum
theorem lagN_step (ns : List Int) (d i : Nat) : lagN ns d (i + 1) = lagN ns d i + if d ≤ i then ns.getD i 0 * ns.getD (i - d) 0 else 0 := by
  unfold lagN
  by_cases h : d ≤ i
  · rw [if_pos h, show i + 1 - d = (i - d) + 1 by omega, List.range_succ, List.map_append, List.sum_append]
    show _ + (ns.getD (i - d + d) 0 * ns.getD (i - d) 0 + 0) = _
    rw [show i - d + d = i by omega, Int.add_zero]
  · rw [if_neg h, show i + 1 - d = 0 by omega, show i - d = 0 by omega, Int.add_zero]
theorem lagN_zero (ns : List Int) (d : Nat) : lagN ns d 0 = 0 := by
  unfold lagN
  rw [Nat.zero_sub]
  rfl
theorem lagS_N (ns : List Int) (d : Nat) : lagS ns d = lagN ns d ns.length := by
  unfold lagS lagN
  congr 1
  apply List.ext_getElem?
  intro t
  rw [List.getElem?_zipWith, List.getElem?_drop, List.getElem?_map]
  by_cases h : t < ns.length - d
  · rw [List.getElem?_range h, gl_get (ns := ns) (i := d + t) (by omega), gl_get (ns := ns) (i := t) (by omega)]
    show some (ns.getD (d + t) 0 * ns.getD t 0) = some (ns.getD (t + d) 0 * ns.getD t 0)
    rw [Nat.add_comm]
  · rw [List.getElem?_eq_none (l := ns) (i := d + t) (by omega), List.getElem?_eq_none (l := List.range (ns.length - d)) (by rw [List.length_range]; omega)]
    rfl
theorem set_range {m d0 : Nat} {f g : Nat → Int} (h0 : ∀ d, d < m → d ≠ d0 → g d = f d) : ((List.range m).map fun d => V.int (f d)).set d0 (V.int (g d0)) = (List.range m).map fun d => V.int (g d) := by
  apply List.ext_getElem?
  intro t
  rw [List.getElem?_set, List.length_map, List.length_range]
  by_cases ht : t < m
  · rw [List.getElem?_map, List.getElem?_map, List.getElem?_range ht]
    by_cases hd : d0 = t
    · subst hd
      rw [if_pos rfl, if_pos ht]
      rfl
    · rw [if_neg hd]
      show some (V.int (f t)) = some (V.int (g t))
      rw [h0 t ht (fun e => hd e.symm)]
  · rw [List.getElem?_eq_none (l := (List.range m).map fun d => V.int (f d)) (by rw [List.length_map, List.length_range]; omega), List.getElem?_eq_none (l := (List.range m).map fun d => V.int (g d)) (by rw [List.length_map, List.length_range]; omega)]
    split
    · rw [if_neg (by omega)]
    · rfl

theorem ev_go {te : TE} {σ : L2.St} {H : Hp} {v : V} {Q : VK} (h : Ev te σ H v) (k : ∀ H2, Ex H H2 → Q v H2) : te σ H Q := h H (Ex.refl H) Q k
theorem et_go {t : TT} {σ : L2.St} {H : Hp} {b : Bool} {Q : Bool → Hp → Prop} (h : EvT t σ H b) (k : ∀ H2, Ex H H2 → Q b H2) : t σ H Q := h H (Ex.refl H) Q k
theorem el_go {te : TE} {σ : L2.St} {H : Hp} {xs : List V} {Q : VK} (h : EvL te σ H xs) (k : ∀ p H2, H p = none → Ex H H2 → H2 p = some (.lst xs) → Q (.ref p) H2) : te σ H Q := h H (Ex.refl H) Q k
theorem eu_go {te : TE} {σ : L2.St} {H : Hp} {xs : List V} {Q : VK} (h : EvU te σ H xs) (k : ∀ p H2, H p = none → Ex H H2 → H2 p = some (.tup xs) → Q (.ref p) H2) : te σ H Q := h H (Ex.refl H) Q k
theorem ea_go {t : TA} {σ : L2.St} {H : Hp} {vs : List V} {Q : List V → Hp → Prop} (h : EvA t σ H vs) (k : ∀ H2, Ex H H2 → Q vs H2) : t σ H Q := h H (Ex.refl H) Q k

def FrO (a : Addr) (H H' : Hp) : Prop := ∀ b o, b ≠ a → H b = some o → H' b = some o
theorem FrO.ex {a : Addr} {H H' : Hp} (e : Ex H H') : FrO a H H' := fun b o _ h => e b o h
theorem FrO.trans {a : Addr} {H H1 H2 : Hp} (x : FrO a H H1) (y : FrO a H1 H2) : FrO a H H2 := fun b o hb h => y b o hb (x b o hb h)
theorem FrO.upd {a : Addr} {H H' : Hp} {o : HO} (f : FrO a H H') : FrO a H (upd H' a o) := fun b u hb h => by rw [upd_ne hb]; exact f b u hb h
theorem FrO.after {a : Addr} {H0 G H' : Hp} (f : FrO a G H') (e : Ex H0 G) (hn : H0 a = none) : Ex H0 H' := fun b o hb => f b o (by rintro rfl; rw [hn] at hb; cases hb) (e b o hb)
theorem sq_keep {K : PySem.W.Frag} {H B H' : Hp} {p a : Addr} {xs : List V} {e1 : Ex H B} {hp : H p = none} (f : FrO p B H') (h : SqL K H a xs) : SqL K H' a xs := ex_l (FrO.after f e1 hp) h

def EvX (te : TE) (σ : L2.St) (H : Hp) (S : V → Hp → Prop) : Prop := ∀ H1, Ex H H1 → ∀ Q : VK, (∀ v H2, Ex H1 H2 → S v H2 → Q v H2) → te σ H1 Q

namespace DT
/-! ### sums and determinants -/
/-- the sum of f below n -/
def S : Nat → (Nat → Int) → Int
  | 0, _ => 0
  | n + 1, f => S n f + f n
theorem S_congr {f g : Nat → Int} : ∀ {n : Nat}, (∀ i, i < n → f i = g i) → S n f = S n g
  | 0, _ => rfl
  | n + 1, h => by
    show S n f + f n = S n g + g n
    rw [S_congr (fun i hi => h i (by omega)), h n (by omega)]
theorem S_add (f g : Nat → Int) : ∀ n, S n (fun i => f i + g i) = S n f + S n g
  | 0 => rfl
  | n + 1 => by
    show S n _ + (f n + g n) = S n f + f n + (S n g + g n)
    rw [S_add f g n]
    omega
theorem S_mul (c : Int) (f : Nat → Int) : ∀ n, S n (fun i => c * f i) = c * S n f
  | 0 => (Int.mul_zero c).symm
  | n + 1 => by
    show S n _ + c * f n = c * (S n f + f n)
    rw [S_mul c f n, Int.mul_add]
theorem S_mulr (c : Int) (f : Nat → Int) (n : Nat) : S n (fun i => f i * c) = S n f * c := by
  rw [Int.mul_comm, ← S_mul]
  exact S_congr fun i _ => Int.mul_comm _ _
theorem S_neg (f : Nat → Int) (n : Nat) : S n (fun i => -f i) = -S n f := by
  have h := S_mul (-1) f n
  rw [Int.neg_one_mul] at h
  rw [← h]
  exact S_congr fun i _ => (Int.neg_one_mul _).symm
theorem S_sub (f g : Nat → Int) (n : Nat) : S n (fun i => f i - g i) = S n f - S n g := by
  have h := S_add f (fun i => -g i) n
  rw [S_neg] at h
  rw [Int.sub_eq_add_neg, ← h]
  exact S_congr fun i _ => Int.sub_eq_add_neg
theorem S_zero {f : Nat → Int} : ∀ {n : Nat}, (∀ i, i < n → f i = 0) → S n f = 0
  | 0, _ => rfl
  | n + 1, h => by
    show S n f + f n = 0
    rw [S_zero (fun i hi => h i (by omega)), h n (by omega)]
    rfl
theorem S_one {f : Nat → Int} {i : Nat} : ∀ {n : Nat}, i < n → (∀ j, j < n → j ≠ i → f j = 0) → S n f = f i
  | 0, h, _ => by omega
  | n + 1, h, h0 => by
    show S n f + f n = f i
    by_cases e : i = n
    · subst e
      rw [S_zero fun j hj => h0 j (by omega) (by omega), Int.zero_add]
    · rw [S_one (i := i) (by omega) fun j hj hne => h0 j (by omega) hne, h0 n (by omega) (by omega), Int.add_zero]
theorem S_two {f : Nat → Int} {i : Nat} : ∀ {n : Nat}, i + 1 < n → (∀ j, j < n → j ≠ i → j ≠ i + 1 → f j = 0) → S n f = f i + f (i + 1)
  | 0, h, _ => by omega
  | n + 1, h, h0 => by
    show S n f + f n = _
    by_cases e : i + 1 = n
    · subst e
      rw [S_one (i := i) (by omega) fun j hj hne => h0 j (by omega) hne (by omega)]
    · rw [S_two (i := i) (by omega) fun j hj h1 h2 => h0 j (by omega) h1 h2, h0 n (by omega) (by omega) (by omega), Int.add_zero]
theorem S_comm (f : Nat → Nat → Int) (m : Nat) : ∀ n, S n (fun i => S m (fun j => f i j)) = S m (fun j => S n (fun i => f i j))
  | 0 => (S_zero fun _ _ => rfl).symm
  | n + 1 => by
    show S n _ + S m (f n) = S m fun j => S n (fun i => f i j) + f n j
    rw [S_comm f m n, ← S_add]
theorem S_first (f : Nat → Int) : ∀ n, S (n + 1) f = f 0 + S n (fun i => f (i + 1))
  | 0 => by show (0 : Int) + f 0 = f 0 + 0; omega
  | n + 1 => by
    show S (n + 1) f + f (n + 1) = f 0 + (S n (fun i => f (i + 1)) + f (n + 1))
    rw [S_first f n]
    omega
theorem S_rev (f : Nat → Int) : ∀ n, S n (fun i => f (n - 1 - i)) = S n f
  | 0 => rfl
  | n + 1 => by
    rw [S_first]
    show f (n - 0) + S n (fun i => f (n - (i + 1))) = S n f + f n
    rw [← S_rev f n, S_congr (f := fun i => f (n - (i + 1))) (g := fun i => f (n - 1 - i)) fun i _ => by rw [show n - (i + 1) = n - 1 - i by omega]]
    show f n + _ = _
    omega
def sg (j : Nat) : Int := if j % 2 = 0 then 1 else -1
theorem sg_succ (j : Nat) : sg (j + 1) = -sg j := by
  unfold sg
  by_cases h : j % 2 = 0
  · rw [if_pos h, if_neg (by omega)]
  · rw [if_neg h, if_pos (by omega)]; rfl
def del (j : Nat) (A : Nat → Nat → Int) : Nat → Nat → Int := fun i r => A (if i < j then i else i + 1) (r + 1)
def det : Nat → (Nat → Nat → Int) → Int
  | 0, _ => 1
  | n + 1, A => S (n + 1) fun j => sg j * A j 0 * det n (del j A)
def rp (A : Nat → Nat → Int) (i : Nat) (v : Nat → Int) : Nat → Nat → Int := fun j => if j = i then v else A j
theorem rp_at (A : Nat → Nat → Int) (i : Nat) (v : Nat → Int) : rp A i v i = v := if_pos rfl
theorem rp_ne {A : Nat → Nat → Int} {i j : Nat} {v : Nat → Int} (h : j ≠ i) : rp A i v j = A j := if_neg h
theorem rp_self (A : Nat → Nat → Int) (i : Nat) : rp A i (A i) = A := by
  funext j
  unfold rp
  split
  · rename_i h; rw [h]
  · rfl
theorem det_congr : ∀ {n : Nat} {A B : Nat → Nat → Int}, (∀ j r, j < n → r < n → A j r = B j r) → det n A = det n B
  | 0, _, _, _ => rfl
  | n + 1, A, B, h => by
    refine S_congr fun j hj => ?_
    rw [h j 0 hj (by omega), det_congr (A := del j A) (B := del j B) fun i r hi hr => h _ _ (by split <;> omega) (by omega)]
theorem del_same (A : Nat → Nat → Int) (i : Nat) (v : Nat → Int) : del i (rp A i v) = del i A := by
  funext m r
  unfold del
  rw [rp_ne (by split <;> omega)]
theorem del_lt {A : Nat → Nat → Int} {i j : Nat} (v : Nat → Int) (h : j < i) : del j (rp A i v) = rp (del j A) (i - 1) fun r => v (r + 1) := by
  funext m r
  unfold del
  by_cases e : m = i - 1
  · subst e
    rw [rp_at, if_neg (by omega), show i - 1 + 1 = i by omega, rp_at]
  · rw [rp_ne e, rp_ne (by split <;> omega)]
theorem del_gt {A : Nat → Nat → Int} {i j : Nat} (v : Nat → Int) (h : i < j) : del j (rp A i v) = rp (del j A) i fun r => v (r + 1) := by
  funext m r
  unfold del
  by_cases e : m = i
  · subst e
    rw [rp_at, if_pos h, rp_at]
  · rw [rp_ne e, rp_ne (by split <;> omega)]
theorem det_lin (a b : Int) (u v : Nat → Int) : ∀ {n : Nat} {A : Nat → Nat → Int} {i : Nat}, i < n → det n (rp A i fun r => a * u r + b * v r) = a * det n (rp A i u) + b * det n (rp A i v) := by
  intro n
  induction n generalizing u v with
  | zero => intro A i h; omega
  | succ n ih =>
    intro A i hi
    show S (n + 1) _ = a * S (n + 1) _ + b * S (n + 1) _
    rw [← S_mul, ← S_mul, ← S_add]
    refine S_congr fun j hj => ?_
    by_cases e : j = i
    · subst e
      rw [del_same, del_same, del_same, rp_at, rp_at, rp_at]
      grind
    · rw [rp_ne e, rp_ne e, rp_ne e]
      rcases Nat.lt_or_gt_of_ne e with h | h
      · rw [del_lt _ h, del_lt _ h, del_lt _ h, ih (fun r => u (r + 1)) (fun r => v (r + 1)) (by omega)]
        grind
      · rw [del_gt _ h, del_gt _ h, del_gt _ h, ih (fun r => u (r + 1)) (fun r => v (r + 1)) (by omega)]
        grind
theorem det_adj : ∀ {n : Nat} {A : Nat → Nat → Int} {i : Nat}, i + 1 < n → A i = A (i + 1) → det n A = 0 := by
  intro n
  induction n with
  | zero => intro A i h; omega
  | succ n ih =>
    intro A i hi he
    show S (n + 1) _ = 0
    rw [S_two (i := i) hi fun j hj h1 h2 => ?_]
    · have hd : del i A = del (i + 1) A := by
        funext m r
        unfold del
        by_cases e : m = i
        · subst e
          rw [if_neg (by omega), if_pos (by omega), he]
        · by_cases h : m < i
          · rw [if_pos h, if_pos (by omega)]
          · rw [if_neg h, if_neg (by omega)]
      rw [hd, he, sg_succ]
      grind
    · rcases Nat.lt_or_ge j i with h | h
      · rw [ih (A := del j A) (i := i - 1) (by omega) (by
          funext r
          unfold del
          rw [if_neg (by omega), if_neg (by omega), show i - 1 + 1 = i by omega, he])]
        exact Int.mul_zero _
      · rw [ih (A := del j A) (i := i) (by omega) (by
          funext r
          unfold del
          rw [if_pos (by omega), if_pos (by omega), he])]
        exact Int.mul_zero _
theorem rp_rp_eq (A : Nat → Nat → Int) (i : Nat) (u v : Nat → Int) : rp (rp A i u) i v = rp A i v := by
  funext j
  unfold rp
  split <;> rfl
theorem rp_comm (A : Nat → Nat → Int) {i j : Nat} (h : i ≠ j) (u v : Nat → Int) : rp (rp A i u) j v = rp (rp A j v) i u := by
  funext m
  unfold rp
  by_cases e1 : m = i
  · subst e1
    rw [if_neg h, if_pos rfl, if_pos rfl]
  · by_cases e2 : m = j
    · subst e2
      rw [if_pos rfl, if_neg e1, if_pos rfl]
    · rw [if_neg e2, if_neg e1, if_neg e1, if_neg e2]
theorem det_swap {n : Nat} {A : Nat → Nat → Int} {i : Nat} (h : i + 1 < n) (u v : Nat → Int) : det n (rp (rp A i u) (i + 1) v) = -det n (rp (rp A i v) (i + 1) u) := by
  have ne : i ≠ i + 1 := by omega
  have B : ∀ x y : Nat → Int, x = y → det n (rp (rp A i x) (i + 1) y) = 0 := fun x y e => det_adj h (by rw [rp_ne ne, rp_at, rp_at, e])
  have l1 : ∀ x, det n (rp (rp A i x) (i + 1) fun r => 1 * u r + 1 * v r) = det n (rp (rp A i x) (i + 1) u) + det n (rp (rp A i x) (i + 1) v) := fun x => by rw [det_lin 1 1 u v h, Int.one_mul, Int.one_mul]
  have l2 : ∀ y, det n (rp (rp A i fun r => 1 * u r + 1 * v r) (i + 1) y) = det n (rp (rp A i u) (i + 1) y) + det n (rp (rp A i v) (i + 1) y) := fun y => by
    rw [rp_comm A ne, det_lin 1 1 u v (by omega : i < n), Int.one_mul, Int.one_mul, rp_comm A ne, rp_comm A ne]
  have h0 := B (fun r => 1 * u r + 1 * v r) _ rfl
  rw [l2, l1, l1, B u u rfl, B v v rfl] at h0
  omega
theorem det_alt {n : Nat} : ∀ (d : Nat) {A : Nat → Nat → Int} {i : Nat}, i + d + 1 < n → A i = A (i + d + 1) → det n A = 0
  | 0, A, i, h, e => det_adj h e
  | d + 1, A, i, h, e => by
    have h1 : rp (rp A (i + d + 1) (A (i + d + 1))) (i + d + 1 + 1) (A (i + d + 1 + 1)) = A := by rw [rp_self, rp_self]
    rw [← h1, det_swap (by omega), det_alt d (i := i) (by omega)]
    · rfl
    · rw [rp_ne (by omega), rp_ne (by omega), rp_ne (by omega), rp_at]
      exact e
theorem det_eq {n i j : Nat} {A : Nat → Nat → Int} (hi : i < n) (hj : j < n) (hne : i ≠ j) (e : A i = A j) : det n A = 0 := by
  rcases Nat.lt_or_gt_of_ne hne with h | h
  · obtain ⟨d, rfl⟩ : ∃ d, j = i + d + 1 := ⟨j - i - 1, by omega⟩
    exact det_alt d hj e
  · obtain ⟨d, rfl⟩ : ∃ d, i = j + d + 1 := ⟨i - j - 1, by omega⟩
    exact det_alt d hi e.symm
theorem det_comb {n i : Nat} {A : Nat → Nat → Int} (x : Nat → Int) (hi : i < n) : ∀ m, m ≤ n → det n (rp A i fun r => S m fun j => x j * A j r) = if i < m then x i * det n A else 0
  | 0, _ => by
    have h := det_lin (n := n) (A := A) (i := i) 0 0 (fun _ => 0) (fun _ => 0) hi
    rw [Int.zero_mul, Int.zero_mul, Int.add_zero] at h
    rw [if_neg (by omega)]
    exact h
  | m + 1, hm => by
    have h := det_lin (n := n) (A := A) (i := i) 1 (x m) (fun r => S m fun j => x j * A j r) (A m) hi
    rw [det_comb x hi m (by omega), Int.one_mul] at h
    have e : (fun r => S (m + 1) fun j => x j * A j r) = fun r => 1 * S m (fun j => x j * A j r) + x m * A m r := by
      funext r
      rw [Int.one_mul]
      rfl
    rw [e, h]
    by_cases c : i = m
    · subst c
      rw [rp_self, if_neg (by omega), if_pos (by omega), Int.zero_add]
    · rw [det_eq (A := rp A i (A m)) hi (show m < n by omega) c (by rw [rp_at, rp_ne (fun z => c z.symm)]), Int.mul_zero, Int.add_zero]
      by_cases c2 : i < m
      · rw [if_pos c2, if_pos (by omega)]
      · rw [if_neg c2, if_neg (by omega)]
theorem cramer {n i : Nat} {A : Nat → Nat → Int} {v x : Nat → Int} (hi : i < n) (h : ∀ r, r < n → v r = S n fun j => x j * A j r) : det n (rp A i v) = x i * det n A := by
  have e := det_comb (A := A) x hi n (Nat.le_refl n)
  rw [if_pos hi] at e
  rw [← e]
  refine det_congr fun j r hj hr => ?_
  unfold rp
  split
  · exact h r hr
  · rfl
theorem det_last : ∀ {n : Nat} {A : Nat → Nat → Int}, (∀ r, r < n → A n r = 0) → det (n + 1) A = A n n * det n A
  | 0, A, _ => by
    show (0 : Int) + sg 0 * A 0 0 * 1 = A 0 0 * 1
    unfold sg
    rw [if_pos rfl]
    omega
  | n + 1, A, h => by
    show S (n + 1) (fun j => sg j * A j 0 * det (n + 1) (del j A)) + sg (n + 1) * A (n + 1) 0 * det (n + 1) (del (n + 1) A) = A (n + 1) (n + 1) * S (n + 1) fun j => sg j * A j 0 * det n (del j A)
    rw [h 0 (by omega), Int.mul_zero, Int.zero_mul, Int.add_zero, ← S_mul]
    refine S_congr fun j hj => ?_
    have hn : ∀ r, del j A n r = A (n + 1) (r + 1) := fun r => by unfold del; rw [if_neg (by omega)]
    rw [det_last (A := del j A) fun r hr => by rw [hn]; exact h _ (by omega), hn]
    grind
/-! ### one step of an elimination without fractions -/
variable {A : Nat → Nat → Int} {k : Nat}
/-- column x of the solutions of the leading k rows -/
def Sol (A : Nat → Nat → Int) (k : Nat) (u b : Nat → Int) : Prop := ∀ r, r < k → S k (fun l => u l * A l r) = det k A * b r
/-- what is left of b at row r -/
def rem (A : Nat → Nat → Int) (k : Nat) (u b : Nat → Int) (r : Nat) : Int := det k A * b r - S k fun l => u l * A l r
theorem rem_det {v : Nat → Int} (h : Sol A k v (A k)) (h0 : det k A ≠ 0) : rem A k v (A k) k = det (k + 1) A := by
  have e1 : det (k + 1) (rp A k fun r => rem A k v (A k) r) = rem A k v (A k) k * det k A := by
    rw [det_last (A := rp A k fun r => rem A k v (A k) r) fun r hr => by
      rw [rp_at]
      unfold rem
      rw [h r hr]
      omega]
    rw [rp_at]
    congr 1
    exact det_congr fun j r hj hr => by rw [rp_ne (by omega)]
  have e2 := cramer (n := k + 1) (i := k) (A := A) (v := fun r => rem A k v (A k) r) (x := fun j => if j = k then det k A else -v j) (by omega) fun r hr => by
    show rem A k v (A k) r = S k (fun j => (if j = k then det k A else -v j) * A j r) + (if k = k then det k A else -v k) * A k r
    rw [if_pos rfl, S_congr (g := fun l => -(v l * A l r)) fun j hj => by rw [if_neg (by omega), Int.neg_mul], S_neg]
    unfold rem
    omega
  rw [e1, if_pos rfl, Int.mul_comm] at e2
  exact Int.eq_of_mul_eq_mul_left h0 e2
theorem step {u v b : Nat → Int} (hu : Sol A k u b) (hv : Sol A k v (A k)) (h0 : det k A ≠ 0) (h1 : det (k + 1) A ≠ 0) {i : Nat} (hi : i < k) : det (k + 1) A * u i - rem A k u b k * v i = det k A * det (k + 1) (rp A i b) := by
  have hg := rem_det hv h0
  have key := cramer (n := k + 1) (i := i) (A := A) (v := fun r => (det k A * det (k + 1) A) * b r) (x := fun j => if j = k then det k A * rem A k u b k else det (k + 1) A * u j - rem A k u b k * v j) (by omega) fun r hr => by
    show (det k A * det (k + 1) A) * b r = S k (fun j => (if j = k then det k A * rem A k u b k else det (k + 1) A * u j - rem A k u b k * v j) * A j r) + (if k = k then det k A * rem A k u b k else _) * A k r
    rw [if_pos rfl, S_congr (g := fun j => det (k + 1) A * (u j * A j r) - rem A k u b k * (v j * A j r)) fun j hj => by rw [if_neg (by omega)]; grind, S_sub, S_mul, S_mul]
    by_cases hrk : r < k
    · rw [hu r hrk, hv r hrk]
      grind
    · obtain rfl : r = k := by omega
      have a1 : S r (fun l => u l * A l r) = det r A * b r - rem A r u b r := by unfold rem; omega
      have a2 : S r (fun l => v l * A l r) = det r A * A r r - det (r + 1) A := by rw [← hg]; unfold rem; omega
      rw [a1, a2]
      grind
  have l := det_lin (n := k + 1) (A := A) (i := i) (det k A * det (k + 1) A) 0 b (fun _ => 0) (by omega)
  have e : (fun r => det k A * det (k + 1) A * b r + 0 * 0) = fun r => (det k A * det (k + 1) A) * b r := by funext r; omega
  rw [e, key, if_neg (by omega), Int.zero_mul, Int.add_zero] at l
  refine Int.eq_of_mul_eq_mul_left h1 ?_
  grind
theorem step_last {u v b : Nat → Int} (hu : Sol A k u b) (hv : Sol A k v (A k)) (h0 : det k A ≠ 0) : rem A k u b k = det (k + 1) (rp A k b) := by
  have e1 : det (k + 1) (rp A k fun r => rem A k u b r) = rem A k u b k * det k A := by
    rw [det_last (A := rp A k fun r => rem A k u b r) fun r hr => by
      rw [rp_at]
      unfold rem
      rw [hu r hr]
      omega]
    rw [rp_at]
    congr 1
    exact det_congr fun j r hj hr => by rw [rp_ne (by omega)]
  have l := det_lin (n := k + 1) (A := A) (i := k) (det k A) (-1) b (fun r => S k fun l => u l * A l r) (by omega)
  have e2 := det_comb (n := k + 1) (i := k) (A := A) u (by omega) k (by omega)
  rw [if_neg (by omega)] at e2
  have e3 : (fun r => det k A * b r + -1 * S k fun l => u l * A l r) = fun r => rem A k u b r := by funext r; unfold rem; omega
  rw [e3, e1, e2] at l
  refine Int.eq_of_mul_eq_mul_left h0 ?_
  grind
/-- the solutions, by determinants -/
def U (A : Nat → Nat → Int) (k : Nat) (b : Nat → Int) : Nat → Int := fun i => det k (rp A i b)
theorem sol_succ {b : Nat → Int} (hu : Sol A k (U A k b) b) (hv : Sol A k (U A k (A k)) (A k)) (h0 : det k A ≠ 0) (h1 : det (k + 1) A ≠ 0) : Sol A (k + 1) (U A (k + 1) b) b := by
  intro r hr
  refine Int.eq_of_mul_eq_mul_left h0 ?_
  show det k A * (S k (fun l => U A (k + 1) b l * A l r) + U A (k + 1) b k * A k r) = _
  have hl : U A (k + 1) b k = rem A k (U A k b) b k := (step_last hu hv h0).symm
  have hg := rem_det hv h0
  rw [Int.mul_add, ← S_mul, S_congr (g := fun l => det (k + 1) A * (U A k b l * A l r) - rem A k (U A k b) b k * (U A k (A k) l * A l r)) fun l hl => by
    have := step hu hv h0 h1 hl
    unfold U at *
    grind, S_sub, S_mul, S_mul, hl]
  by_cases hrk : r < k
  · rw [hu r hrk, hv r hrk]
    grind
  · obtain rfl : r = k := by omega
    have a1 : S r (fun l => U A r b l * A l r) = det r A * b r - rem A r (U A r b) b r := by unfold rem; omega
    have a2 : S r (fun l => U A r (A r) l * A l r) = det r A * A r r - det (r + 1) A := by rw [← hg]; unfold rem; omega
    rw [a1, a2]
    grind
theorem sol_all (n : Nat) (h : ∀ k, k ≤ n → det k A ≠ 0) : ∀ k, k ≤ n → ∀ b, Sol A k (U A k b) b
  | 0, _, b => fun r hr => by omega
  | k + 1, hk, b => sol_succ (sol_all n h k (by omega) b) (sol_all n h k (by omega) (A k)) (h k (by omega)) (h (k + 1) hk)
/-! ### Toeplitz matrices -/
theorem sol_uniq {w b : Nat → Int} (h : Sol A k w b) (h0 : det k A ≠ 0) {i : Nat} (hi : i < k) : w i = U A k b i := by
  have key := cramer (n := k) (i := i) (A := A) (v := fun r => det k A * b r) (x := w) hi fun r hr => (h r hr).symm
  have l := det_lin (n := k) (A := A) (i := i) (det k A) 0 b (fun _ => 0) hi
  have e : (fun r => det k A * b r + 0 * 0) = fun r => det k A * b r := by funext r; omega
  rw [e, key, Int.zero_mul, Int.add_zero, Int.mul_comm] at l
  exact Int.eq_of_mul_eq_mul_left h0 l
def tp (c : Nat → Int) : Nat → Nat → Int := fun j r => c (if j ≤ r then r - j else j - r)
theorem tp_symm (c : Nat → Int) (i j : Nat) : tp c i j = tp c j i := by
  unfold tp
  congr 1
  split <;> split <;> omega
theorem tp_le (c : Nat → Int) {i j : Nat} (h : i ≤ j) : tp c i j = c (j - i) := by
  unfold tp
  rw [if_pos h]
theorem tp_ge (c : Nat → Int) {i j : Nat} (h : j ≤ i) : tp c i j = c (i - j) := by rw [tp_symm, tp_le c h]
def c1 (c : Nat → Int) : Nat → Int := fun r => c (r + 1)
variable {c : Nat → Int}
theorem sol_rev {u : Nat → Int} (h : Sol (tp c) k u (c1 c)) : Sol (tp c) k (fun l => u (k - 1 - l)) (tp c k) := by
  intro r hr
  rw [← S_rev, S_congr (g := fun l => u l * tp c l (k - 1 - r)) fun l hl => ?_, h _ (by omega)]
  · unfold c1
    rw [tp_ge c (by omega), show k - 1 - r + 1 = k - r by omega]
  · show u (k - 1 - (k - 1 - l)) * tp c (k - 1 - l) r = _
    rw [show k - 1 - (k - 1 - l) = l by omega]
    congr 1
    unfold tp
    congr 1
    split <;> split <;> omega
/-- the last numerator -/
def lastN (c : Nat → Int) (k : Nat) (u : Nat → Int) : Int := det k (tp c) * c (k + 1) - S k fun l => u l * c (k - l)
theorem last_rem (u : Nat → Int) : rem (tp c) k u (c1 c) k = lastN c k u := by
  unfold rem lastN
  congr 1
  exact S_congr fun l hl => by rw [tp_le c (by omega)]
theorem den_eq {u : Nat → Int} (h : Sol (tp c) k u (c1 c)) (h0 : det k (tp c) ≠ 0) : det (k + 1) (tp c) = det k (tp c) * c 0 - S k fun l => u l * c (l + 1) := by
  rw [← rem_det (sol_rev h) h0]
  unfold rem
  rw [tp_le c (Nat.le_refl k), Nat.sub_self]
  congr 1
  rw [← S_rev]
  refine S_congr fun l hl => ?_
  show u (k - 1 - (k - 1 - l)) * tp c (k - 1 - l) k = _
  rw [show k - 1 - (k - 1 - l) = l by omega, tp_le c (by omega), show k - (k - 1 - l) = l + 1 by omega]
theorem lev_num {u : Nat → Int} (h : Sol (tp c) k u (c1 c)) (h0 : det k (tp c) ≠ 0) (h1 : det (k + 1) (tp c) ≠ 0) {i : Nat} (hi : i < k) : det (k + 1) (tp c) * u i - lastN c k u * u (k - 1 - i) = det k (tp c) * U (tp c) (k + 1) (c1 c) i := by
  have := step h (sol_rev h) h0 h1 hi
  rw [last_rem] at this
  exact this
theorem lev_last {u : Nat → Int} (h : Sol (tp c) k u (c1 c)) (h0 : det k (tp c) ≠ 0) : U (tp c) (k + 1) (c1 c) k = lastN c k u := by
  rw [← last_rem]
  exact (step_last h (sol_rev h) h0).symm
theorem lev_den (h : Sol (tp c) k (U (tp c) k (c1 c)) (c1 c)) (h' : Sol (tp c) (k + 1) (U (tp c) (k + 1) (c1 c)) (c1 c)) (h0 : det k (tp c) ≠ 0) (h1 : det (k + 1) (tp c) ≠ 0) : det k (tp c) * det (k + 2) (tp c) = det (k + 1) (tp c) * det (k + 1) (tp c) - lastN c k (U (tp c) k (c1 c)) * lastN c k (U (tp c) k (c1 c)) := by
  obtain ⟨u, hu⟩ : ∃ u, U (tp c) k (c1 c) = u := ⟨_, rfl⟩
  rw [hu] at h ⊢
  have a1 := den_eq h h0
  have a2 := den_eq h' h1
  have a3 := lev_last h h0
  have a4 : det k (tp c) * S k (fun l => U (tp c) (k + 1) (c1 c) l * c (l + 1)) = det (k + 1) (tp c) * S k (fun l => u l * c (l + 1)) - lastN c k u * S k (fun l => u l * c (k - l)) := by
    rw [← S_mul, ← S_mul, ← S_rev (fun l => u l * c (k - l)), ← S_mul, ← S_sub]
    refine S_congr fun l hl => ?_
    have := lev_num h h0 h1 hl
    rw [show k - (k - 1 - l) = l + 1 by omega]
    grind
  have a5 : S (k + 1) (fun l => U (tp c) (k + 1) (c1 c) l * c (l + 1)) = S k (fun l => U (tp c) (k + 1) (c1 c) l * c (l + 1)) + U (tp c) (k + 1) (c1 c) k * c (k + 1) := rfl
  rw [a5, a3] at a2
  have a6 : lastN c k u = det k (tp c) * c (k + 1) - S k fun l => u l * c (k - l) := rfl
  generalize S k (fun l => U (tp c) (k + 1) (c1 c) l * c (l + 1)) = m at *
  generalize S k (fun l => u l * c (l + 1)) = X at *
  generalize S k (fun l => u l * c (k - l)) = Y at *
  generalize lastN c k u = L at *
  generalize det (k + 2) (tp c) = d2 at *
  generalize det (k + 1) (tp c) = d1 at *
  generalize det k (tp c) = d0 at *
  grind
/-! ### positive definite -/
def PD (c : Nat → Int) : Prop := ∀ (k : Nat) (b : Nat → Int), b 0 ≠ 0 → 0 < S (k + 1) fun i => S (k + 1) fun j => b i * b j * tp c i j
theorem den_pos (hc : PD c) {u : Nat → Int} (h : Sol (tp c) k u (c1 c)) (h0 : 0 < det k (tp c)) : 0 < det (k + 1) (tp c) := by
  have hd := den_eq h (by omega)
  have hp := hc k (fun i => if i = 0 then det k (tp c) else -u (i - 1)) (by rw [if_pos rfl]; omega)
  rw [S_first, S_first] at hp
  rw [if_pos rfl, tp_le c (Nat.le_refl 0)] at hp
  have b1 : S k (fun i => (det k (tp c) * if i + 1 = 0 then det k (tp c) else -u (i + 1 - 1)) * tp c 0 (i + 1)) = -(det k (tp c) * S k fun l => u l * c (l + 1)) := by
    rw [← S_mul, ← S_neg]
    refine S_congr fun i hi => ?_
    rw [if_neg (by omega), tp_le c (by omega)]
    show det k (tp c) * -u i * c (i + 1) = _
    grind
  have b2 : S k (fun i => S (k + 1) fun j => ((if i + 1 = 0 then det k (tp c) else -u (i + 1 - 1)) * if j = 0 then det k (tp c) else -u (j - 1)) * tp c (i + 1) j) = 0 := by
    refine S_zero fun i hi => ?_
    rw [S_first, if_neg (by omega), if_pos rfl, tp_ge c (by omega)]
    show -u i * det k (tp c) * c (i + 1) + S k (fun j => (-u i * if j + 1 = 0 then _ else -u (j + 1 - 1)) * tp c (i + 1) (j + 1)) = 0
    rw [S_congr (g := fun j => u i * (u j * tp c j i)) fun j hj => ?_, S_mul, h i hi]
    · unfold c1
      grind
    · rw [if_neg (by omega)]
      have e : tp c (i + 1) (j + 1) = tp c j i := by
        unfold tp
        congr 1
        split <;> split <;> omega
      rw [e]
      show -u i * -u j * tp c j i = _
      grind
  rw [b1, b2] at hp
  have hq : 0 < det k (tp c) * det (k + 1) (tp c) := by
    rw [hd]
    generalize det k (tp c) = d at *
    generalize S k (fun l => u l * c (l + 1)) = X at *
    grind
  exact Int.pos_of_mul_pos_right hq (by omega)
theorem lev_all (hc : PD c) : ∀ k, 0 < det k (tp c) ∧ Sol (tp c) k (U (tp c) k (c1 c)) (c1 c)
  | 0 => ⟨by show (0 : Int) < 1; decide, fun r hr => by omega⟩
  | k + 1 => by
    obtain ⟨h0, hu⟩ := lev_all hc k
    have h1 := den_pos hc hu h0
    refine ⟨h1, ?_⟩
    have hv := sol_rev hu
    have hv' : Sol (tp c) k (U (tp c) k (tp c k)) (tp c k) := fun r hr => by
      rw [← hv r hr]
      exact S_congr fun l hl => by rw [← sol_uniq hv (by omega) hl]
    exact sol_succ hu hv' (by omega) (by omega)
/-! ### bounds -/
theorem last_lt (hc : PD c) (k : Nat) : -det (k + 1) (tp c) < lastN c k (U (tp c) k (c1 c)) ∧ lastN c k (U (tp c) k (c1 c)) < det (k + 1) (tp c) := by
  have h0 := lev_all hc k
  have h1 := lev_all hc (k + 1)
  have h2 := lev_all hc (k + 2)
  have hd := lev_den h0.2 h1.2 (by omega) (by omega)
  have hp : 0 < det k (tp c) * det (k + 2) (tp c) := Int.mul_pos h0.1 h2.1
  rw [hd] at hp
  have h1 := h1.1
  generalize lastN c k (U (tp c) k (c1 c)) = L at *
  generalize det (k + 1) (tp c) = d at *
  constructor
  · rcases Int.lt_or_le (-d) L with h | h
    · exact h
    · have : d * d ≤ -L * -L := Int.mul_le_mul (by omega) (by omega) (by omega) (by omega)
      rw [Int.neg_mul_neg] at this
      omega
  · rcases Int.lt_or_le L d with h | h
    · exact h
    · have : d * d ≤ L * L := Int.mul_le_mul h h (by omega) (by omega)
      omega
theorem den_le (hc : PD c) : ∀ k, det (k + 1) (tp c) ≤ c 0 * det k (tp c)
  | 0 => by
    have := den_eq (lev_all hc 0).2 (by show (1 : Int) ≠ 0; decide)
    rw [this]
    show (1 : Int) * c 0 - 0 ≤ c 0 * 1
    omega
  | k + 1 => by
    have ih := den_le hc k
    have h0 := lev_all hc k
    have h1 := lev_all hc (k + 1)
    have hd := lev_den h0.2 h1.2 (by omega) (by omega)
    have hL : 0 ≤ lastN c k (U (tp c) k (c1 c)) * lastN c k (U (tp c) k (c1 c)) := by
      rcases Int.lt_or_le (lastN c k (U (tp c) k (c1 c))) 0 with h | h
      · rw [← Int.neg_mul_neg]
        exact Int.mul_nonneg (by omega) (by omega)
      · exact Int.mul_nonneg h h
    have h3 : det (k + 1) (tp c) * det (k + 1) (tp c) ≤ det (k + 1) (tp c) * (c 0 * det k (tp c)) := Int.mul_le_mul_of_nonneg_left ih (by omega)
    have h4 : det k (tp c) * det (k + 2) (tp c) ≤ det k (tp c) * (c 0 * det (k + 1) (tp c)) := by
      rw [hd]
      generalize lastN c k (U (tp c) k (c1 c)) * lastN c k (U (tp c) k (c1 c)) = L2 at *
      generalize det (k + 1) (tp c) = d1 at *
      generalize det k (tp c) = d0 at *
      generalize c 0 = c0 at *
      have : d1 * (c0 * d0) = d0 * (c0 * d1) := by grind
      omega
    exact Int.le_of_mul_le_mul_left h4 h0.1
theorem den_pow (hc : PD c) : ∀ k, det k (tp c) ≤ c 0 ^ k
  | 0 => by rw [Int.pow_zero]; exact Int.le_refl 1
  | k + 1 => by
    have h1 := den_le hc k
    have h2 := den_pow hc k
    have h0 : 0 ≤ c 0 := by
      have := (lev_all hc 1).1
      have h : det 1 (tp c) ≤ c 0 * 1 := den_le hc 0
      omega
    have h3 : c 0 * det k (tp c) ≤ c 0 * c 0 ^ k := Int.mul_le_mul_of_nonneg_left h2 h0
    rw [Int.pow_succ, Int.mul_comm (c 0 ^ k)]
    omega
theorem num_le (hc : PD c) : ∀ k i, i < k → -(2 ^ k * det k (tp c)) ≤ U (tp c) k (c1 c) i ∧ U (tp c) k (c1 c) i ≤ 2 ^ k * det k (tp c)
  | 0, i, h => by omega
  | k + 1, i, hi => by
    have h0 := lev_all hc k
    have h1 := lev_all hc (k + 1)
    have hl := last_lt hc k
    have hp : (1 : Int) ≤ 2 ^ (k + 1) := by
      have : (0 : Int) < 2 ^ (k + 1) := Int.pow_pos (by decide)
      omega
    by_cases e : i = k
    · subst e
      rw [lev_last h0.2 (by omega)]
      have : 1 * det (i + 1) (tp c) ≤ 2 ^ (i + 1) * det (i + 1) (tp c) := Int.mul_le_mul_of_nonneg_right hp (by omega)
      omega
    · have ih1 := num_le hc k i (by omega)
      have ih2 := num_le hc k (k - 1 - i) (by omega)
      have hs := lev_num h0.2 (by omega) (by omega) (show i < k by omega)
      have hd0 := h0.1
      have hd1 := h1.1
      generalize U (tp c) (k + 1) (c1 c) i = m at *
      generalize U (tp c) k (c1 c) i = x at *
      generalize U (tp c) k (c1 c) (k - 1 - i) = y at *
      generalize lastN c k (U (tp c) k (c1 c)) = L at *
      generalize det (k + 1) (tp c) = d1 at *
      generalize det k (tp c) = d0 at *
      obtain ⟨p, hpe⟩ : ∃ p : Int, 2 ^ k = p := ⟨_, rfl⟩
      have hp0 : 0 < p := by rw [← hpe]; exact Int.pow_pos (by decide)
      rw [Int.pow_succ, hpe]
      rw [hpe] at ih1 ih2
      obtain ⟨B, hB⟩ : ∃ B, p * d0 = B := ⟨_, rfl⟩
      rw [hB] at ih1 ih2
      have hB0 : 0 ≤ B := by rw [← hB]; exact Int.mul_nonneg (by omega) (by omega)
      have a1 : d1 * x ≤ d1 * B := Int.mul_le_mul_of_nonneg_left ih1.2 (by omega)
      have a2 : d1 * -B ≤ d1 * x := Int.mul_le_mul_of_nonneg_left ih1.1 (by omega)
      have a3 : L * y ≤ d1 * B ∧ -(d1 * B) ≤ L * y := by
        rcases Int.lt_or_le L 0 with h | h
        · have b1 : -L * y ≤ -L * B := Int.mul_le_mul_of_nonneg_left ih2.2 (by omega)
          have b2 : -L * -B ≤ -L * y := Int.mul_le_mul_of_nonneg_left ih2.1 (by omega)
          have b3 : -L * B ≤ d1 * B := Int.mul_le_mul_of_nonneg_right (by omega) hB0
          simp only [Int.neg_mul, Int.mul_neg, Int.neg_neg] at b1 b2 b3
          omega
        · have b1 : L * y ≤ L * B := Int.mul_le_mul_of_nonneg_left ih2.2 h
          have b2 : L * -B ≤ L * y := Int.mul_le_mul_of_nonneg_left ih2.1 h
          have b3 : L * B ≤ d1 * B := Int.mul_le_mul_of_nonneg_right (by omega) hB0
          rw [Int.mul_neg] at b2
          omega
      rw [Int.mul_neg] at a2
      have a4 : d0 * (p * 2 * d1) = 2 * (d1 * B) := by rw [← hB]; grind
      constructor
      · refine Int.le_of_mul_le_mul_left ?_ hd0
        rw [Int.mul_neg, a4, ← hs]
        omega
      · refine Int.le_of_mul_le_mul_left ?_ hd0
        rw [a4, ← hs]
        omega
/-! ### sums of products of a finite row -/
theorem S_split (g : Nat → Int) (a : Nat) : ∀ b, S (a + b) g = S a g + S b fun t => g (a + t)
  | 0 => by show S a g = S a g + 0; omega
  | b + 1 => by
    show S (a + b) g + g (a + b) = S a g + (S b (fun t => g (a + t)) + g (a + b))
    rw [S_split g a b]
    omega
theorem S_nonneg {f : Nat → Int} : ∀ {n : Nat}, (∀ i, i < n → 0 ≤ f i) → 0 ≤ S n f
  | 0, _ => Int.le_refl 0
  | n + 1, h => by
    show 0 ≤ S n f + f n
    have := S_nonneg (n := n) fun i hi => h i (by omega)
    have := h n (by omega)
    omega
theorem S_pos {f : Nat → Int} {i : Nat} : ∀ {n : Nat}, i < n → (∀ j, j < n → 0 ≤ f j) → 0 < f i → 0 < S n f
  | 0, h, _, _ => by omega
  | n + 1, h, h0, hp => by
    show 0 < S n f + f n
    by_cases e : i = n
    · subst e
      have := S_nonneg (n := i) fun j hj => h0 j (by omega)
      omega
    · have := S_pos (n := n) (by omega) (fun j hj => h0 j (by omega)) hp
      have := h0 n (by omega)
      omega
theorem sq_pos {x : Int} (h : x ≠ 0) : 0 < x * x := by
  rcases Int.lt_or_gt_of_ne h with h | h
  · exact Int.mul_pos_of_neg_of_neg h h
  · exact Int.mul_pos h h
theorem sq_nn (x : Int) : 0 ≤ x * x := by
  by_cases h : x = 0
  · rw [h]; decide
  · exact Int.le_of_lt (sq_pos h)
theorem pd_ac {x : Nat → Int} {N t0 : Nat} (hN : ∀ t, N ≤ t → x t = 0) (h0 : x t0 ≠ 0) (hl : ∀ t, t0 < t → x t = 0) (hc : ∀ j, c j = S N fun t => x t * x (t + j)) : PD c := by
  intro k b hb
  obtain ⟨z, hz⟩ : ∃ z : Nat → Int, z = fun t => if t < k then 0 else x (t - k) := ⟨_, rfl⟩
  have z0 : ∀ t, t < k → z t = 0 := fun t h => by rw [hz]; exact if_pos h
  have z1 : ∀ t, z (k + t) = x t := fun t => by
    rw [hz]
    show (if k + t < k then 0 else x (k + t - k)) = _
    rw [if_neg (by omega), Nat.add_sub_cancel_left]
  have z2 : ∀ t, k + N ≤ t → z t = 0 := fun t h => by
    obtain ⟨s, rfl⟩ : ∃ s, t = k + s := ⟨t - k, by omega⟩
    rw [z1]
    exact hN s (by omega)
  have tn : t0 < N := by
    rcases Nat.lt_or_ge t0 N with h | h
    · exact h
    · exact absurd (hN t0 h) h0
  have sh : ∀ i d, i ≤ k → S (k + N) (fun t => z (t + i) * z (t + i + d)) = c d := fun i d hi => by
    rw [hc]
    have e1 : S (i + (k + N)) (fun s => z s * z (s + d)) = S (k + N) fun t => z (t + i) * z (t + i + d) := by
      rw [S_split, S_zero fun s hs => by rw [z0 s (by omega), Int.zero_mul], Int.zero_add]
      exact S_congr fun t _ => by rw [Nat.add_comm i t]
    rw [← e1, Nat.add_comm i, S_split, S_split]
    rw [S_zero (n := k) fun s hs => by rw [z0 s hs, Int.zero_mul], S_zero (n := i) fun s hs => by rw [z2 _ (by omega), Int.zero_mul]]
    rw [Int.zero_add, Int.add_zero]
    exact S_congr fun t _ => by rw [z1, Nat.add_assoc, z1]
  have pr : ∀ i j, i ≤ k → j ≤ k → S (k + N) (fun t => z (t + i) * z (t + j)) = tp c i j := fun i j hi hj => by
    rcases Nat.le_total i j with h | h
    · rw [tp_le c h, ← sh i (j - i) hi]
      exact S_congr fun t _ => by rw [show t + i + (j - i) = t + j by omega]
    · rw [tp_ge c h, ← sh j (i - j) hj]
      exact S_congr fun t _ => by rw [show t + j + (i - j) = t + i by omega, Int.mul_comm]
  have hs : S (k + N) (fun t => (S (k + 1) fun i => b i * z (t + i)) * S (k + 1) fun i => b i * z (t + i)) = S (k + 1) fun i => S (k + 1) fun j => b i * b j * tp c i j := by
    have e1 : ∀ t, ((S (k + 1) fun i => b i * z (t + i)) * S (k + 1) fun i => b i * z (t + i)) = S (k + 1) fun i => S (k + 1) fun j => b i * b j * (z (t + i) * z (t + j)) := fun t => by
      rw [← S_mulr]
      refine S_congr fun i _ => ?_
      rw [← S_mul]
      exact S_congr fun j _ => by grind
    rw [S_congr fun t _ => e1 t, S_comm]
    refine S_congr fun i hi => ?_
    rw [S_comm]
    refine S_congr fun j hj => ?_
    rw [S_mul, pr i j (by omega) (by omega)]
  rw [← hs]
  refine S_pos (i := k + t0) (by omega) (fun t _ => sq_nn _) (sq_pos ?_)
  rw [S_one (i := 0) (by omega) fun i hi hne => by rw [Nat.add_assoc, z1, hl _ (by omega), Int.mul_zero], Nat.add_zero, z1]
  intro h
  rcases Int.mul_eq_zero.mp h with h | h
  · exact hb h
  · exact h0 h
end DT

namespace DT
/-! ### bordered minors, sizes -/
section
variable {A : Nat → Nat → Int} {k : Nat}
def brd (A : Nat → Nat → Int) (k i j : Nat) : Int := rem A k (U A k (A j)) (A j) i
theorem brd_zero (A : Nat → Nat → Int) (i j : Nat) : brd A 0 i j = A j i := by
  show (1 : Int) * A j i - 0 = A j i
  omega
theorem brd_diag (hv : Sol A k (U A k (A k)) (A k)) (h0 : det k A ≠ 0) : brd A k k k = det (k + 1) A := rem_det hv h0
theorem rem_step (hs : ∀ b, Sol A k (U A k b) b) (h0 : det k A ≠ 0) (h1 : det (k + 1) A ≠ 0) (b : Nat → Int) (i : Nat) : rem A k (U A k b) b i * det (k + 1) A - rem A k (U A k (A k)) (A k) i * rem A k (U A k b) b k = det k A * rem A (k + 1) (U A (k + 1) b) b i := by
  have hl : U A (k + 1) b k = rem A k (U A k b) b k := (step_last (hs b) (hs (A k)) h0).symm
  have hS : det k A * S (k + 1) (fun l => U A (k + 1) b l * A l i) = det (k + 1) A * S k (fun l => U A k b l * A l i) - rem A k (U A k b) b k * S k (fun l => U A k (A k) l * A l i) + det k A * (rem A k (U A k b) b k * A k i) := by
    show det k A * (S k (fun l => U A (k + 1) b l * A l i) + U A (k + 1) b k * A k i) = _
    rw [hl, Int.mul_add, ← S_mul, ← S_mul, ← S_mul, ← S_sub]
    congr 1
    refine S_congr fun l hl => ?_
    have := step (hs b) (hs (A k)) h0 h1 hl
    unfold U at *
    grind
  have e1 : rem A (k + 1) (U A (k + 1) b) b i = det (k + 1) A * b i - S (k + 1) (fun l => U A (k + 1) b l * A l i) := rfl
  have e2 : rem A k (U A k b) b i = det k A * b i - S k (fun l => U A k b l * A l i) := rfl
  have e3 : rem A k (U A k (A k)) (A k) i = det k A * A k i - S k (fun l => U A k (A k) l * A l i) := rfl
  rw [e1, Int.mul_sub, hS, e2, e3]
  generalize rem A k (U A k b) b k = f
  grind
theorem brd_step (hs : ∀ b, Sol A k (U A k b) b) (h0 : det k A ≠ 0) (h1 : det (k + 1) A ≠ 0) (i j : Nat) : brd A k i j * brd A k k k - brd A k i k * brd A k k j = det k A * brd A (k + 1) i j := by
  have hg := brd_diag (hs (A k)) h0
  rw [hg]
  exact rem_step hs h0 h1 (A j) i
/-- what stands in row i after k steps, in the column that was b -/
def gj (A : Nat → Nat → Int) (k : Nat) (b : Nat → Int) (i : Nat) : Int := if i < k then U A k b i else rem A k (U A k b) b i
theorem gj_zero (A : Nat → Nat → Int) (b : Nat → Int) (i : Nat) : gj A 0 b i = b i := by
  show (1 : Int) * b i - 0 = b i
  omega
theorem gj_pivot (hs : ∀ b, Sol A k (U A k b) b) (h0 : det k A ≠ 0) : gj A k (A k) k = det (k + 1) A := by
  unfold gj
  rw [if_neg (by omega)]
  exact rem_det (hs (A k)) h0
theorem gj_keep (hs : ∀ b, Sol A k (U A k b) b) (h0 : det k A ≠ 0) (b : Nat → Int) : gj A (k + 1) b k = gj A k b k := by
  unfold gj
  rw [if_pos (by omega), if_neg (by omega)]
  exact (step_last (hs b) (hs (A k)) h0).symm
theorem gj_step (hs : ∀ b, Sol A k (U A k b) b) (h0 : det k A ≠ 0) (h1 : det (k + 1) A ≠ 0) (b : Nat → Int) {i : Nat} (hi : i ≠ k) : gj A k b i * det (k + 1) A - gj A k (A k) i * gj A k b k = det k A * gj A (k + 1) b i := by
  unfold gj
  rw [if_neg (show ¬ k < k by omega)]
  by_cases h : i < k
  · rw [if_pos h, if_pos h, if_pos (by omega)]
    have := step (hs b) (hs (A k)) h0 h1 h
    unfold U at *
    grind
  · rw [if_neg h, if_neg h, if_neg (by omega)]
    exact rem_step hs h0 h1 b i
end
def Bt (N : Nat) (x : Int) : Prop := x.natAbs < 2 ^ N
section
variable {N M : Nat} {x y : Int}
theorem Bt.mono (h : Bt N x) (hn : N ≤ M) : Bt M x := Nat.lt_of_lt_of_le h (Nat.pow_le_pow_right (by decide) hn)
theorem Bt.log (h : Bt N x) : x.natAbs.log2 ≤ N := by
  by_cases h0 : x.natAbs = 0
  · rw [h0]
    exact Nat.zero_le _
  · have := (Nat.log2_lt h0).mpr h
    omega
theorem Bt.mul (h1 : Bt N x) (h2 : Bt M y) : Bt (N + M) (x * y) := by
  unfold Bt at *
  rw [Int.natAbs_mul, Nat.pow_add]
  exact Nat.mul_lt_mul'' h1 h2
theorem Bt.add (h1 : Bt N x) (h2 : Bt N y) : Bt (N + 1) (x + y) := by
  unfold Bt at *
  have := Int.natAbs_add_le x y
  rw [Nat.pow_succ]
  omega
theorem Bt.neg (h : Bt N x) : Bt N (-x) := by
  unfold Bt at *
  rwa [Int.natAbs_neg]
theorem Bt.sub (h1 : Bt N x) (h2 : Bt N y) : Bt (N + 1) (x - y) := by
  rw [Int.sub_eq_add_neg]
  exact h1.add h2.neg
theorem Bt.S {f : Nat → Int} {s : Nat} : ∀ {n : Nat}, (∀ i, i < n → Bt N (f i)) → n ≤ 2 ^ s → Bt (N + s) (S n f) := by
  intro n h hn
  have key : ∀ m, m ≤ n → (DT.S m f).natAbs + m ≤ m * 2 ^ N := by
    intro m
    induction m with
    | zero => intro _; show (0 : Int).natAbs + 0 ≤ 0 * 2 ^ N; rw [Nat.zero_mul]; decide
    | succ m ih =>
      intro hm
      have h1 := ih (by omega)
      have h2 : (f m).natAbs < 2 ^ N := h m (by omega)
      have h3 := Int.natAbs_add_le (DT.S m f) (f m)
      show (DT.S m f + f m).natAbs + (m + 1) ≤ (m + 1) * 2 ^ N
      rw [Nat.succ_mul]
      omega
  have h1 := key n (Nat.le_refl n)
  have h2 : n * 2 ^ N ≤ 2 ^ s * 2 ^ N := Nat.mul_le_mul_right _ hn
  have h3 : 0 < 2 ^ (N + s) := Nat.two_pow_pos _
  show (DT.S n f).natAbs < 2 ^ (N + s)
  rw [Nat.pow_add, Nat.mul_comm] at *
  by_cases h0 : n = 0
  · subst h0
    exact h3
  · omega
end
theorem sg_abs (j : Nat) : (sg j).natAbs = 1 := by
  unfold sg
  split <;> rfl
theorem det_bt {m : Nat} : ∀ {n : Nat} {A : Nat → Nat → Int}, (∀ j r, Bt m (A j r)) → n ≤ 64 → Bt (n * (m + 6) + 1) (det n A)
  | 0, A, _, _ => by show (1 : Int).natAbs < 2 ^ (0 * (m + 6) + 1); rw [Nat.zero_mul]; decide
  | n + 1, A, h, hn => by
    have h1 : Bt (m + (n * (m + 6) + 1) + 6) (det (n + 1) A) := Bt.S (s := 6) (fun j hj => by
      have a1 : Bt m (sg j * A j 0) := by
        unfold Bt
        rw [Int.natAbs_mul, sg_abs, Nat.one_mul]
        exact h j 0
      exact a1.mul (det_bt (A := del j A) (fun i r => h _ _) (by omega))) (by omega)
    refine h1.mono ?_
    rw [Nat.succ_mul]
    omega
theorem rp_bt {m i : Nat} {A : Nat → Nat → Int} {b : Nat → Int} (h : ∀ j r, Bt m (A j r)) (hb : ∀ r, Bt m (b r)) : ∀ j r, Bt m (rp A i b j r) := fun j r => by
  unfold rp
  split
  · exact hb r
  · exact h j r
theorem tp_bt {m : Nat} {c : Nat → Int} (h : ∀ j, Bt m (c j)) : ∀ j r, Bt m (tp c j r) := fun _ _ => h _
theorem U_bt {m n i : Nat} {A : Nat → Nat → Int} {b : Nat → Int} (h : ∀ j r, Bt m (A j r)) (hb : ∀ r, Bt m (b r)) (hn : n ≤ 64) : Bt (n * (m + 6) + 1) (U A n b i) := det_bt (rp_bt h hb) hn
theorem brd_bt {m k : Nat} {A : Nat → Nat → Int} (h : ∀ j r, Bt m (A j r)) (hk : k ≤ 64) (i j : Nat) : Bt (k * (m + 6) + m + 8) (brd A k i j) := by
  have h1 : Bt (k * (m + 6) + 1 + m) (det k A * A j i) := (det_bt h hk).mul (h j i)
  have h2 : Bt (k * (m + 6) + 1 + m + 6) (S k fun l => U A k (A j) l * A l i) := Bt.S (s := 6) (fun l _ => (U_bt h (fun r => h j r) hk).mul (h l i)) (by omega)
  exact ((h1.mono (by omega)).sub h2).mono (by omega)
theorem rem_bt {m k i : Nat} {A : Nat → Nat → Int} {b : Nat → Int} (h : ∀ j r, Bt m (A j r)) (hb : ∀ r, Bt m (b r)) (hk : k ≤ 64) : Bt (k * (m + 6) + m + 8) (rem A k (U A k b) b i) := by
  have h1 : Bt (k * (m + 6) + 1 + m) (det k A * b i) := (det_bt h hk).mul (hb i)
  have h2 : Bt (k * (m + 6) + 1 + m + 6) (S k fun l => U A k b l * A l i) := Bt.S (s := 6) (fun l _ => (U_bt h hb hk).mul (h l i)) (by omega)
  exact ((h1.mono (by omega)).sub h2).mono (by omega)
theorem gj_bt {m k i : Nat} {A : Nat → Nat → Int} {b : Nat → Int} (h : ∀ j r, Bt m (A j r)) (hb : ∀ r, Bt m (b r)) (hk : k ≤ 64) : Bt (k * (m + 6) + m + 8) (gj A k b i) := by
  unfold gj
  split
  · exact (U_bt h hb hk).mono (by omega)
  · exact rem_bt h hb hk
end DT

/-! ### the predictors of an autocorrelation: what the program finds -/
open DT (Bt PD tp Sol)
def lf (n : Nat) (f : Nat → Int) : List Int := (List.range n).map f
theorem lf_len (n : Nat) (f : Nat → Int) : (lf n f).length = n := by unfold lf; rw [List.length_map, List.length_range]
theorem lf_at {n i : Nat} {f : Nat → Int} (h : i < n) : (lf n f)[i]? = some (f i) := by unfold lf; rw [List.getElem?_map, List.getElem?_range h]; rfl
theorem lf_succ (n : Nat) (f : Nat → Int) : lf (n + 1) f = lf n f ++ [f n] := by unfold lf; rw [List.range_succ, List.map_append]; rfl
theorem lf_congr {n : Nat} {f g : Nat → Int} (h : ∀ i, i < n → f i = g i) : lf n f = lf n g := List.map_congr_left fun i hi => h i (List.mem_range.mp hi)
theorem lf_sum (f : Nat → Int) : ∀ n, (lf n f).sum = DT.S n f
  | 0 => rfl
  | n + 1 => by
    rw [lf_succ, List.sum_append, lf_sum f n]
    show DT.S n f + (f n + 0) = DT.S n f + f n
    omega
theorem lf_rev (n : Nat) (f : Nat → Int) : (lf n f).reverse = lf n fun i => f (n - 1 - i) := by
  apply List.ext_getElem?
  intro i
  by_cases h : i < n
  · rw [List.getElem?_reverse (by rw [lf_len]; exact h), lf_len, lf_at (by omega), lf_at h]
  · rw [List.getElem?_eq_none (by rw [List.length_reverse, lf_len]; omega), List.getElem?_eq_none (by rw [lf_len]; omega)]
def Dn (c : Nat → Int) (k : Nat) : Int := DT.det k (tp c)
def Un (c : Nat → Int) (k : Nat) : Nat → Int := DT.U (tp c) k (DT.c1 c)
theorem cmulw {N M : Nat} {x y : Int} (h1 : Bt N x) (h2 : Bt M y) (h : N + M < 1000000) : CMulW x y := by
  have a := h1.log
  have b := h2.log
  show x.natAbs.log2 + y.natAbs.log2 < 1000000
  omega
theorem cdivw {N : Nat} {x y : Int} (h0 : 0 < y) (h1 : Bt N y) (h : N < 9000) : CDivW x y := ⟨h0, by have := h1.log; omega⟩
theorem dn_bt {c : Nat → Int} {m k : Nat} (h : ∀ j, Bt m (c j)) (hk : k ≤ 64) : Bt (k * (m + 6) + 1) (Dn c k) := DT.det_bt (DT.tp_bt h) hk
theorem un_bt {c : Nat → Int} {m k i : Nat} (h : ∀ j, Bt m (c j)) (hk : k ≤ 64) : Bt (k * (m + 6) + 1) (Un c k i) := DT.U_bt (DT.tp_bt h) (fun r => h _) hk
theorem ln_bt {c u : Nat → Int} {m k : Nat} (h : ∀ j, Bt m (c j)) (hu : ∀ i, Bt (k * (m + 6) + 1) (u i)) (hk : k ≤ 64) : Bt (k * (m + 6) + m + 8) (DT.lastN c k u) := by
  have h1 : Bt (k * (m + 6) + 1 + m) (DT.det k (tp c) * c (k + 1)) := (dn_bt h hk).mul (h _)
  have h2 : Bt (k * (m + 6) + 1 + m + 6) (DT.S k fun l => u l * c (k - l)) := DT.Bt.S (s := 6) (fun l _ => (hu l).mul (h _)) (by omega)
  exact ((h1.mono (by omega)).sub h2).mono (by omega)
def sp_last (K : PySem.W.Frag) : Sp := fun vs H Q _ => ∃ (a b : Addr) (c u : Nat → Int) (n k m : Nat), vs = [.ref a, .ref b, .int (Dn c k)] ∧ SqL K H a ((lf n c).map V.int) ∧ SqL K H b ((lf k u).map V.int) ∧ k + 1 < n ∧ n ≤ 64 ∧ m ≤ 100 ∧ (∀ j, Bt m (c j)) ∧ (∀ i, Bt (k * (m + 6) + 1) (u i)) ∧ RetV (.int (DT.lastN c k u)) H Q
theorem ok_last_numerator (T : TX K mg) : FnOk P w K mg base CX0 1 T.a_last_numerator T.d_last_numerator ["correlation", "numerators", "denominator"] (sp_last K) := by
  refine T.F_last_numerator.ok sc_last_numerator (fun vs H Q E h => by obtain ⟨a, b, c, u, n, k, m, rfl, _⟩ := h; rfl) (fun cdv A outer s H vs Q E hr h => ?_)
  obtain ⟨a, b, c, u, n, k, m, rfl, hA, hB, hkn, hn, hm, hc, hu, q⟩ := h
  refine ⟨_, (pss_cons (ps_set (i := 3) sc_last_numerator.nd rfl (Or.inr rfl) (pe_op op_add (pe_callB (r := rLenS K) call_len_seq (by rfl) T.m_len PySem.boot_len (pa_cons (pv 1) pa_nil)) pe_int))
      (pss_cons (ps_set (i := 4) sc_last_numerator.nd rfl (Or.inl rfl) (pe_callB (r := rSum K) (cr_sum rfl) (by rfl) T.m_sum PyProof.Rows.boot_sum (pa_cons (pe_lc (own := [("at", 5)]) (g := gName 5) (tt := tYes) rfl sc_last_numerator.nd (pi_range1 (by rfl) T.m_range (pa_cons (pe_callB (r := rLenS K) call_len_seq (by rfl) T.m_len PySem.boot_len (pa_cons (pv 1) pa_nil)) pa_nil)) (blkOk_by (N := ["correlation", "numerators", "denominator", "order", "known", "at"]) (sc := defScope s_last_numerator) (by decide +kernel)) (fun _ _ _ _ _ => pg_name (i := 5) sc_last_numerator.nd rfl (Or.inl rfl)) (fun _ _ _ _ _ => pts_nil) (fun _ _ _ _ _ => (pe_op op_mulW (pe_ix (r := rIxL K) ix_list (pv 1) (pv 5) (fun _ _ => rfl)) (pe_ix (r := rIxL K) ix_list (pv 0) (pe_op op_sub (pe_op op_sub (pv 3) pe_int) (pv 5)) (fun _ _ => rfl))))) pa_nil)))
      (pss_one (ps_ret (pe_op op_sub (pe_op op_mulW (pv 2) (pe_ix (r := rIxL K) ix_list (pv 0) (pv 3) (fun _ _ => rfl))) (pv 4)))))), ?_⟩
  have hlB : ∀ {σ : L2.St} {G : Hp}, Ex H G → σ[1]? = some (some (.ref b)) → Ev (tCB (rLenS K) (tCons (tVar 1) tNil)) σ G (.int (k : Int)) := fun e h => Ev.is (ev_lenS (K := K) (Ev.s (ev_var h) (ex_l e hB))) (by rw [List.length_map, lf_len])
  refine q_asg (v := .int ((k + 1 : Nat) : Int)) (Ev.is (ev_I0 (g := fun i j => .int (i + j)) (hlB (Ex.refl _) rfl) ev_c) (congrArg V.int (by omega))) fun H1 e1 => ?_
  have hkm : k * (m + 6) ≤ 64 * 106 := Nat.mul_le_mul (by omega) (by omega)
  refine q_asg (v := .int (DT.S k fun l => u l * c (k - l))) (Ev.is (ev_sum (K := K) (ns := lf k fun l => u l * c (k - l)) (EvR.s (EvL.r (el_lcR (n := (k : Int)) _ (ea_cons (hlB e1 rfl) ea_nil) (by omega) (by rw [List.length_map, lf_len, Int.toNat_natCast]) (by rw [List.length_map, lf_len]; omega) (fun _ => rfl) fun i H2 e2 hi => ?_)))) (by rw [lf_sum])) fun H2 e2 => ?_
  · rw [List.length_map, lf_len] at hi
    exact ⟨_, at_int (lf_at hi), ev_I (ev_at (n := (i : Int)) (Ev.s (ev_var rfl) (ex_l (e1.trans e2) hB)) (ev_var rfl) (at_of (j := i) rfl (at_int (lf_at hi)))) (ev_at (n := ((k - i : Nat) : Int)) (Ev.s (ev_var rfl) (ex_l (e1.trans e2) hA)) (Ev.is (ev_I0 (g := fun i j => .int (i - j)) (ev_I0 (g := fun i j => .int (i - j)) (ev_var rfl) ev_c) (ev_var rfl)) (congrArg V.int (by omega))) (at_of (j := k - i) rfl (at_int (lf_at (by omega))))) (cmulw (hu i) (hc _) (by omega))⟩
  exact s_ret (v := .int (DT.lastN c k u)) (ev_I0 (g := fun i j => .int (i - j)) (ev_I (ev_var rfl) (ev_at (n := ((k + 1 : Nat) : Int)) (Ev.s (ev_var rfl) (ex_l (e1.trans e2) hA)) (ev_var rfl) (at_of (j := k + 1) rfl (at_int (lf_at (by omega))))) (cmulw (dn_bt hc (by omega)) (hc _) (by omega))) (ev_var rfl)) fun H3 e3 => q H3 (e1.trans (e2.trans e3))
theorem el_listRev {σ : L2.St} {H : Hp} {te : TE} {xs : List V} (h : EvS K te σ H xs) : EvL (tListRev K te) σ H xs.reverse := fun H1 e Q q =>
  h H1 e _ fun p H2 e2 hp => ⟨p, xs, rfl, hp, fun r hr => q r _ (fresh_back e2 hr) (e2.trans (Ex.new hr)) upd_same⟩
theorem q_appX {σ : L2.St} {H : Hp} {ta te : TE} {l : Addr} {xs : List V} {D : Ends} {tz : TS} {S : V → Hp → Prop} (hl : H l = some (.lst xs)) (ha : Ev ta σ H (.ref l)) (h : EvX te σ H S) (hz : xs.length < 100000) (k : ∀ v H1, Ex H H1 → S v H1 → tz D σ (upd H1 l (.lst (xs ++ [v])))) : tSeq (tDrop (tBM K "list" rAppend ta (tCons te tNil))) tz D σ H :=
  ha H (Ex.refl _) _ fun H1 e1 => ⟨.inl ⟨rfl, xs, sq_of (e1 _ _ hl)⟩, h H1 e1 _ fun v H2 e2 hv => ⟨l, xs, v, rfl, rfl, (e1.trans e2) _ _ hl, sz_lt hz, k v H2 (e1.trans e2) hv⟩⟩
theorem s_par {σ : L2.St} {H : Hp} {ta : TA} {i j : Nat} {v w : V} {D : Ends} (h : EvA ta σ H [v, w]) (k : ∀ H1, Ex H H1 → D.nx ((σ.set i (some v)).set j (some w)) H1) : tPar i j ta D σ H := h H (Ex.refl _) _ fun H1 e => ⟨v, w, rfl, k H1 e⟩
theorem s_asgTup2 {σ : L2.St} {H : Hp} {ta : TA} {i j : Nat} {v w : V} {D : Ends} (h : EvA ta σ H [v, w]) (k : ∀ H1, Ex H H1 → D.nx ((σ.set i (some v)).set j (some w)) H1) : tAsg (tTup ta) (gTup K 2 (gCons (gName i) (gCons (gName j) gNil))) D σ H := eu_tup h (show 2 ≤ 100000 by decide) H (Ex.refl _) _ fun p H1 _ e g => ⟨p, [v, w], rfl, st_of g, rfl, v, [w], rfl, w, [], rfl, rfl, k H1 e⟩
theorem ex_tupN2 {σ : L2.St} {H : Hp} {t1 t2 : TE} {x y : V} (h1 : Ev t1 σ H x) (h2 : Ev t2 σ H y) : EvX (tTup (tCons t1 (tCons t2 tNil))) σ H (fun v H' => ∃ t, v = .ref t ∧ H t = none ∧ H' t = some (.tup [x, y])) := fun H1 e Q q =>
  h1 H1 e _ fun H2 e2 => h2 H2 (e.trans e2) _ fun H3 e3 => ⟨sz_of (show 2 ≤ 100000 by decide), fun t ht => q (.ref t) _ ((e2.trans e3).trans (Ex.new ht)) ⟨t, rfl, fresh_back (e.trans (e2.trans e3)) ht, upd_same⟩⟩
/-- the entry of order k + 1 -/
def ExAt (c : Nat → Int) (H : Hp) (t : Addr) (k : Nat) : Prop := ∃ nl, H t = some (.tup [.ref nl, .int (Dn c (k + 1))]) ∧ H nl = some (.lst ((lf (k + 1) (Un c (k + 1))).map V.int))
theorem ExAt.ex {c : Nat → Int} {H H' : Hp} {t : Addr} {k : Nat} (h : ExAt c H t k) (e : Ex H H') : ExAt c H' t k := by
  obtain ⟨nl, h1, h2⟩ := h
  exact ⟨nl, e _ _ h1, e _ _ h2⟩
def ExL (c : Nat → Int) (H : Hp) (L t : Addr) (k : Nat) : Prop := ∃ nl, nl ≠ L ∧ t ≠ L ∧ H t = some (.tup [.ref nl, .int (Dn c (k + 1))]) ∧ H nl = some (.lst ((lf (k + 1) (Un c (k + 1))).map V.int))
theorem ExL.to {c : Nat → Int} {H H' : Hp} {L t : Addr} {k : Nat} (h : ExL c H L t k) (e : ∀ a o, a ≠ L → H a = some o → H' a = some o) : ExL c H' L t k := by
  obtain ⟨nl, h1, h2, h3, h4⟩ := h
  exact ⟨nl, h1, h2, e _ _ h2 h3, e _ _ h1 h4⟩
def sp_exact (K : PySem.W.Frag) : Sp := fun vs H Q _ => ∃ (a : Addr) (c : Nat → Int) (n m : Nat), vs = [.ref a] ∧ SqL K H a ((lf n c).map V.int) ∧ 1 ≤ n ∧ n ≤ 64 ∧ m ≤ 100 ∧ (∀ j, Bt m (c j)) ∧ (c 0 ≠ 0 → PD c) ∧
  ∀ L (ts : List Addr) H', H L = none → Ex H H' → H' L = some (.lst (ts.map V.ref)) → ts.length = (if c 0 = 0 then 0 else n - 1) → (∀ k t, ts[k]? = some t → ExAt c H' t k) → Q (.ref L) H'
theorem ok_exact_predictors (T : TX K mg) : FnOk P w K mg base CX0 2 T.a_exact_predictors T.d_exact_predictors ["correlation"] (sp_exact K) := by
  refine T.F_exact_predictors.ok sc_exact_predictors (fun vs H Q E h => by obtain ⟨a, c, n, m, rfl, _⟩ := h; rfl) (fun cdv A outer s H vs Q E hr h => ?_)
  obtain ⟨a, c, n, m, rfl, hA, hn1, hn, hm, hc, hpd, k⟩ := h
  refine ⟨_, (pss_cons (ps_set (i := 1) sc_exact_predictors.nd rfl (Or.inl rfl) (pe_lst pa_nil))
      (pss_cons (ps_if (pt_cmpR op_eq (pe_ix (r := rIxL K) ix_list (pv 0) pe_int (fun _ _ => rfl)) pe_int (nomark _)) (pss_one (ps_ret (pv 1))) pss_nil)
      (pss_cons (ps_set (i := 2) sc_exact_predictors.nd rfl (Or.inl rfl) (pe_lst pa_nil))
      (pss_cons (ps_set (i := 3) sc_exact_predictors.nd rfl (Or.inr rfl) pe_int)
      (pss_cons (ps_set (i := 4) sc_exact_predictors.nd rfl (Or.inr rfl) (pe_ix (r := rIxL K) ix_list (pv 0) pe_int (fun _ _ => rfl)))
      (pss_cons (ps_for PassesOwn.never rfl (pi_range2 (by rfl) T.m_range (pa_cons pe_int (pa_cons (pe_callB (r := rLenS K) call_len_seq (by rfl) T.m_len PySem.boot_len (pa_cons (pv 0) pa_nil)) pa_nil))) (pg_name (i := 5) sc_exact_predictors.nd rfl (Or.inl rfl)) (pss_cons (ps_set (i := 6) sc_exact_predictors.nd rfl (Or.inr rfl) (pe_call (ok_last_numerator T) (hr.mono (by decide)) (by rfl) T.g_last_numerator T.F_last_numerator.kp T.b_last_numerator .nil pass0 (pa_cons (pv 0) (pa_cons (pv 2) (pa_cons (pv 3) pa_nil)))))
        (pss_cons (ps_set (i := 7) sc_exact_predictors.nd rfl (Or.inl rfl) (pe_listRev rfl (by rfl) T.m_list (by rfl) T.m_reversed (pv 2)))
        (pss_cons (ps_set (i := 2) sc_exact_predictors.nd rfl (Or.inl rfl) (pe_op op_cat (pe_lc (own := [("a", 8), ("b", 9)]) (g := (gTup K 2 (gCons (gName 8) (gCons (gName 9) gNil)))) (tt := tYes) rfl sc_exact_predictors.nd (pi_zip (by rfl) T.m_zip (pa_cons (pv 2) (pa_cons (pv 7) pa_nil))) (blkOk_by (N := ["correlation", "found", "numerators", "before", "denominator", "order", "last", "mirrored", "a", "b"]) (sc := defScope s_exact_predictors) (by decide +kernel)) (fun _ _ _ _ _ => (pg_tup rfl (pgs_cons (pg_name (i := 8) sc_exact_predictors.nd rfl (Or.inl rfl)) (pgs_cons (pg_name (i := 9) sc_exact_predictors.nd rfl (Or.inl rfl)) pgs_nil)))) (fun _ _ _ _ _ => pts_nil) (fun _ _ _ _ _ => (pe_op op_fdivW (pe_op op_sub (pe_op op_mulW (pv 4) (pv 8)) (pe_op op_mulW (pv 6) (pv 9))) (pv 3)))) (pe_lst (pa_cons (pv 6) pa_nil))))
        (pss_cons (ps_expr (pe_bm PySem.F.plainAttrs_list PySem.F.slot_list_append PySem.F.type_list_append mt_append (pv 1) (pa_cons (pe_tup (pa_cons (pv 2) (pa_cons (pv 4) pa_nil))) pa_nil)))
        (pss_one (ps_asg (pe_tup (pa_cons (pv 4) (pa_cons (pe_op op_fdivW (pe_op op_sub (pe_op op_mulW (pv 4) (pv 4)) (pe_op op_mulW (pv 6) (pv 6))) (pv 3)) pa_nil))) (pg_tup rfl (pgs_cons (pg_name (i := 3) sc_exact_predictors.nd rfl (Or.inr rfl)) (pgs_cons (pg_name (i := 4) sc_exact_predictors.nd rfl (Or.inr rfl)) pgs_nil))))))))))
      (pss_one (ps_ret (pv 1))))))))), ?_⟩
  have at0 : ∀ {σ : L2.St} {G : Hp}, Ex H G → σ[0]? = some (some (.ref a)) → Ev (tOp (rIxL K) (tVar 0) (tC (.int 0))) σ G (.int (c 0)) := fun e h => ev_at (n := 0) (Ev.s (ev_var h) (ex_l e hA)) ev_c (at_of (j := 0) rfl (at_int (lf_at (by omega))))
  refine q_asgL (xs := []) (el_lst ea_nil (by decide)) fun L H1 hL e1 g1 => ?_
  refine q_when (b := decide (c 0 = 0)) (et_test (Ev.is (ev_eq (at0 e1 rfl) ev_c rfl) (congrArg V.bl (decide_eq_decide.mpr ⟨V.int.inj, congrArg V.int⟩)))) (fun hb H2 e2 => ?_) (fun hb H2 e2 => ?_)
  · exact s_ret (ev_var rfl) fun H3 e3 => k L [] H3 hL (e1.trans (e2.trans e3)) ((e2.trans e3) _ _ g1) (by rw [if_pos (of_decide_eq_true hb)]; rfl) fun k t h => by cases h
  have hc0 := of_decide_eq_false hb
  have hp := hpd hc0
  have hall := DT.lev_all hp
  refine q_asgL (xs := []) (el_lst ea_nil (by decide)) fun nl0 H3 hnl0 e3 gnl0 => ?_
  refine q_asg (v := .int (Dn c 0)) ev_c fun H4 e4 => ?_
  have e14 := e1.trans (e2.trans (e3.trans e4))
  have hD1 : Dn c 1 = c 0 := by
    have := DT.den_eq (hall 0).2 (by show (1 : Int) ≠ 0; decide)
    show DT.det (0 + 1) (tp c) = c 0
    rw [this]
    show (1 : Int) * c 0 - 0 = c 0
    omega
  refine q_asg (v := .int (Dn c 1)) (Ev.is (at0 e14 rfl) (congrArg V.int hD1.symm)) fun H5 e5 => ?_
  have hnlL : nl0 ≠ L := by rintro rfl; rw [e2 _ _ g1] at hnl0; cases hnl0
  refine q_forR2 (lo := 1) (n := (n : Int)) (ea_cons ev_c (ea_cons (Ev.is (ev_lenS (K := K) (Ev.s (ev_var rfl) (ex_l (e14.trans e5) hA))) (by rw [List.length_map, lf_len])) ea_nil)) (by omega) (fun i σ' H' => ∃ (nl : Addr) (ts : List Addr) (z5 z6 z7 z8 z9 : Option V), σ' = [some (.ref a), some (.ref L), some (.ref nl), some (.int (Dn c i)), some (.int (Dn c (i + 1))), z5, z6, z7, z8, z9] ∧ Ex H H' ∧ H' L = some (.lst (ts.map V.ref)) ∧ ts.length = i ∧ (∀ k t, ts[k]? = some t → ExL c H' L t k) ∧ nl ≠ L ∧ H' nl = some (.lst ((lf i (Un c i)).map V.int))) (fun H6 e6 => ⟨nl0, [], none, none, none, none, none, rfl, e14.trans (e5.trans e6), (e2.trans (e3.trans (e4.trans (e5.trans e6)))) _ _ g1, rfl, (fun k t h => by cases h), hnlL, (e4.trans (e5.trans e6)) _ _ gnl0⟩) ?_ ?_
  · rintro i σ' G hi ⟨nl, ts, z5, z6, z7, z8, z9, rfl, ex, gL, htl, hts, hne, gnl⟩
    have hi' : i + 1 < n := by omega
    have h0 := hall i
    have h1 := hall (i + 1)
    have hsm : ∀ q : Nat, q ≤ 64 → q * (m + 6) ≤ 64 * 106 := fun q hq => Nat.mul_le_mul hq (by omega)
    have hi6 := hsm i (by omega)
    have hi7 := hsm (i + 1) (by omega)
    refine q_asg (v := .int (DT.lastN c i (Un c i))) (ev_call (vs := [.ref a, .ref nl, .int (Dn c i)]) (ea_cons (ev_var rfl) (ea_cons (ev_var rfl) (ea_cons (ev_var rfl) ea_nil))) fun G1 f1 Q1 q1 _ => ⟨a, nl, c, Un c i, n, i, m, rfl, ex_l (ex.trans f1) hA, sq_of (f1 _ _ gnl), hi', hn, hm, hc, fun j => un_bt hc (by omega), q1⟩) fun G1 f1 => ?_
    have hlb : Bt (i * (m + 6) + m + 8) (DT.lastN c i (Un c i)) := ln_bt hc (fun j => un_bt hc (by omega)) (by omega)
    have hlast : Un c (i + 1) i = DT.lastN c i (Un c i) := DT.lev_last h0.2 (by omega)
    obtain ⟨la, hla⟩ : ∃ la, DT.lastN c i (Un c i) = la := ⟨_, rfl⟩
    have hdd : Dn c i * Dn c (i + 2) = Dn c (i + 1) * Dn c (i + 1) - la * la := by
      rw [← hla]
      exact DT.lev_den h0.2 h1.2 (by omega) (by omega)
    have hnum : ∀ l, l < i → Dn c (i + 1) * Un c i l - la * Un c i (i - 1 - l) = Dn c i * Un c (i + 1) l := fun l hl => by
      rw [← hla]
      exact DT.lev_num h0.2 (by omega) (by omega) hl
    rw [hla] at hlb hlast ⊢
    have gnl1 := f1 _ _ gnl
    refine q_asgL (xs := (lf i fun l => Un c i (i - 1 - l)).map V.int) (EvL.is (el_listRev (Ev.s (ev_var rfl) (sq_of gnl1))) (by rw [← List.map_reverse, lf_rev])) fun mr G2 hmr f2 gmr => ?_
    have gnl2 := f2 _ _ gnl1
    have hDb := dn_bt (k := i + 1) hc (by omega)
    have hDb0 := dn_bt (k := i) hc (by omega)
    have hDp : 0 < Dn c i := h0.1
    show tSeq _ _ _ [some (.ref a), some (.ref L), some (.ref nl), some (.int (Dn c i)), some (.int (Dn c (i + 1))), some (.int (1 + (i : Int))), some (.int la), some (.ref mr), z8, z9] _
    refine q_asgL (xs := (lf (i + 1) (Un c (i + 1))).map V.int) (EvL.is (el_cat (xs := (lf i (Un c (i + 1))).map V.int) (ys := [V.int la]) (EvL.r (el_lcZ (K := K) (xs := (lf i (Un c i)).map V.int) (ys := (lf i fun l => Un c i (i - 1 - l)).map V.int) ((lf i (Un c (i + 1))).map V.int) (Ev.s (ev_var rfl) (sq_of gnl2)) (Ev.s (ev_var rfl) (sq_of gmr)) (by simp only [List.length_map, lf_len]; omega) (by rw [List.length_map, lf_len]; omega) (fun _ _ => rfl) fun l x y G3 f3 hx hy => ?_)) (EvL.r (el_lst (vs := [V.int la]) (ea_cons (ev_var rfl) ea_nil) (show 1 ≤ 100000 by decide))) (by rw [List.length_map, lf_len]; show i + 1 ≤ _; omega)) (by rw [lf_succ, List.map_append, hlast]; rfl)) fun n2 G3 hn2 f3 gn2 => ?_
    · obtain ⟨x, hx1, hxl, rfl⟩ := int_at hx
      obtain ⟨y, hy1, _, rfl⟩ := int_at hy
      rw [lf_len] at hxl
      rw [lf_at hxl] at hx1 hy1
      obtain rfl := Option.some.inj hx1
      obtain rfl := Option.some.inj hy1
      refine ⟨_, at_int (lf_at hxl), Ev.is (ev_I (ev_I0 (g := fun i j => .int (i - j)) (ev_I (ev_var rfl) (ev_var rfl) (cmulw hDb (un_bt (k := i) hc (by omega)) (by omega))) (ev_I (ev_var rfl) (ev_var rfl) (cmulw hlb (un_bt (k := i) hc (by omega)) (by omega)))) (ev_var rfl) (cdivw hDp hDb0 (by omega))) (congrArg V.int ?_)⟩
      rw [hnum l hxl, Int.mul_ediv_cancel_left _ (by omega)]
    have f13 := f1.trans (f2.trans f3)
    have gL3 := f13 _ _ gL
    have hn2L : n2 ≠ L := by rintro rfl; rw [(f1.trans f2) _ _ gL] at hn2; cases hn2
    refine q_appX gL3 (ev_var rfl) (ex_tupN2 (ev_var rfl) (ev_var rfl)) (by rw [List.length_map]; omega) fun v G4 f4 hv => ?_
    obtain ⟨t, rfl, htn, gt⟩ := hv
    have gL4 := f4 _ _ gL3
    have htL : t ≠ L := by rintro rfl; rw [gL3] at htn; cases htn
    have to : ∀ x o, x ≠ L → G x = some o → upd G4 L (.lst (ts.map V.ref ++ [.ref t])) x = some o := fun x o hx h => by rw [upd_ne hx]; exact (f13.trans f4) _ _ h
    have exm : Ex H (upd G4 L (.lst (ts.map V.ref ++ [.ref t]))) := Ex.mut (ex.trans (f13.trans f4)) hL
    have gLn : upd G4 L (.lst (ts.map V.ref ++ [.ref t])) L = some (.lst ((ts ++ [t]).map V.ref)) := by rw [upd_same, List.map_append]; rfl
    have gtn : upd G4 L (.lst (ts.map V.ref ++ [.ref t])) t = some (.tup [.ref n2, .int (Dn c (i + 1))]) := by rw [upd_ne htL]; exact gt
    have gnn : upd G4 L (.lst (ts.map V.ref ++ [.ref t])) n2 = some (.lst ((lf (i + 1) (Un c (i + 1))).map V.int)) := by rw [upd_ne hn2L]; exact f4 _ _ gn2
    generalize upd G4 L (.lst (ts.map V.ref ++ [.ref t])) = G5 at *
    show tAsg _ _ _ [some (.ref a), some (.ref L), some (.ref n2), some (.int (Dn c i)), some (.int (Dn c (i + 1))), some (.int (1 + (i : Int))), some (.int la), some (.ref mr), z8, z9] _
    refine s_asgTup2 (v := .int (Dn c (i + 1))) (w := .int (Dn c (i + 2))) (ea_cons (ev_var rfl) (ea_cons (Ev.is (ev_I (ev_I0 (g := fun i j => .int (i - j)) (ev_I (ev_var rfl) (ev_var rfl) (cmulw hDb hDb (by omega))) (ev_I (ev_var rfl) (ev_var rfl) (cmulw hlb hlb (by omega)))) (ev_var rfl) (cdivw hDp hDb0 (by omega))) (congrArg V.int (by rw [← hdd, Int.mul_ediv_cancel_left _ (by omega)]))) ea_nil)) fun G6 f6 => ⟨n2, ts ++ [t], _, _, _, _, _, rfl, exm.trans f6, f6 _ _ gLn, by rw [List.length_append, htl]; rfl, fun j t' hj => ?_, hn2L, f6 _ _ gnn⟩
    rcases Nat.lt_or_ge j ts.length with hlt | hge
    · rw [List.getElem?_append_left hlt] at hj
      exact (hts j t' hj).to fun x o hx h => f6 _ _ (to x o hx h)
    · rw [List.getElem?_append_right hge] at hj
      have hj0 : j - ts.length = 0 := by
        rcases Nat.eq_zero_or_pos (j - ts.length) with h | h
        · exact h
        · rw [List.getElem?_eq_none (by show 1 ≤ _; omega)] at hj; cases hj
      rw [hj0] at hj
      obtain rfl : t = t' := Option.some.inj hj
      obtain rfl : j = i := by omega
      exact ⟨n2, hn2L, htL, f6 _ _ gtn, f6 _ _ gnn⟩
  · rintro σ' G ⟨nl, ts, z5, z6, z7, z8, z9, rfl, ex, gL, htl, hts, hne, gnl⟩
    refine s_ret (ev_var rfl) fun G1 f1 => k L ts G1 hL (ex.trans f1) (f1 _ _ gL) (by rw [htl, if_neg hc0]; omega) fun j t hj => ?_
    obtain ⟨nl', _, _, h3, h4⟩ := hts j t hj
    exact ⟨nl', f1 _ _ h3, f1 _ _ h4⟩

/-! ### the autocorrelation of a row is positive definite -/
def gx (ns : List Int) : Nat → Int := fun t => ns.getD t 0
theorem gx_out {ns : List Int} {t : Nat} (h : ns.length ≤ t) : gx ns t = 0 := by
  unfold gx
  rw [List.getD_eq_getElem?_getD, List.getElem?_eq_none h]
  rfl
theorem lag_S (ns : List Int) (d : Nat) : lagS ns d = DT.S ns.length fun t => gx ns t * gx ns (t + d) := by
  have e : lagS ns d = DT.S (ns.length - d) fun t => gx ns t * gx ns (t + d) := by
    rw [lagS_N]
    unfold lagN
    rw [show (List.range (ns.length - d)).map (fun t => ns.getD (t + d) 0 * ns.getD t 0) = lf (ns.length - d) fun t => ns.getD (t + d) 0 * ns.getD t 0 from rfl, lf_sum]
    exact DT.S_congr fun t _ => Int.mul_comm _ _
  rw [e]
  by_cases h : d ≤ ns.length
  · obtain ⟨r, hr⟩ : ∃ r, r = ns.length - d := ⟨_, rfl⟩
    rw [← hr, show ns.length = r + d by omega, DT.S_split, DT.S_zero (n := d) fun t ht => by rw [gx_out (t := r + t + d) (by omega), Int.mul_zero], Int.add_zero]
  · rw [show ns.length - d = 0 by omega]
    exact (DT.S_zero fun t ht => by rw [gx_out (t := t + d) (by omega), Int.mul_zero]).symm
theorem last_nz {x : Nat → Int} : ∀ {N : Nat}, (∀ t, N ≤ t → x t = 0) → (∃ t, x t ≠ 0) → ∃ t0, x t0 ≠ 0 ∧ ∀ t, t0 < t → x t = 0
  | 0, hN, ⟨t, h⟩ => absurd (hN t (Nat.zero_le _)) h
  | N + 1, hN, h => by
    by_cases h0 : x N = 0
    · exact last_nz (N := N) (fun t ht => by
        rcases Nat.eq_or_lt_of_le ht with e | e
        · rw [← e]; exact h0
        · exact hN t e) h
    · exact ⟨N, h0, fun t ht => hN t ht⟩
theorem lag_pd {ns : List Int} (h : lagS ns 0 ≠ 0) : PD (lagS ns) := by
  have hx : ∃ t, gx ns t ≠ 0 := by
    refine Classical.byContradiction fun z => h ?_
    rw [lag_S]
    refine DT.S_zero fun t _ => ?_
    have : gx ns t = 0 := Classical.byContradiction fun y => z ⟨t, y⟩
    rw [this, Int.zero_mul]
  obtain ⟨t0, h1, h2⟩ := last_nz (N := ns.length) (fun t ht => gx_out ht) hx
  exact DT.pd_ac (x := gx ns) (N := ns.length) (fun t ht => gx_out ht) h1 h2 fun j => lag_S ns j
theorem gx_bt {ns : List Int} {b : Nat} (h : ∀ x ∈ ns, Bt b x) (t : Nat) : Bt b (gx ns t) := by
  by_cases ht : t < ns.length
  · unfold gx
    rw [List.getD_eq_getElem?_getD, List.getElem?_eq_getElem ht]
    exact h _ (List.getElem_mem ht)
  · rw [gx_out (by omega)]
    exact Nat.two_pow_pos _
theorem lag_bt {ns : List Int} {b s : Nat} (h : ∀ x ∈ ns, Bt b x) (hl : ns.length ≤ 2 ^ s) (d : Nat) : Bt (b + b + s) (lagS ns d) := by
  rw [lag_S]
  exact DT.Bt.S (fun t _ => (gx_bt h t).mul (gx_bt h _)) hl
theorem acor_lf (ns : List Int) (m : Nat) : acor ns m = lf (m + 1) (lagS ns) := rfl

-- Q2
/-! ### rounding -/
def rndN (a b : Int) : Int := (2 * a + b) / (2 * b)
def rnd (a b : Int) : Int := if a < 0 then -rndN (-a) b else rndN a b
def sp_rndF : Sp := fun _ _ _ _ => False
def sp_rnd0 : Sp := fun vs H Q _ => ∃ (a b : Int), vs = [.int a, .int b] ∧ 0 ≤ a ∧ 0 < b ∧ DT.Bt 8900 b ∧ RetV (.int (rndN a b)) H Q
def sp_rnd : Sp := fun vs H Q _ => ∃ (a b : Int), vs = [.int a, .int b] ∧ 0 < b ∧ DT.Bt 8900 b ∧ RetV (.int (rnd a b)) H Q
theorem log_lt {b : Int} (h : DT.Bt 8900 b) : (2 * b).natAbs.log2 < 9000 := by
  have h2 : DT.Bt (2 + 8900) (2 * b) := DT.Bt.mul (show (2 : Int).natAbs < 2 ^ 2 by decide) h
  have := h2.log
  omega
theorem okF_rounded (T : TX K mg) : FnOk P w K mg base CX0 1 T.a_rounded T.d_rounded ["a", "b"] sp_rndF :=
  T.F_rounded.ok sc_rounded (fun _ _ _ _ h => h.elim) (fun _ _ _ _ _ _ _ _ _ h => h.elim)
theorem ok0_rounded (T : TX K mg) : FnOk P w K mg base CX0 2 T.a_rounded T.d_rounded ["a", "b"] sp_rnd0 := by
  refine T.F_rounded.ok sc_rounded (fun vs H Q E h => by obtain ⟨a, b, rfl, _⟩ := h; rfl) (fun cdv A outer s0 H vs Q E hr h => ?_)
  obtain ⟨a, b, rfl, ha, hb, hb2, k⟩ := h
  refine ⟨_, (pss_cons (ps_if (pt_cmpR op_lt (pv 0) pe_int (nomark _)) (pss_one (ps_ret (pe_un un_neg (pe_call (okF_rounded T) (hr.mono (by decide)) (by rfl) T.g_rounded T.F_rounded.kp T.b_rounded .nil pass0 (pa_cons (pe_un un_neg (pv 0)) (pa_cons (pv 1) pa_nil)))))) pss_nil)
      (pss_one (ps_ret (pe_op op_fdivW (pe_op op_add (pe_op op_mul pe_int (pv 0)) (pv 1)) (pe_op op_mul pe_int (pv 1)))))), ?_⟩
  refine q_when (b := false) (et_is (et_test (ev_I0 (ev_var rfl) ev_c)) (decide_eq_false (by omega))) (fun hb => by cases hb) fun _ H1 e1 => ?_
  exact s_ret (v := .int (rndN a b)) (ev_I (ev_I0 (ev_I ev_c (ev_var rfl) (.inl (by decide))) (ev_var rfl)) (ev_I ev_c (ev_var rfl) (.inl (by decide))) ⟨by omega, log_lt hb2⟩) fun H2 e2 => k.go (e1.trans e2)
theorem ok_rounded (T : TX K mg) : FnOk P w K mg base CX0 3 T.a_rounded T.d_rounded ["a", "b"] sp_rnd := by
  refine T.F_rounded.ok sc_rounded (fun vs H Q E h => by obtain ⟨a, b, rfl, _⟩ := h; rfl) (fun cdv A outer s0 H vs Q E hr h => ?_)
  obtain ⟨a, b, rfl, hb, hb2, k⟩ := h
  refine ⟨_, (pss_cons (ps_if (pt_cmpR op_lt (pv 0) pe_int (nomark _)) (pss_one (ps_ret (pe_un un_neg (pe_call (ok0_rounded T) (hr.mono (by decide)) (by rfl) T.g_rounded T.F_rounded.kp T.b_rounded .nil pass0 (pa_cons (pe_un un_neg (pv 0)) (pa_cons (pv 1) pa_nil)))))) pss_nil)
      (pss_one (ps_ret (pe_op op_fdivW (pe_op op_add (pe_op op_mul pe_int (pv 0)) (pv 1)) (pe_op op_mul pe_int (pv 1)))))), ?_⟩
  unfold rnd at k
  by_cases ha : a < 0
  · rw [if_pos ha] at k
    refine q_when (b := true) (et_is (et_test (ev_I0 (ev_var rfl) ev_c)) (decide_eq_true ha)) (fun _ H1 e1 => ?_) (fun hb => by cases hb)
    exact s_ret (v := .int (-rndN (-a) b)) (ev_negI (ev_call (sp := sp_rnd0) (ea_cons (ev_negI (ev_var rfl)) (ea_cons (ev_var rfl) ea_nil)) fun H2 _ Q' q' _ => ⟨-a, b, rfl, by omega, hb, hb2, q'⟩)) fun H2 e2 => k.go (e1.trans e2)
  · rw [if_neg ha] at k
    refine q_when (b := false) (et_is (et_test (ev_I0 (ev_var rfl) ev_c)) (decide_eq_false ha)) (fun hb => by cases hb) fun _ H1 e1 => ?_
    exact s_ret (v := .int (rndN a b)) (ev_I (ev_I0 (ev_I ev_c (ev_var rfl) (.inl (by decide))) (ev_var rfl)) (ev_I ev_c (ev_var rfl) (.inl (by decide))) ⟨by omega, log_lt hb2⟩) fun H2 e2 => k.go (e1.trans e2)
theorem ev_rnd {σ : L2.St} {H : Hp} {t1 t2 : TE} {E : XK} {a b : Int} (h1 : Ev t1 σ H (.int a)) (h2 : Ev t2 σ H (.int b)) (hb : 0 < b) (hb2 : DT.Bt 8900 b) : Ev (tCall sp_rnd [] E (tCons t1 (tCons t2 tNil))) σ H (.int (rnd a b)) := ev_call (ea_cons h1 (ea_cons h2 ea_nil)) fun H1 _ Q q _ => ⟨a, b, rfl, hb, hb2, q⟩
/-! ### quantizing -/
def absI (i : Int) : Int := if i < 0 then -i else i
theorem absI_nn (i : Int) : 0 ≤ absI i := by unfold absI; split <;> omega
def topI (ns : List Int) : Int := maxI 0 (ns.map absI)
theorem p2pos (j : Nat) : (0 : Int) < 2 ^ j := Int.pow_pos (by decide)
theorem maxI_nn {us : List Int} (h : ∀ u ∈ us, 0 ≤ u) : 0 ≤ maxI 0 us ∧ (maxI 0 us = 0 ∨ maxI 0 us ∈ us) ∧ ∀ u ∈ us, u ≤ maxI 0 us := by
  cases us with
  | nil => exact ⟨Int.le_refl _, .inl rfl, fun u hu => by cases hu⟩
  | cons x r =>
    obtain ⟨h1, h2, h3⟩ := foldl_max r x
    have hx := h x (List.mem_cons_self ..)
    refine ⟨Int.le_trans hx h2, .inr ?_, fun u hu => ?_⟩
    · rcases h1 with e | e
      · show r.foldl max x ∈ x :: r
        rw [e]
        exact List.mem_cons_self ..
      · exact List.mem_cons_of_mem _ e
    · rcases List.mem_cons.mp hu with rfl | hu
      · exact h2
      · exact h3 u hu
theorem topI_nn (ns : List Int) : 0 ≤ topI ns := (maxI_nn fun u hu => by obtain ⟨n, _, rfl⟩ := List.mem_map.mp hu; exact absI_nn n).1
def sizeF (ns : List Int) (b : Int) (s : Nat) : Int := rnd (topI ns * 2 ^ s) b
def pick (F : Nat → Int) (bd : Int) : Nat → Option Nat
  | 0 => none
  | s + 1 => if F s ≤ bd then (if F s = 0 then none else some s) else pick F bd s
def rowQ (ns : List Int) (b : Int) (s : Nat) : List Int := ns.map fun n => rnd (n * 2 ^ s) b
/-- a row with its shift in a new pair, or None -/
def RetO (ns : List Int) (b : Int) (o : Option Nat) (H : Hp) (Q : VK) : Prop := match o with
  | none => RetV .non H Q
  | some s => ∀ p a H2, H p = none → H a = none → Ex H H2 → H2 p = some (.tup [.ref a, .int (s : Int)]) → H2 a = some (.lst ((rowQ ns b s).map V.int)) → Q (.ref p) H2
theorem RetO.mono {ns : List Int} {b : Int} {o : Option Nat} {H H' : Hp} {Q : VK} (k : RetO ns b o H Q) (e : Ex H H') : RetO ns b o H' Q := by
  cases o with
  | none => exact fun H2 e2 => k H2 (e.trans e2)
  | some s => exact fun p a H2 hp ha e2 g1 g2 => k p a H2 (fresh_back e hp) (fresh_back e ha) (e.trans e2) g1 g2
theorem s_retLV {σ : L2.St} {H : Hp} {D : Ends} {t1 t2 : TE} {xs : List V} {v : V} (h1 : EvL t1 σ H xs) (h2 : ∀ H1, Ex H H1 → Ev t2 σ H1 v) (k : ∀ p a H2, H p = none → H a = none → Ex H H2 → H2 p = some (.tup [.ref a, v]) → H2 a = some (.lst xs) → D.rt (.ref p) H2) : tRet (tTup (tCons t1 (tCons t2 tNil))) D σ H :=
  h1 H (Ex.refl H) _ fun a H1 ha e1 g1 => h2 H1 e1 H1 (Ex.refl _) _ fun H2 e2 => ⟨sz_of (show 2 ≤ 100000 by decide), fun p hp => k p a _ (fresh_back (e1.trans e2) hp) ha ((e1.trans e2).trans (Ex.new hp)) upd_same ((e2.trans (Ex.new hp)) _ _ g1)⟩
def SmallN (ns : List Int) : Prop := ∀ n ∈ ns, DT.Bt 8900 n
theorem cshl {N : Nat} {x : Int} {s : Nat} (h : DT.Bt N x) (hN : N ≤ 8900) (hs : s ≤ 1000) : CShl x (s : Int) := by
  have := PyProof.Rows.intBits_le h
  have e : (2 : Int) ^ 27 = 134217728 := by decide
  refine ⟨by omega, ?_⟩
  rw [e]
  omega
theorem topI_bt {ns : List Int} (h : SmallN ns) : DT.Bt 8900 (topI ns) := by
  have hp : (1 : Int) ≤ 2 ^ 8900 := by
    have : (0 : Int) < 2 ^ 8900 := Int.pow_pos (by decide)
    omega
  rcases (maxI_nn (us := ns.map absI) fun u hu => by obtain ⟨n, _, rfl⟩ := List.mem_map.mp hu; exact absI_nn n).2.1 with e | e
  · unfold topI
    rw [e]
    exact Nat.two_pow_pos _
  · obtain ⟨n, hn, e⟩ := List.mem_map.mp e
    have := h n hn
    unfold topI
    rw [← e]
    unfold absI
    split
    · exact this.neg
    · exact this
def sp_quant (K : PySem.W.Frag) : Sp := fun vs H Q _ => ∃ (a : Addr) (ns : List Int) (b : Int) (p : Nat), vs = [.ref a, .int b, .int (p : Int)] ∧ SqL K H a (ns.map V.int) ∧ ns.length ≤ 1000 ∧ SmallN ns ∧ 0 < b ∧ DT.Bt 8900 b ∧ 1 ≤ p ∧ p ≤ 1000 ∧ RetO ns b (pick (sizeF ns b) (2 ^ (p - 1) - 1) 16) H Q
theorem ok_quantize (T : TX K mg) : FnOk P w K mg base CX0 4 T.a_quantize T.d_quantize ["numerators", "denominator", "precision"] (sp_quant K) := by
  refine T.F_quantize.ok sc_quantize (fun vs H Q E h => by obtain ⟨a, ns, b, p, rfl, _⟩ := h; rfl) (fun cdv A outer s0 H vs Q E hr h => ?_)
  obtain ⟨a, ns, b, p, rfl, hS, hl, hsm, hb, hb2, hp1, hp2, k⟩ := h
  refine ⟨_, (pss_cons (ps_set (i := 3) sc_quantize.nd rfl (Or.inl rfl) (pe_op op_sub (pe_op op_shlW pe_int (pe_op op_sub (pv 2) pe_int)) pe_int))
      (pss_cons (ps_set (i := 4) sc_quantize.nd rfl (Or.inl rfl) (pe_callBK (cr_maxDef (hu64 hr)) (by rfl) T.m_max PyProof.Rows.boot_max (pa_cons (pe_lc (own := [("numerator", 6)]) (g := gName 6) (tt := tYes) rfl sc_quantize.nd (pi_list (pv 0)) (blkOk_by (N := ["numerators", "denominator", "precision", "bound", "greatest", "shift", "numerator"]) (sc := defScope s_quantize) (by decide +kernel)) (fun _ _ _ _ _ => pg_name (i := 6) sc_quantize.nd rfl (Or.inl rfl)) (fun _ _ _ _ _ => pts_nil) (fun _ _ _ _ _ => (pe_callB call_abs (by rfl) T.m_abs PyProof.Rows.boot_abs (pa_cons (pv 6) pa_nil)))) pa_nil) (pk_cons pe_int pk_nil)))
      (pss_cons (ps_set (i := 5) sc_quantize.nd rfl (Or.inr rfl) (pe_glob (by rfl) T.c_MOST_SHIFT T.r_MOST_SHIFT))
      (pss_cons (ps_while PassesOwn.never (PW.pt (pw_and (pt_cmpR op_ge (pv 5) pe_int (nomark _)) (pw_and1 (pt_cmpR op_gt (pe_call (ok_rounded T) (hr.mono (by decide)) (by rfl) T.g_rounded T.F_rounded.kp T.b_rounded .nil pass0 (pa_cons (pe_op op_shlW (pv 4) (pv 5)) (pa_cons (pv 1) pa_nil))) (pv 3) (nomark _))))) (pss_one (ps_aug (i := 5) sc_quantize.nd rfl (Or.inr rfl) pe_int ip_sub)))
      (pss_cons (ps_if (PW.pt (pw_or (pt_cmpR op_lt (pv 5) pe_int (nomark _)) (pw_or1 (pt_cmpR op_eq (pe_call (ok_rounded T) (hr.mono (by decide)) (by rfl) T.g_rounded T.F_rounded.kp T.b_rounded .nil pass0 (pa_cons (pe_op op_shlW (pv 4) (pv 5)) (pa_cons (pv 1) pa_nil))) pe_int (nomark _))))) (pss_one (ps_ret pe_non)) pss_nil)
      (pss_one (ps_ret (pe_tup (pa_cons (pe_lc (own := [("numerator", 6)]) (g := gName 6) (tt := tYes) rfl sc_quantize.nd (pi_list (pv 0)) (blkOk_by (N := ["numerators", "denominator", "precision", "bound", "greatest", "shift", "numerator"]) (sc := defScope s_quantize) (by decide +kernel)) (fun _ _ _ _ _ => pg_name (i := 6) sc_quantize.nd rfl (Or.inl rfl)) (fun _ _ _ _ _ => pts_nil) (fun _ _ _ _ _ => (pe_call (ok_rounded T) (hr.mono (by decide)) (by rfl) T.g_rounded T.F_rounded.kp T.b_rounded .nil pass0 (pa_cons (pe_op op_shlW (pv 6) (pv 5)) (pa_cons (pv 1) pa_nil))))) (pa_cons (pv 5) pa_nil)))))))))), ?_⟩
  refine q_asg (v := .int (2 ^ (p - 1) - 1)) (Ev.is (ev_I0 (ev_I ev_c (ev_I0 (ev_var rfl) ev_c) (by rw [show ((p : Int) - 1) = ((p - 1 : Nat) : Int) by omega]; exact cshl (N := 1) (show (1 : Int).natAbs < 2 ^ 1 by decide) (by decide) (by omega))) ev_c) (congrArg V.int (by rw [show ((p : Int) - 1).toNat = p - 1 by omega, Int.one_mul]))) fun H1 e1 => ?_
  generalize (2 : Int) ^ (p - 1) - 1 = bd at *
  refine q_asg (v := .int (topI ns)) (ev_maxD (ns := ns.map absI) (d := 0) (EvR.s (EvL.r (EvL.is (xs := ns.map fun n => V.int (absI n)) (el_lcS _ (Ev.s (ev_var rfl) (ex_l e1 hS)) (by rw [List.length_map, List.length_map]) (by rw [List.length_map]; omega) (fun _ => rfl) fun i x H2 e2 hx => ?_) (by rw [List.map_map]; rfl)))) ev_c) fun H2 e2 => ?_
  · obtain ⟨n, hn, hi, rfl⟩ := int_at hx
    exact ⟨.int (absI n), by rw [List.getElem?_map, hn]; rfl, ev_abs (ev_var rfl)⟩
  have htop := topI_nn ns
  have htop2 := topI_bt hsm
  have evF : ∀ {σ : L2.St} {H' : Hp} {s : Nat} {E : XK}, σ[4]? = some (some (.int (topI ns))) → σ[5]? = some (some (.int (s : Int))) → σ[1]? = some (some (.int b)) → s ≤ 100 → Ev (tCall sp_rnd [] E (tCons (tOp (rI CShl fun i j => .int (i * 2 ^ j.toNat)) (tVar 4) (tVar 5)) (tCons (tVar 1) tNil))) σ H' (.int (sizeF ns b s)) := fun {σ H' s E} h1 h2 h3 hs =>
    ev_rnd (Ev.is (ev_I (ev_var h1) (ev_var h2) (cshl htop2 (by decide) (by omega))) (congrArg V.int (by rw [Int.toNat_natCast]))) (ev_var h3) hb hb2
  refine q_asg ev_c fun H3 e3 => ?_
  refine q_while (fun s σ' H' => s ≤ 16 ∧ σ' = [some (.ref a), some (.int b), some (.int (p : Int)), some (.int bd), some (.int (topI ns)), some (.int ((s : Int) - 1)), none] ∧ Ex H H' ∧ pick (sizeF ns b) bd 16 = pick (sizeF ns b) bd s) 16 ⟨Nat.le_refl _, rfl, (e1.trans e2).trans e3, rfl⟩ ?_
  rintro s σ' H4 ⟨hs, rfl, ex, hpk⟩
  cases s with
  | zero =>
    refine ⟨false, et_is (et_and (a := false) (b := false) (et_is (et_test (ev_I0 (ev_var rfl) ev_c)) (decide_eq_false (by omega))) fun h => by cases h) rfl, fun h => by (cases h), fun _ H5 e5 => ?_⟩
    refine q_when (b := true) (et_is (et_or (a := true) (b := true) (et_is (et_test (ev_I0 (ev_var rfl) ev_c)) (decide_eq_true (by omega))) fun h => by cases h) rfl) (fun _ H6 e6 => ?_) (fun hb => by cases hb)
    rw [hpk] at k
    exact s_ret (v := .non) ev_c fun H7 e7 => (show RetV .non H Q from k).go ((ex.trans e5).trans (e6.trans e7))
  | succ s =>
    have hslot : (some (some (V.int (((s + 1 : Nat) : Int) - 1))) : Option (Option V)) = some (some (.int (s : Int))) := by congr 3; omega
    have hge : ∀ {H' : Hp}, EvT (tTest (tOp (rI0 fun i j => .bl (decide (j ≤ i))) (tVar 5) (tC (.int 0)))) [some (.ref a), some (.int b), some (.int (p : Int)), some (.int bd), some (.int (topI ns)), some (.int (((s + 1 : Nat) : Int) - 1)), none] H' true := fun {H'} => et_is (et_test (ev_I0 (ev_var rfl) ev_c)) (decide_eq_true (by omega))
    have eF : ∀ {H' : Hp} {E : XK} {z : Option V}, Ev (tCall sp_rnd [] E (tCons (tOp (rI CShl fun i j => .int (i * 2 ^ j.toNat)) (tVar 4) (tVar 5)) (tCons (tVar 1) tNil))) [some (.ref a), some (.int b), some (.int (p : Int)), some (.int bd), some (.int (topI ns)), some (.int (((s + 1 : Nat) : Int) - 1)), z] H' (.int (sizeF ns b s)) := fun {H' E z} => evF rfl hslot rfl (by omega)
    refine ⟨decide (bd < sizeF ns b s), et_is (et_and (a := true) (b := decide (bd < sizeF ns b s)) hge fun _ => et_test (ev_I0 eF (ev_var rfl))) rfl, fun hb' H5 e5 => ?_, fun hb' H5 e5 => ?_⟩
    · have hb' := of_decide_eq_true hb'
      refine ⟨fun σ2 H2 => σ2 = [some (.ref a), some (.int b), some (.int (p : Int)), some (.int bd), some (.int (topI ns)), some (.int ((s : Int) - 1)), none] ∧ Ex H H2, ?_, ?_⟩
      · rintro σ2 H6 ⟨rfl, e6⟩
        refine ⟨s, by omega, by omega, rfl, e6, ?_⟩
        rw [hpk]
        show (if sizeF ns b s ≤ bd then _ else pick (sizeF ns b) bd s) = _
        rw [if_neg (by omega)]
      · refine s_aug (a := ((s + 1 : Nat) : Int) - 1) rfl ev_c fun H6 e6 => ⟨?_, (ex.trans e5).trans e6⟩
        show [_, _, _, _, _, some (V.int (((s + 1 : Nat) : Int) - 1 - 1)), _] = _
        rw [show ((s + 1 : Nat) : Int) - 1 - 1 = (s : Int) - 1 by omega]
    · have hb' := of_decide_eq_false hb'
      have hpk2 : pick (sizeF ns b) bd 16 = if sizeF ns b s = 0 then none else some s := by
        rw [hpk]
        show (if sizeF ns b s ≤ bd then _ else pick (sizeF ns b) bd s) = _
        rw [if_pos (by omega)]
      rw [hpk2] at k
      have hlt : ∀ {H' : Hp}, EvT (tTest (tOp (rI0 fun i j => .bl (decide (i < j))) (tVar 5) (tC (.int 0)))) [some (.ref a), some (.int b), some (.int (p : Int)), some (.int bd), some (.int (topI ns)), some (.int (((s + 1 : Nat) : Int) - 1)), none] H' false := fun {H'} => et_is (et_test (ev_I0 (ev_var rfl) ev_c)) (decide_eq_false (by omega))
      refine q_when (b := decide (V.int (sizeF ns b s) = V.int 0)) (et_is (et_or (a := false) (b := decide (V.int (sizeF ns b s) = V.int 0)) hlt fun _ => et_test (ev_eq eF ev_c rfl)) rfl) (fun h0 H6 e6 => ?_) (fun h0 H6 e6 => ?_)
      · have h0 : sizeF ns b s = 0 := V.int.inj (of_decide_eq_true h0)
        rw [if_pos h0] at k
        exact s_ret (v := .non) ev_c fun H7 e7 => (show RetV .non H Q from k).go ((ex.trans e5).trans (e6.trans e7))
      · have h0 : ¬ sizeF ns b s = 0 := fun z => of_decide_eq_false h0 (congrArg V.int z)
        rw [if_neg h0] at k
        have e06 := (ex.trans e5).trans e6
        refine s_retLV (xs := (rowQ ns b s).map V.int) (v := .int (s : Int)) (el_lcS _ (Ev.s (ev_var rfl) (ex_l e06 hS)) (by unfold rowQ; rw [List.length_map, List.length_map, List.length_map]) (by unfold rowQ; rw [List.length_map, List.length_map]; omega) (fun _ => rfl) fun i x H7 e7 hx => ?_) (fun _ _ => ev_var hslot) fun t q H7 ht hq e7 g7 g8 => (show RetO ns b (some s) H Q from k) t q _ (fresh_back e06 ht) (fresh_back e06 hq) (e06.trans e7) g7 g8
        · obtain ⟨n, hn, hi, rfl⟩ := int_at hx
          have hn2 := hsm n (List.mem_of_getElem? hn)
          refine ⟨_, at_int (n := rnd (n * 2 ^ s) b) (by unfold rowQ; rw [List.getElem?_map, hn]; rfl), ev_rnd (Ev.is (ev_I (j := (s : Int)) (ev_var rfl) (ev_var hslot) (cshl hn2 (by decide) (by omega))) (congrArg V.int (by rw [Int.toNat_natCast]))) (ev_var rfl) hb hb2⟩
/-! ### the law's defs -/
theorem rndN_nn {a b : Int} (ha : 0 ≤ a) (hb : 0 < b) : 0 ≤ rndN a b := by
  unfold rndN
  exact Int.ediv_nonneg (by omega) (by omega)
theorem rndN_mono {a c b : Int} (h : a ≤ c) (hb : 0 < b) : rndN a b ≤ rndN c b := by
  unfold rndN
  exact Int.ediv_le_ediv (by omega) (by omega)
theorem mul_p2_neg {n : Int} (s : Nat) : n * 2 ^ s < 0 ↔ n < 0 := by
  have hp := p2pos s
  constructor
  · intro h
    by_cases hn : n < 0
    · exact hn
    · have := Int.mul_nonneg (show 0 ≤ n by omega) (Int.le_of_lt hp)
      omega
  · intro h
    exact Int.mul_neg_of_neg_of_pos h hp
theorem rnd_abs {n b : Int} (s : Nat) (hb : 0 < b) : absI (rnd (n * 2 ^ s) b) = rndN (absI n * 2 ^ s) b := by
  unfold rnd
  by_cases h : n < 0
  · rw [if_pos ((mul_p2_neg s).mpr h)]
    have e : -(n * 2 ^ s) = absI n * 2 ^ s := by unfold absI; rw [if_pos h, Int.neg_mul]
    rw [e]
    have := rndN_nn (a := absI n * 2 ^ s) (b := b) (Int.mul_nonneg (absI_nn n) (Int.le_of_lt (p2pos s))) hb
    generalize rndN (absI n * 2 ^ s) b = z at *
    unfold absI
    split <;> omega
  · rw [if_neg (fun z => h ((mul_p2_neg s).mp z))]
    have e : n * 2 ^ s = absI n * 2 ^ s := by unfold absI; rw [if_neg h]
    rw [e]
    have := rndN_nn (a := absI n * 2 ^ s) (b := b) (Int.mul_nonneg (absI_nn n) (Int.le_of_lt (p2pos s))) hb
    generalize rndN (absI n * 2 ^ s) b = z at *
    unfold absI
    split <;> omega
theorem size_top {ns : List Int} {b : Int} (s : Nat) (hb : 0 < b) (hne : 0 < ns.length) : sizeF ns b s ∈ (rowQ ns b s).map absI ∧ ∀ y ∈ (rowQ ns b s).map absI, y ≤ sizeF ns b s := by
  have hs0 : sizeF ns b s = rndN (topI ns * 2 ^ s) b := by
    unfold sizeF rnd
    rw [if_neg (fun z => by have := (mul_p2_neg s).mp z; have := topI_nn ns; omega)]
  obtain ⟨h0, h1, h2⟩ := maxI_nn (us := ns.map absI) fun u hu => by obtain ⟨n, _, rfl⟩ := List.mem_map.mp hu; exact absI_nn n
  have hmem : topI ns ∈ ns.map absI := by
    unfold topI
    rcases h1 with e | e
    · cases ns with
      | nil => cases hne
      | cons x r =>
        have hx := h2 (absI x) (List.mem_map_of_mem (List.mem_cons_self ..))
        have hx0 := absI_nn x
        rw [e] at hx ⊢
        have : absI x = 0 := by omega
        rw [← this]
        exact List.mem_map_of_mem (List.mem_cons_self ..)
    · exact e
  refine ⟨?_, fun y hy => ?_⟩
  · obtain ⟨n, hn, e⟩ := List.mem_map.mp hmem
    rw [hs0, ← e, ← rnd_abs s hb]
    exact List.mem_map_of_mem (by unfold rowQ; exact List.mem_map_of_mem hn)
  · obtain ⟨z, hz, rfl⟩ := List.mem_map.mp hy
    unfold rowQ at hz
    obtain ⟨n, hn, rfl⟩ := List.mem_map.mp hz
    rw [rnd_abs s hb, hs0]
    exact rndN_mono (Int.mul_le_mul_of_nonneg_right (h2 _ (List.mem_map_of_mem hn)) (Int.le_of_lt (p2pos s))) hb
theorem ev_max {σ : L2.St} {H : Hp} {te : TE} {ns : List Int} {m : Int} (h : EvS K te σ H (ns.map V.int)) (h1 : m ∈ ns) (h2 : ∀ y ∈ ns, y ≤ m) : Ev (tCB (rMax K) (tCons te tNil)) σ H (.int m) := fun H1 e Q q =>
  h H1 e _ fun p H2 e2 hp => ⟨p, ns, rfl, hp, List.length_pos_of_mem h1, fun y hy hall => by
    have a1 := h2 y hy
    have a2 := hall m h1
    have : y = m := by omega
    rw [this]
    exact q H2 e2⟩

theorem shaped_lint (ns : List Int) (i : Int) : SeqAt.shaped (.tuple [.list (ns.map .int), .int i]) = true := by
  unfold SeqAt.shaped
  have h1 := canLay_ints ns
  have h2 := depth_ints ns
  rw [Bool.and_eq_true, decide_eq_true_iff]
  refine ⟨by simp only [PyData.canLay0, PyData.canLayAll0, h1, Bool.and_self], ?_⟩
  simp only [PyData.depth, PyData.depthAll]
  omega
theorem ev_isiT {σ : L2.St} {H : Hp} {ta : TE} {a : Addr} {xs : List V} (ha : Ev ta σ H (.ref a)) (h : H a = some (.tup xs)) : Ev (tCB (rIsi K) (tCons ta (tCons (tC (.ty "tuple")) tNil))) σ H (.bl true) := ev_isi ha (isi_tup h) kit_tt
theorem ev_lenT {σ : L2.St} {H : Hp} {ta : TE} {a : Addr} {xs : List V} (ha : Ev ta σ H (.ref a)) (h : H a = some (.tup xs)) : Ev (tCB (rLenS K) (tCons ta tNil)) σ H (.int (xs.length : Int)) := fun H1 e Q q =>
  ha H1 e _ fun H2 e2 => ⟨a, xs, rfl, .inr (st_of ((e.trans e2) _ _ h)), q H2 e2⟩


-- LSOL
/-! ### a list of rows of numbers that stay -/
def RoL (H : Hp) (L : Addr) (n w : Nat) (R : Nat → Nat → Int) : Prop := ∃ qs : List Addr, H L = some (.lst (qs.map V.ref)) ∧ qs.length = n ∧ ∀ (i : Nat) (q : Addr), qs[i]? = some q → q ≠ L ∧ H q = some (.lst ((lf w (R i)).map V.int))
section
variable {H H' : Hp} {L : Addr} {n w : Nat} {R R' : Nat → Nat → Int}
theorem RoL.ex (h : RoL H L n w R) (e : Ex H H') : RoL H' L n w R := by
  obtain ⟨qs, g, hl, hq⟩ := h
  exact ⟨qs, e _ _ g, hl, fun i q hi => ⟨(hq i q hi).1, e _ _ (hq i q hi).2⟩⟩
theorem RoL.to (h : RoL H L n w R) (e : ∀ i j, i < n → j < w → R i j = R' i j) : RoL H L n w R' := by
  obtain ⟨qs, g, hl, hq⟩ := h
  refine ⟨qs, g, hl, fun i q hi => ⟨(hq i q hi).1, ?_⟩⟩
  have hin : i < n := by rw [← hl]; exact (List.getElem?_eq_some_iff.mp hi).1
  rw [(hq i q hi).2]
  congr 3
  exact lf_congr fun j hj => e i j hin hj
theorem RoL.snoc {q : Addr} {qs : List Addr} (g : H L = some (.lst (qs.map V.ref))) (h : RoL H L n w R) (e : Ex H H') (hq : H q = none) (gq : H' q = some (.lst ((lf w (R n)).map V.int))) : RoL (upd H' L (.lst (qs.map V.ref ++ [.ref q]))) L (n + 1) w R := by
  obtain ⟨qs', g', hl, hqs⟩ := h
  have hqL : q ≠ L := by rintro rfl; rw [g] at hq; cases hq
  have he : qs'.map V.ref = qs.map V.ref := HO.lst.inj (Option.some.inj (g'.symm.trans g))
  refine ⟨qs' ++ [q], by rw [upd_same, List.map_append, he]; rfl, by rw [List.length_append, hl]; rfl, fun i x hx => ?_⟩
  rcases Nat.lt_or_ge i qs'.length with hlt | hge
  · rw [List.getElem?_append_left hlt] at hx
    obtain ⟨a, b⟩ := hqs i x hx
    exact ⟨a, by rw [upd_ne a]; exact e _ _ b⟩
  · rw [List.getElem?_append_right hge] at hx
    have hj0 : i - qs'.length = 0 := by
      rcases Nat.eq_zero_or_pos (i - qs'.length) with z | z
      · exact z
      · rw [List.getElem?_eq_none (by show 1 ≤ _; omega)] at hx; cases hx
    rw [hj0] at hx
    obtain rfl : q = x := Option.some.inj hx
    obtain rfl : i = n := by omega
    exact ⟨hqL, by rw [upd_ne hqL]; exact gq⟩
theorem RoL.put {q : Addr} {qs : List Addr} {i0 : Nat} (g : H L = some (.lst (qs.map V.ref))) (h : RoL H L n w R) (e : Ex H H') (hq : H q = none) (hR : ∀ i, i ≠ i0 → R' i = R i) (gq : H' q = some (.lst ((lf w (R' i0)).map V.int))) : RoL (upd H' L (.lst ((qs.map V.ref).set i0 (.ref q)))) L n w R' := by
  obtain ⟨qs', g', hl, hqs⟩ := h
  have hqL : q ≠ L := by rintro rfl; rw [g] at hq; cases hq
  have he : qs'.map V.ref = qs.map V.ref := HO.lst.inj (Option.some.inj (g'.symm.trans g))
  refine ⟨qs'.set i0 q, by rw [upd_same, List.map_set, he], by rw [List.length_set, hl], fun i x hx => ?_⟩
  rw [List.getElem?_set] at hx
  by_cases hi : i0 = i
  · subst hi
    rw [if_pos rfl] at hx
    split at hx
    · obtain rfl : q = x := Option.some.inj hx
      exact ⟨hqL, by rw [upd_ne hqL]; exact gq⟩
    · cases hx
  · rw [if_neg hi] at hx
    obtain ⟨a, b⟩ := hqs i x hx
    exact ⟨a, by rw [upd_ne a, hR i (fun z => hi z.symm)]; exact e _ _ b⟩
theorem ev_rol {σ : L2.St} {tl ti tj : TE} {i j : Nat} (hR : RoL H L n w R) (hi : i < n) (hj : j < w) (el : Ev tl σ H (.ref L)) (ei : Ev ti σ H (.int (i : Int))) (ej : Ev tj σ H (.int (j : Int))) : Ev (tOp (rIxL K) (tOp (rIxL K) tl ti) tj) σ H (.int (R i j)) := by
  obtain ⟨qs, g, hl, hq⟩ := hR
  have h1 : qs[i]? = some qs[i] := List.getElem?_eq_getElem (by omega)
  exact ev_at (n := (j : Int)) (Ev.s (ev_at (n := (i : Int)) (Ev.s el (sq_of g)) ei (at_of (j := i) rfl (by rw [List.getElem?_map, h1]; rfl))) (sq_of (hq i _ h1).2)) ej (at_of (j := j) rfl (at_int (lf_at hj)))
end
theorem s_appX {σ : L2.St} {H : Hp} {ta te : TE} {l : Addr} {xs : List V} {D : Ends} {S : V → Hp → Prop} (hl : H l = some (.lst xs)) (ha : Ev ta σ H (.ref l)) (h : EvX te σ H S) (hz : xs.length < 100000) (k : ∀ v H1, Ex H H1 → S v H1 → D.nx σ (upd H1 l (.lst (xs ++ [v])))) : tDrop (tBM K "list" rAppend ta (tCons te tNil)) D σ H :=
  ha H (Ex.refl _) _ fun H1 e1 => ⟨.inl ⟨rfl, xs, sq_of (e1 _ _ hl)⟩, h H1 e1 _ fun v H2 e2 hv => ⟨l, xs, v, rfl, rfl, (e1.trans e2) _ _ hl, sz_lt hz, k v H2 (e1.trans e2) hv⟩⟩
theorem ex_ofL {σ : L2.St} {H : Hp} {te : TE} {xs : List V} (h : EvL te σ H xs) : EvX te σ H (fun v H' => ∃ p, v = .ref p ∧ H p = none ∧ H' p = some (.lst xs)) := fun H1 e Q q => h H1 e _ fun p H2 hp e2 g => q (.ref p) H2 e2 ⟨p, rfl, fresh_back e hp, g⟩
theorem ev_absd {σ : L2.St} {H : Hp} {t1 t2 : TE} {i j : Nat} (h1 : Ev t1 σ H (.int (i : Int))) (h2 : Ev t2 σ H (.int (j : Int))) : Ev (tCB (fun xs H Q => ∃ i, xs = [V.int i] ∧ Q (V.int (if i < 0 then -i else i)) H) (tCons (tOp (rI0 fun i j => .int (i - j)) t1 t2) tNil)) σ H (.int (((if j ≤ i then i - j else j - i : Nat)) : Int)) :=
  Ev.is (ev_abs (ev_I0 (g := fun i j => .int (i - j)) h1 h2)) (congrArg V.int (by split <;> split <;> omega))
theorem s_setLR2 {σ : L2.St} {H : Hp} {ta tb te : TE} {D : Ends} {l : Addr} {xs ys : List V} {j : Nat} (hl : H l = some (.lst xs)) (h : EvL te σ H ys) (ho : Ev ta σ H (.ref l)) (hi : Ev tb σ H (.int (j : Int))) (hj : j < xs.length) (k : ∀ p H1, H p = none → Ex H H1 → H1 p = some (.lst ys) → D.nx σ (upd H1 l (.lst (xs.set j (.ref p))))) : tAsg te (gSub ta tb rSetL) D σ H :=
  h H (Ex.refl H) _ fun p H1 hp e1 g1 => ho H1 e1 _ fun H2 e2 => hi H2 (e1.trans e2) _ fun H3 e3 => ⟨l, xs, j, j, rfl, rfl, (e1.trans (e2.trans e3)) _ _ hl, ixN_nat hj, k p H3 hp (e1.trans (e2.trans e3)) ((e2.trans e3) _ _ g1)⟩

/-! ### the law's solution -/
open DT (Bt PD tp Sol)
def colF (c : Nat → Int) (n j : Nat) : Nat → Int := if j < n then tp c j else DT.c1 c
def gjR (c : Nat → Int) (n k : Nat) : Nat → Nat → Int := fun i j => DT.gj (tp c) k (colF c n j) i
def sp_lsol (K : PySem.W.Frag) : Sp := fun vs H Q _ => ∃ (a : Addr) (c : Nat → Int) (n w m : Nat), vs = [.ref a, .int (n : Int)] ∧ SqL K H a ((lf w c).map V.int) ∧ n + 1 ≤ w ∧ n ≤ 60 ∧ m ≤ 100 ∧ (∀ j, Bt m (c j)) ∧ PD c ∧
  ∀ t q H', H t = none → H q = none → Ex H H' → H' t = some (.tup [.ref q, .int (Dn c n)]) → H' q = some (.lst ((lf n (Un c n)).map V.int)) → Q (.ref t) H'
theorem ok_law_solution (T : TX K mg) : FnOk P w K mg base CX0 1 T.a_law_solution T.d_law_solution ["sums", "size"] (sp_lsol K) := by
  refine T.F_law_solution.ok sc_law_solution (fun vs H Q E h => by obtain ⟨a, c, n, w, m, rfl, _⟩ := h; rfl) (fun cdv A outer s H vs Q E hr h => ?_)
  obtain ⟨a, c, n, wd, m, rfl, hA, hnw, hn, hm, hc, hpd, kk⟩ := h
  refine ⟨_, (pss_cons (ps_set (i := 2) sc_law_solution.nd rfl (Or.inr rfl) (pe_lst pa_nil))
      (pss_cons (ps_for PassesOwn.never rfl (pi_range1 (by rfl) T.m_range (pa_cons (pv 1) pa_nil)) (pg_name (i := 3) sc_law_solution.nd rfl (Or.inr rfl)) (pss_one (ps_expr (pe_bm PySem.F.plainAttrs_list PySem.F.slot_list_append PySem.F.type_list_append mt_append (pv 2) (pa_cons (pe_op op_cat (pe_lc (own := [("j", 8)]) (g := gName 8) (tt := tYes) rfl sc_law_solution.nd (pi_range1 (by rfl) T.m_range (pa_cons (pv 1) pa_nil)) (blkOk_by (N := ["sums", "size", "rows", "i", "before", "k", "pivot", "factor", "j", "row"]) (sc := defScope s_law_solution) (by decide +kernel)) (fun _ _ _ _ _ => pg_name (i := 8) sc_law_solution.nd rfl (Or.inl rfl)) (fun _ _ _ _ _ => pts_nil) (fun _ _ _ _ _ => (pe_ix (r := rIxL K) ix_list (pv 0) (pe_callB call_abs (by rfl) T.m_abs PyProof.Rows.boot_abs (pa_cons (pe_op op_sub (pv 3) (pv 8)) pa_nil)) (fun _ _ => rfl)))) (pe_lst (pa_cons (pe_ix (r := rIxL K) ix_list (pv 0) (pe_op op_add (pv 3) pe_int) (fun _ _ => rfl)) pa_nil))) pa_nil)))))
      (pss_cons (ps_set (i := 4) sc_law_solution.nd rfl (Or.inr rfl) pe_int)
      (pss_cons (ps_for PassesOwn.never rfl (pi_range1 (by rfl) T.m_range (pa_cons (pv 1) pa_nil)) (pg_name (i := 5) sc_law_solution.nd rfl (Or.inr rfl)) (pss_cons (ps_set (i := 6) sc_law_solution.nd rfl (Or.inr rfl) (pe_ix (r := rIxL K) ix_list (pe_ix (r := rIxL K) ix_list (pv 2) (pv 5) (fun _ _ => rfl)) (pv 5) (fun _ _ => rfl)))
        (pss_cons (ps_for PassesOwn.never rfl (pi_range1 (by rfl) T.m_range (pa_cons (pv 1) pa_nil)) (pg_name (i := 3) sc_law_solution.nd rfl (Or.inr rfl)) (pss_one (ps_if (pt_cmpR op_ne (pv 3) (pv 5) (nomark _)) (pss_cons (ps_set (i := 7) sc_law_solution.nd rfl (Or.inr rfl) (pe_ix (r := rIxL K) ix_list (pe_ix (r := rIxL K) ix_list (pv 2) (pv 3) (fun _ _ => rfl)) (pv 5) (fun _ _ => rfl)))
            (pss_one (ps_asg (pe_lc (own := [("j", 8)]) (g := gName 8) (tt := tYes) rfl sc_law_solution.nd (pi_range1 (by rfl) T.m_range (pa_cons (pe_op op_add (pv 1) pe_int) pa_nil)) (blkOk_by (N := ["sums", "size", "rows", "i", "before", "k", "pivot", "factor", "j", "row"]) (sc := defScope s_law_solution) (by decide +kernel)) (fun _ _ _ _ _ => pg_name (i := 8) sc_law_solution.nd rfl (Or.inl rfl)) (fun _ _ _ _ _ => pts_nil) (fun _ _ _ _ _ => (pe_op op_fdivW (pe_op op_sub (pe_op op_mulW (pe_ix (r := rIxL K) ix_list (pe_ix (r := rIxL K) ix_list (pv 2) (pv 3) (fun _ _ => rfl)) (pv 8) (fun _ _ => rfl)) (pv 6)) (pe_op op_mulW (pv 7) (pe_ix (r := rIxL K) ix_list (pe_ix (r := rIxL K) ix_list (pv 2) (pv 5) (fun _ _ => rfl)) (pv 8) (fun _ _ => rfl)))) (pv 4)))) (pg_sub (pv 2) (pv 3) set_list)))) pss_nil)))
        (pss_one (ps_set (i := 4) sc_law_solution.nd rfl (Or.inr rfl) (pv 6))))))
      (pss_one (ps_ret (pe_tup (pa_cons (pe_lc (own := [("row", 9)]) (g := gName 9) (tt := tYes) rfl sc_law_solution.nd (pi_list (pv 2)) (blkOk_by (N := ["sums", "size", "rows", "i", "before", "k", "pivot", "factor", "j", "row"]) (sc := defScope s_law_solution) (by decide +kernel)) (fun _ _ _ _ _ => pg_name (i := 9) sc_law_solution.nd rfl (Or.inl rfl)) (fun _ _ _ _ _ => pts_nil) (fun _ _ _ _ _ => (pe_ix (r := rIxL K) ix_list (pv 9) (pv 1) (fun _ _ => rfl)))) (pa_cons (pv 4) pa_nil))))))))), ?_⟩
  have hall := DT.lev_all hpd
  have hD0 : ∀ k, DT.det k (tp c) ≠ 0 := fun k => by have := (hall k).1; omega
  have hsol : ∀ k, ∀ b, Sol (tp c) k (DT.U (tp c) k b) b := fun k => DT.sol_all k (fun j _ => hD0 j) k (Nat.le_refl k)
  have hcol : ∀ j r, Bt m (colF c n j r) := fun j r => by unfold colF; split <;> exact hc _
  have hgj : ∀ k i j, k ≤ 60 → Bt (60 * 106 + 108) (gjR c n k i j) := fun k i j hk => (DT.gj_bt (DT.tp_bt hc) (hcol j) (by omega)).mono (by
    have : k * (m + 6) ≤ 60 * 106 := Nat.mul_le_mul hk (by omega)
    omega)
  refine q_asgL (xs := []) (el_lst ea_nil (by decide)) fun L H1 hL e1 g1 => ?_
  refine q_forR1 (n := (n : Int)) (ea_cons (ev_var rfl) ea_nil) (by omega) (fun i σ' H' => ∃ (z3 z8 : Option V), σ' = [some (.ref a), some (.int (n : Int)), some (.ref L), z3, none, none, none, none, z8, none] ∧ Ex H H' ∧ RoL H' L i (n + 1) (gjR c n 0)) (fun H2 e2 => ⟨none, none, rfl, e1.trans e2, [], e2 _ _ g1, rfl, fun i q h => by cases h⟩) ?_ ?_
  · rintro i σ' H2 hi ⟨z3, z8, rfl, ex, hR⟩
    have hR0 := hR
    obtain ⟨qs, gL, hql, hqs⟩ := hR
    refine s_appX gL (ev_var rfl) (ex_ofL (xs := (lf (n + 1) (gjR c n 0 i)).map V.int) (EvL.is (el_cat (xs := (lf n (gjR c n 0 i)).map V.int) (ys := [V.int (c (i + 1))]) (EvL.r (el_lcR (n := (n : Int)) _ (ea_cons (ev_var rfl) ea_nil) (by omega) (by rw [List.length_map, lf_len, Int.toNat_natCast]) (by rw [List.length_map, lf_len]; omega) (fun _ => rfl) fun j G eG hj => ?_)) (EvL.r (el_lst (vs := [V.int (c (i + 1))]) (ea_cons (ev_at (n := ((i + 1 : Nat) : Int)) (Ev.s (ev_var rfl) (ex_l ex hA)) (Ev.is (ev_I0 (g := fun i j => .int (i + j)) (ev_var rfl) ev_c) (congrArg V.int (by omega))) (at_of (j := i + 1) rfl (at_int (lf_at (by omega))))) ea_nil) (show 1 ≤ 100000 by decide))) (by rw [List.length_map, lf_len]; show n + 1 ≤ _; omega)) ?_)) (by rw [List.length_map, hql]; omega) fun v H3 e3 hv => ?_
    · rw [List.length_map, lf_len] at hj
      refine ⟨_, at_int (lf_at hj), Ev.is (ev_at (n := (((if j ≤ i then i - j else j - i : Nat)) : Int)) (Ev.s (ev_var rfl) (ex_l (ex.trans eG) hA)) (ev_absd (ev_var rfl) (ev_var rfl)) (at_of (j := if j ≤ i then i - j else j - i) rfl (at_int (lf_at (f := c) (by split <;> omega))))) (congrArg V.int ?_)⟩
      unfold gjR colF
      rw [if_pos hj, DT.gj_zero]
      rfl
    · rw [lf_succ, List.map_append]
      unfold gjR colF
      rw [DT.gj_zero, if_neg (by omega)]
      rfl
    · obtain ⟨q, rfl, hq, gq⟩ := hv
      exact ⟨_, _, rfl, Ex.mut (ex.trans e3) hL, RoL.snoc gL hR0 e3 hq gq⟩
  rintro σ' H2 ⟨z3, z8, rfl, ex2, hR2⟩
  rw [Int.toNat_natCast] at hR2
  refine q_asg (v := .int (Dn c 0)) ev_c fun H3 e3 => ?_
  refine q_forR1 (n := (n : Int)) (ea_cons (ev_var rfl) ea_nil) (by omega) (fun k σ' H' => ∃ (z3 z5 z6 z7 z8 : Option V), σ' = [some (.ref a), some (.int (n : Int)), some (.ref L), z3, some (.int (Dn c k)), z5, z6, z7, z8, none] ∧ Ex H H' ∧ RoL H' L n (n + 1) (gjR c n k)) (fun H4 e4 => ⟨z3, none, none, none, z8, rfl, ex2.trans (e3.trans e4), hR2.ex (e3.trans e4)⟩) ?_ ?_
  · rintro k σ' G hk' ⟨z3, z5, z6, z7, z8, rfl, ex, hR⟩
    have hk : k < n := by omega
    have hpiv : gjR c n k k k = Dn c (k + 1) := by
      unfold gjR colF
      rw [if_pos hk]
      exact DT.gj_pivot (hsol k) (hD0 k)
    have hDb : Bt (60 * 106 + 1) (Dn c k) := (dn_bt hc (by omega)).mono (by
      have : k * (m + 6) ≤ 60 * 106 := Nat.mul_le_mul (by omega) (by omega)
      omega)
    have hDb1 : Bt (60 * 106 + 1) (Dn c (k + 1)) := (dn_bt hc (by omega)).mono (by
      have : (k + 1) * (m + 6) ≤ 60 * 106 := Nat.mul_le_mul (by omega) (by omega)
      omega)
    refine q_asg (v := .int (Dn c (k + 1))) (Ev.is (ev_rol hR hk (by omega) (ev_var rfl) (ev_var rfl) (ev_var rfl)) (congrArg V.int hpiv)) fun G1 f1 => ?_
    refine q_forR1 (n := (n : Int)) (ea_cons (ev_var rfl) ea_nil) (by omega) (fun i σ' H' => ∃ (z3 z7 z8 : Option V), σ' = [some (.ref a), some (.int (n : Int)), some (.ref L), z3, some (.int (Dn c k)), some (.int (k : Int)), some (.int (Dn c (k + 1))), z7, z8, none] ∧ Ex H H' ∧ RoL H' L n (n + 1) (fun i' j => if i' < i ∧ i' ≠ k then gjR c n (k + 1) i' j else gjR c n k i' j)) (fun G2 f2 => ⟨z3, z7, z8, rfl, ex.trans (f1.trans f2), (hR.ex (f1.trans f2)).to fun i j _ _ => by rw [if_neg (by omega)]⟩) ?_ ?_
    · rintro i σ' G2 hi' ⟨z3, z7, z8, rfl, ex, hR⟩
      have hi : i < n := by omega
      refine s_when (b := !decide (V.int (i : Int) = V.int (k : Int))) (et_test (ev_ne (ev_var rfl) (ev_var rfl) rfl)) (fun hb G3 f3 => ?_) (fun hb G3 f3 => ?_)
      · have hik : i ≠ k := fun h => by rw [h, decide_eq_true rfl] at hb; cases hb
        have ri : ∀ j, (if i < i ∧ i ≠ k then gjR c n (k + 1) i j else gjR c n k i j) = gjR c n k i j := fun j => by rw [if_neg (by omega)]
        have rk : ∀ j, (if k < i ∧ k ≠ k then gjR c n (k + 1) k j else gjR c n k k j) = gjR c n k k j := fun j => by rw [if_neg (fun z => z.2 rfl)]
        have hR3 := hR.ex f3
        refine q_asg (v := .int (gjR c n k i k)) (Ev.is (ev_rol hR3 hi (by omega) (ev_var rfl) (ev_var rfl) (ev_var rfl)) (congrArg V.int (ri k))) fun G4 f4 => ?_
        have hR4 := hR3.ex f4
        have hR5 := hR4
        obtain ⟨qs, gL, hql, hqs⟩ := hR4
        refine s_setLR2 (l := L) (j := i) (ys := (lf (n + 1) (gjR c n (k + 1) i)).map V.int) gL (el_lcR (n := ((n + 1 : Nat) : Int)) _ (ea_cons (Ev.is (ev_I0 (g := fun i j => .int (i + j)) (ev_var rfl) ev_c) (congrArg V.int (by omega))) ea_nil) (by omega) (by rw [List.length_map, lf_len, Int.toNat_natCast]) (by rw [List.length_map, lf_len]; omega) (fun _ => rfl) fun j G5 f5 hj => ?_) (ev_var rfl) (ev_var rfl) (by rw [List.length_map, hql]; exact hi) fun q G5 hq f5 gq => ⟨_, _, _, rfl, Ex.mut (ex.trans (f3.trans (f4.trans f5))) hL, RoL.put gL hR5 f5 hq (fun i' hne => ?_) ?_⟩
        · rw [List.length_map, lf_len] at hj
          have hst := DT.gj_step (hsol k) (hD0 k) (hD0 (k + 1)) (colF c n j) hik
          have hR6 := hR5.ex f5
          refine ⟨_, at_int (lf_at hj), Ev.is (ev_I (ev_I0 (g := fun i j => .int (i - j)) (ev_I (ev_rol hR6 hi hj (ev_var rfl) (ev_var rfl) (ev_var rfl)) (ev_var rfl) (by rw [ri]; exact cmulw (hgj k i j (by omega)) hDb1 (by decide))) (ev_I (ev_var rfl) (ev_rol hR6 hk hj (ev_var rfl) (ev_var rfl) (ev_var rfl)) (by rw [rk]; exact cmulw (hgj k i k (by omega)) (hgj k k j (by omega)) (by decide)))) (ev_var rfl) (cdivw (hall k).1 hDb (by decide))) (congrArg V.int ?_)⟩
          rw [ri, rk]
          have hcol : colF c n k = tp c k := by unfold colF; rw [if_pos hk]
          have h2 : gjR c n k i j * Dn c (k + 1) - gjR c n k i k * gjR c n k k j = Dn c k * gjR c n (k + 1) i j := by
            unfold gjR
            rw [hcol]
            exact hst
          rw [h2]
          exact Int.mul_ediv_cancel_left _ (hD0 k)
        · funext j
          by_cases h : i' < i ∧ i' ≠ k
          · rw [if_pos h, if_pos (by omega)]
          · rw [if_neg h, if_neg (by omega)]
        · rw [gq]
          congr 3
          exact lf_congr fun j _ => by rw [if_pos ⟨by omega, hik⟩]
      · have hik : i = k := by
          have : V.int (i : Int) = V.int (k : Int) := of_decide_eq_true (by rw [Bool.not_eq_false'] at hb; exact hb)
          have := V.int.inj this
          omega
        refine ⟨_, _, _, rfl, ex.trans f3, (hR.ex f3).to fun i' j _ _ => ?_⟩
        by_cases h : i' < i ∧ i' ≠ k
        · rw [if_pos h, if_pos (by omega)]
        · rw [if_neg h, if_neg (by omega)]
    · rintro σ' G2 ⟨z3, z7, z8, rfl, ex, hR⟩
      rw [Int.toNat_natCast] at hR
      refine s_asg (v := .int (Dn c (k + 1))) (ev_var rfl) fun G3 f3 => ⟨_, _, _, _, _, rfl, ex.trans f3, (hR.ex f3).to fun i j hi hj => ?_⟩
      by_cases h : i = k
      · rw [if_neg (fun z => z.2 h), h]
        exact (DT.gj_keep (hsol k) (hD0 k) (colF c n j)).symm
      · rw [if_pos ⟨hi, h⟩]
  · rintro σ' G ⟨z3, z5, z6, z7, z8, rfl, ex, hR⟩
    rw [Int.toNat_natCast] at hR ⊢
    have hR0 := hR
    obtain ⟨qs, gL, hql, hqs⟩ := hR
    refine s_retLV (xs := (lf n (Un c n)).map V.int) (v := .int (Dn c n)) (el_lcS (K := K) (xs := qs.map V.ref) _ (Ev.s (ev_var rfl) (sq_of gL)) (by rw [List.length_map, List.length_map, lf_len, hql]) (by rw [List.length_map, lf_len]; omega) (fun _ => rfl) fun i z G1 f1 hz => ?_) (fun _ _ => ev_var rfl) fun t q H7 ht hq e7 g7 g8 => kk t q H7 (fresh_back ex ht) (fresh_back ex hq) (ex.trans e7) g7 g8
    rw [List.getElem?_map] at hz
    obtain ⟨q, hq, rfl⟩ := Option.map_eq_some_iff.mp hz
    have hi : i < n := by rw [← hql]; exact (List.getElem?_eq_some_iff.mp hq).1
    have hv : gjR c n n i n = Un c n i := by
      show (if i < n then DT.U (tp c) n (colF c n n) i else _) = _
      rw [if_pos hi]
      unfold colF
      rw [if_neg (Nat.lt_irrefl n)]
      rfl
    exact ⟨_, at_int (lf_at hi), Ev.is (ev_at (n := (n : Int)) (Ev.s (ev_var rfl) (sq_of (f1 _ _ (hqs i q hq).2))) (ev_var rfl) (at_of (j := n) rfl (at_int (lf_at (by omega))))) (congrArg V.int hv)⟩

-- PREDS
/-! ### the law's rounding -/
theorem rowQ_at {ns : List Int} {b : Int} {s i : Nat} {n : Int} (h : ns[i]? = some n) : (rowQ ns b s)[i]? = some (rnd (n * 2 ^ s) b) := by unfold rowQ; rw [List.getElem?_map, h]; rfl
theorem rowQ_len (ns : List Int) (b : Int) (s : Nat) : (rowQ ns b s).length = ns.length := List.length_map ..
def sp_lqz (K : PySem.W.Frag) : Sp := fun vs H Q _ => ∃ (a : Addr) (ns : List Int) (b : Int) (p : Nat), vs = [.ref a, .int b, .int (p : Int)] ∧ SqL K H a (ns.map V.int) ∧ ns.length ≤ 1000 ∧ 0 < ns.length ∧ SmallN ns ∧ 0 < b ∧ DT.Bt 8900 b ∧ 1 ≤ p ∧ p ≤ 1000 ∧ RetO ns b (pick (sizeF ns b) (2 ^ (p - 1) - 1) 16) H Q
theorem p2_bt (s : Nat) : DT.Bt (s + 1) (2 ^ s : Int) := by
  have e : (2 : Int) ^ s = ((2 ^ s : Nat) : Int) := (Int.natCast_pow 2 s).symm
  unfold DT.Bt
  rw [e, Int.natAbs_natCast, Nat.pow_succ]
  have := Nat.two_pow_pos s
  omega
theorem rndN_bt {a b : Int} {N : Nat} (h : DT.Bt N a) (ha : 0 ≤ a) (hb : 0 < b) : DT.Bt (N + 1) (rndN a b) := by
  have h1 : rndN a b ≤ a + 1 := by
    unfold rndN
    have : (2 * a + b) / (2 * b) ≤ (2 * b * (a + 1)) / (2 * b) := Int.ediv_le_ediv (by omega) (by
      have h2 : 2 * (a + 1) * 1 ≤ 2 * (a + 1) * b := Int.mul_le_mul_of_nonneg_left (by omega) (by omega)
      have h3 : 2 * b * (a + 1) = 2 * (a + 1) * b := by rw [Int.mul_assoc, Int.mul_comm b, ← Int.mul_assoc]
      have h4 : 2 * (a + 1) * b = 2 * a * b + 2 * b := by rw [Int.mul_add, Int.add_mul]; omega
      have h5 : 2 * a * 1 ≤ 2 * a * b := Int.mul_le_mul_of_nonneg_left (by omega) (by omega)
      omega)
    rw [Int.mul_ediv_cancel_left _ (by omega)] at this
    exact this
  have h0 : 0 ≤ rndN a b := rndN_nn ha hb
  unfold DT.Bt at *
  rw [Nat.pow_succ]
  have := Nat.two_pow_pos N
  omega
theorem ok_law_quantized (T : TX K mg) : FnOk P w K mg base CX0 1 T.a_law_quantized T.d_law_quantized ["numerators", "denominator", "digits"] (sp_lqz K) := by
  refine T.F_law_quantized.ok sc_law_quantized (fun vs H Q E h => by obtain ⟨a, ns, b, p, rfl, _⟩ := h; rfl) (fun cdv A outer s0 H vs Q E hr h => ?_)
  obtain ⟨a, ns, b, p, rfl, hS, hl, hne, hsm, hb, hb2, hp1, hp2, k⟩ := h
  refine ⟨_, (pss_cons (ps_set (i := 3) sc_law_quantized.nd rfl (Or.inl rfl) (pe_op op_sub (pe_op op_shl pe_int (pe_op op_sub (pv 2) pe_int)) pe_int))
      (pss_cons (ps_for PassesOwn.never rfl (pi_range1 (by rfl) T.m_range (pa_cons pe_int pa_nil)) (pg_name (i := 4) sc_law_quantized.nd rfl (Or.inl rfl)) (pss_cons (ps_set (i := 5) sc_law_quantized.nd rfl (Or.inl rfl) (pe_op op_shl pe_int (pe_op op_sub pe_int (pv 4))))
        (pss_cons (ps_set (i := 6) sc_law_quantized.nd rfl (Or.inl rfl) (pe_lst pa_nil))
        (pss_cons (ps_for PassesOwn.never rfl (pi_list (pv 0)) (pg_name (i := 7) sc_law_quantized.nd rfl (Or.inl rfl)) (pss_cons (ps_set (i := 8) sc_law_quantized.nd rfl (Or.inl rfl) (pe_op op_fdivW (pe_op op_add (pe_op op_mulW (pe_op op_mulW (pe_callB call_abs (by rfl) T.m_abs PyProof.Rows.boot_abs (pa_cons (pv 7) pa_nil)) (pv 5)) pe_int) (pv 1)) (pe_op op_mulW (pv 1) pe_int)))
          (pss_one (ps_expr (pe_bm PySem.F.plainAttrs_list PySem.F.slot_list_append PySem.F.type_list_append mt_append (pv 6) (pa_cons (pe_op op_sub (pv 8) (pe_op op_mulW (pe_op op_mulW pe_int (pv 8)) (pe_callTy call_int1 (by rfl) T.m_int PyProof.Rows.boot_int (pa_cons (pe_cmpR op_lt (pv 7) pe_int (nomark _)) pa_nil)))) pa_nil))))))
        (pss_cons (ps_set (i := 9) sc_law_quantized.nd rfl (Or.inl rfl) (pe_callB (r := rMax K) (cr_max rfl) (by rfl) T.m_max PyProof.Rows.boot_max (pa_cons (pe_lc (own := [("x", 7)]) (g := gName 7) (tt := tYes) rfl sc_law_quantized.nd (pi_list (pv 6)) (blkOk_by (N := ["numerators", "denominator", "digits", "bound", "step", "scale", "row", "x", "magnitude", "largest"]) (sc := defScope s_law_quantized) (by decide +kernel)) (fun _ _ _ _ _ => pg_name (i := 7) sc_law_quantized.nd rfl (Or.inl rfl)) (fun _ _ _ _ _ => pts_nil) (fun _ _ _ _ _ => (pe_callB call_abs (by rfl) T.m_abs PyProof.Rows.boot_abs (pa_cons (pv 7) pa_nil)))) pa_nil)))
        (pss_one (ps_if (pt_cmpR op_le (pv 9) (pv 3) (nomark _)) (pss_cons (ps_if (pt_cmpR op_eq (pv 9) pe_int (nomark _)) (pss_one (ps_ret pe_non)) pss_nil)
          (pss_one (ps_ret (pe_tup (pa_cons (pv 6) (pa_cons (pe_op op_sub pe_int (pv 4)) pa_nil)))))) pss_nil)))))))
      (pss_one (ps_ret pe_non)))), ?_⟩
  refine q_asg (v := .int (2 ^ (p - 1) - 1)) (Ev.is (ev_I0 (ev_I ev_c (ev_I0 (ev_var rfl) ev_c) (show CPow 1 ((p : Int) - 1) from ⟨by omega, by omega, by decide⟩)) ev_c) (congrArg V.int (by rw [show ((p : Int) - 1).toNat = p - 1 by omega, Int.one_mul]))) fun H1 e1 => ?_
  generalize (2 : Int) ^ (p - 1) - 1 = bd at *
  refine q_forR1 (n := 16) (ea_cons ev_c ea_nil) (by decide) (fun i σ' H' => ∃ z4 z5 z6 z7 z8 z9 : Option V, σ' = [some (.ref a), some (.int b), some (.int (p : Int)), some (.int bd), z4, z5, z6, z7, z8, z9] ∧ Ex H H' ∧ pick (sizeF ns b) bd 16 = pick (sizeF ns b) bd (16 - i)) (fun H2 e2 => ⟨none, none, none, none, none, none, rfl, e1.trans e2, rfl⟩) ?_ ?_
  · rintro i σ' H2 hi' ⟨z4, z5, z6, z7, z8, z9, rfl, ex, hpk⟩
    have hi : i < 16 := by omega
    obtain ⟨s, hs⟩ : ∃ s, 15 - i = s := ⟨_, rfl⟩
    rw [show 16 - i = s + 1 by omega] at hpk
    refine q_asg (v := .int (2 ^ s)) (Ev.is (ev_I ev_c (ev_I0 (g := fun i j => .int (i - j)) ev_c (ev_var rfl)) (show CPow 1 ((15 : Int) - (i : Int)) from ⟨by omega, by omega, by decide⟩)) (congrArg V.int (by rw [show ((15 : Int) - (i : Int)).toNat = s by omega, Int.one_mul]))) fun H3 e3 => ?_
    refine q_asgL (xs := []) (el_lst ea_nil (by decide)) fun pr H4 hpr e4 g4 => ?_
    have ex4 := ex.trans (e3.trans e4)
    have hprf : H pr = none := fresh_back (ex.trans e3) hpr
    show tSeq _ _ _ [some (.ref a), some (.int b), some (.int (p : Int)), some (.int bd), some (.int (i : Int)), some (.int (2 ^ s)), some (.ref pr), z7, z8, z9] _
    have hrl : (rowQ ns b s).length = ns.length := rowQ_len ns b s
    refine q_forLn (K := K) (a := a) (ev_var rfl) (ex_l ex4 hS) (fun j σ' H' => ∃ z7 z8 : Option V, σ' = [some (.ref a), some (.int b), some (.int (p : Int)), some (.int bd), some (.int (i : Int)), some (.int (2 ^ s)), some (.ref pr), z7, z8, z9] ∧ Ex H H' ∧ H' pr = some (.lst (((rowQ ns b s).take j).map V.int))) (fun H5 e5 => ⟨z7, z8, rfl, ex4.trans e5, e5 _ _ g4⟩) (fun j σ' H' _ h => by obtain ⟨_, _, _, ex, _⟩ := h; exact ex_l ex hS) ?_ ?_
    · rintro j x σ' H5 hx ⟨z7, z8, rfl, ex5, g5⟩
      obtain ⟨n, hn, hj, rfl⟩ := int_at hx
      have hnb : DT.Bt 8900 n := hsm n (List.mem_of_getElem? hn)
      have hab : DT.Bt 8900 (absI n) := by unfold absI; split; exact hnb.neg; exact hnb
      have hpb := p2_bt s
      have h0 := absI_nn n
      have hap : 0 ≤ absI n * 2 ^ s := Int.mul_nonneg h0 (Int.le_of_lt (p2pos s))
      have hmb : DT.Bt (8900 + (s + 1)) (absI n * 2 ^ s) := hab.mul hpb
      have c2 : DT.Bt 2 2 := by show (2 : Int).natAbs < 2 ^ 2; decide
      have mg : CMulW (absI n) (2 ^ s) := by
        have a1 := hab.log
        have a2 := hpb.log
        show (absI n).natAbs.log2 + (2 ^ s : Int).natAbs.log2 < 1000000
        omega
      have cw : ∀ {x y : Int} {N M : Nat}, DT.Bt N x → DT.Bt M y → N + M < 1000000 → CMulW x y := fun h1 h2 h => by
        have a1 := h1.log
        have a2 := h2.log
        show _ + _ < 1000000
        omega
      have hrb := rndN_bt hmb hap hb
      refine q_asg (v := .int (rndN (absI n * 2 ^ s) b)) (Ev.is (ev_I (ev_I0 (g := fun i j => .int (i + j)) (ev_I (ev_I (ev_abs (ev_var rfl)) (ev_var rfl) mg) ev_c (cw hmb c2 (by omega))) (ev_var rfl)) (ev_I (ev_var rfl) ev_c (cw hb2 c2 (by omega))) ⟨by omega, by rw [Int.mul_comm b 2]; exact log_lt hb2⟩) (congrArg V.int (by rw [Int.mul_comm _ 2, Int.mul_comm b 2]; rfl))) fun H6 e6 => ?_
      refine s_app (v := .int (rnd (n * 2 ^ s) b)) (e6 _ _ g5) (ev_var rfl) (Ev.is (ev_I0 (g := fun i j => .int (i - j)) (ev_var rfl) (ev_I (ev_I ev_c (ev_var rfl) (cw c2 hrb (by omega))) (ev_intB (ev_I0 (g := fun i j => .bl (decide (i < j))) (ev_var rfl) ev_c)) (cw (c2.mul hrb) (show DT.Bt 2 (if decide (n < 0) = true then 1 else 0) by split <;> (show (_ : Int).natAbs < 4; decide)) (by omega)))) (congrArg V.int ?_)) (by rw [List.length_map, List.length_take]; omega) fun H7 e7 => ⟨_, _, rfl, Ex.mut (ex5.trans (e6.trans e7)) hprf, by rw [upd_same, takeG (rowQ_at hn), List.map_append]; rfl⟩
      unfold rnd
      by_cases h : n < 0
      · have hz : n * 2 ^ s < 0 := (mul_p2_neg s).mpr h
        rw [if_pos (decide_eq_true h), if_pos hz]
        have : absI n * 2 ^ s = -(n * 2 ^ s) := by unfold absI; rw [if_pos h, Int.neg_mul]
        rw [this]
        omega
      · have hz : ¬ n * 2 ^ s < 0 := fun z => h ((mul_p2_neg s).mp z)
        rw [if_neg (by rw [decide_eq_false h]; decide), if_neg hz]
        have : absI n = n := by unfold absI; rw [if_neg h]
        rw [this]
        omega
    · rintro σ' H5 ⟨z7, z8, rfl, ex5, g5⟩
      rw [List.length_map, ← hrl, List.take_length] at g5
      obtain ⟨t1, t2⟩ := size_top (ns := ns) s hb hne
      refine q_asg (v := .int (sizeF ns b s)) (ev_max (ns := (rowQ ns b s).map absI) (EvR.s (EvL.r (EvL.is (xs := (rowQ ns b s).map fun n => V.int (absI n)) (el_lcS _ (Ev.s (ev_var rfl) (sq_of g5)) (by rw [List.length_map, List.length_map]) (by rw [List.length_map]; omega) (fun _ => rfl) fun j x H4 e4 hx => ?_) (by rw [List.map_map]; rfl)))) t1 t2) fun H6 e6 => ?_
      · obtain ⟨n, hn, hj, rfl⟩ := int_at hx
        exact ⟨.int (absI n), by rw [List.getElem?_map, hn]; rfl, ev_abs (ev_var rfl)⟩
      have ex6 := ex5.trans e6
      have step : pick (sizeF ns b) bd 16 = if sizeF ns b s ≤ bd then (if sizeF ns b s = 0 then none else some s) else pick (sizeF ns b) bd s := hpk
      refine s_when (b := decide (sizeF ns b s ≤ bd)) (et_test (ev_I0 (ev_var rfl) (ev_var rfl))) (fun hle H7 e7 => ?_) (fun hle H7 e7 => ?_)
      · have hle := of_decide_eq_true hle
        rw [if_pos hle] at step
        rw [step] at k
        refine q_when (b := decide (V.int (sizeF ns b s) = V.int 0)) (et_test (ev_eq (ev_var rfl) ev_c rfl)) (fun h0 H8 e8 => ?_) (fun h0 H8 e8 => ?_)
        · have h0 : sizeF ns b s = 0 := V.int.inj (of_decide_eq_true h0)
          rw [if_pos h0] at k
          exact s_ret (v := .non) ev_c fun H9 e9 => (show RetV .non H Q from k).go (ex6.trans (e7.trans (e8.trans e9)))
        · have h0 : ¬ sizeF ns b s = 0 := fun z => of_decide_eq_false h0 (congrArg V.int z)
          rw [if_neg h0] at k
          have e08 := ex6.trans (e7.trans e8)
          refine (eu_tup (ea_cons (ev_var rfl) (ea_cons (ev_I0 (g := fun i j => .int (i - j)) ev_c (ev_var rfl)) ea_nil)) (Nat.le_of_ble_eq_true rfl)) H8 (Ex.refl _) _ fun t H9 ht e9 g9 => ?_
          exact (show RetO ns b (some s) H Q from k) t pr H9 (fresh_back e08 ht) hprf (e08.trans e9) (by rw [g9, show (15 : Int) - (i : Int) = (s : Int) by omega]) ((e6.trans (e7.trans (e8.trans e9))) _ _ g5)
      · have hle := of_decide_eq_false hle
        rw [if_neg hle] at step
        exact ⟨_, _, _, _, _, _, rfl, ex6.trans e7, by rw [step, show 16 - (i + 1) = s by omega]⟩
  · rintro σ' H2 ⟨z4, z5, z6, z7, z8, z9, rfl, ex, hpk⟩
    have hpk : pick (sizeF ns b) bd 16 = none := hpk
    rw [hpk] at k
    exact s_ret (v := .non) ev_c fun H7 e7 => (show RetV .non H Q from k).go (ex.trans e7)

/-! ### the quantized predictors of a row -/
open DT (Bt PD tp Sol)
def pq (c : Nat → Int) (p k : Nat) : Option Nat := pick (sizeF (lf (k + 1) (Un c (k + 1))) (Dn c (k + 1))) (2 ^ (p - 1) - 1) 16
def pRow (c : Nat → Int) (k s : Nat) : List Int := rowQ (lf (k + 1) (Un c (k + 1))) (Dn c (k + 1)) s
def PrAt (c : Nat → Int) (p k : Nat) (H : Hp) (v : V) : Prop := match pq c p k with
  | none => v = .non
  | some s => ∃ t a, v = .ref t ∧ H t = some (.tup [.ref a, .int (s : Int)]) ∧ H a = some (.lst ((pRow c k s).map V.int))
def PrD (c : Nat → Int) (p k : Nat) (D : Addr) (H : Hp) (v : V) : Prop := match pq c p k with
  | none => v = .non
  | some s => ∃ t a, v = .ref t ∧ t ≠ D ∧ a ≠ D ∧ H t = some (.tup [.ref a, .int (s : Int)]) ∧ H a = some (.lst ((pRow c k s).map V.int))
theorem PrD.to {c : Nat → Int} {p k : Nat} {D : Addr} {H H' : Hp} {v : V} (h : PrD c p k D H v) (e : ∀ a o, a ≠ D → H a = some o → H' a = some o) : PrD c p k D H' v := by
  unfold PrD at *
  split at h
  · exact h
  · obtain ⟨t, a, rfl, h1, h2, h3, h4⟩ := h
    exact ⟨t, a, rfl, h1, h2, e _ _ h1 h3, e _ _ h2 h4⟩
theorem PrD.at {c : Nat → Int} {p k : Nat} {D : Addr} {H : Hp} {v : V} (h : PrD c p k D H v) : PrAt c p k H v := by
  unfold PrD at h
  unfold PrAt
  split at h
  · exact h
  · obtain ⟨t, a, rfl, h1, h2, h3, h4⟩ := h
    exact ⟨t, a, rfl, h3, h4⟩
theorem PrAt.ex {c : Nat → Int} {p k : Nat} {H H' : Hp} {v : V} (h : PrAt c p k H v) (e : Ex H H') : PrAt c p k H' v := by
  unfold PrAt at *
  split at h
  · exact h
  · obtain ⟨t, a, rfl, h3, h4⟩ := h
    exact ⟨t, a, rfl, e _ _ h3, e _ _ h4⟩
theorem q_asgCL1 {σ : L2.St} {H : Hp} {te : TE} {xs : List V} {i : Nat} {sp : Sp} {dvs : List V} {E : XK} {tz : TS} {D : Ends} (h : EvL te σ H xs) (k : ∀ H1 p, H p = none → Ex H H1 → H1 p = some (.lst xs) → sp ([.ref p] ++ dvs) H1 (fun x H2 => tz D (σ.set i (some x)) H2) E) : tSeq (tAsg (tCall sp dvs E (tCons te tNil)) (gName i)) tz D σ H := h H (Ex.refl _) _ fun p H1 hp e g => k H1 p hp e g
theorem s_retLcL {σ : L2.St} {H : Hp} {t1 te : TE} {g : TG} {tt : TT} {vs : List Nat} {L : Addr} {xs : List V} {D : Ends} (Pv : Addr → Nat → Hp → Prop) (h : Ev t1 σ H (.ref L)) (hx : SqL K H L xs) (h0 : ∀ A H1, Ex H H1 → H1 A = none → Pv A 0 (upd H1 A (.lst []))) (hl : ∀ A i H', Pv A i H' → SqL K H' L xs)
    (hs : ∀ A i x H', xs[i]? = some x → Pv A i H' → g x (wipe σ vs) H' fun σ2 H2 => wipe σ2 vs = wipe σ vs ∧ tt σ2 H2 fun b H3 => if b = true then te σ2 H3 fun y H4 => ∃ acc, H4 A = some (.lst acc) ∧ acc.length < sizeLine ∧ Pv A (i + 1) (upd H4 A (.lst (acc ++ [y]))) else Pv A (i + 1) H3) (hd : ∀ A H', Pv A xs.length H' → D.rt (.ref A) H') : tRet (tLc (iList K t1) g tt te vs) D σ H :=
  h H (Ex.refl H) _ fun H1 e => ⟨L, rfl, ⟨xs, ex_l e hx⟩, fun A hA => lc_list (xs := xs) (Pv A) (h0 A H1 e hA) (fun i H' _ hp => hl A i H' hp) (hs A) (hd A)⟩
def sp_preds (K : PySem.W.Frag) : Sp := fun vs H Q _ => ∃ (a : Addr) (ns : List Int) (most p m : Nat), vs = [.ref a, .int (most : Int), .int (p : Int)] ∧ SqL K H a (ns.map V.int) ∧ ns.length ≤ 1000 ∧ most ≤ 60 ∧ 1 ≤ p ∧ p ≤ 1000 ∧ m ≤ 100 ∧ BdA (wgt ns) ∧ (∀ j, Bt m (lagS (wgt ns) j)) ∧
  ∀ L (vs' : List V) H', H L = none → Ex H H' → H' L = some (.lst vs') → vs'.length = most → (∀ k v, vs'[k]? = some v → if lagS (wgt ns) 0 = 0 then v = .non else PrAt (lagS (wgt ns)) p k H' v) → Q (.ref L) H'
theorem ok_predictors (T : TX K mg) : FnOk P w K mg base CX0 5 T.a_predictors T.d_predictors ["samples", "most", "precision"] (sp_preds K) := by
  refine T.F_predictors.ok sc_predictors (fun vs H Q E h => by obtain ⟨a, ns, most, p, m, rfl, _⟩ := h; rfl) (fun cdv A outer s0 H vs Q E hr h => ?_)
  obtain ⟨a, ns, most, p, m, rfl, hS, hl, hmo, hp1, hp2, hm, hbd, hcb, k⟩ := h
  refine ⟨_, (pss_cons (ps_set (i := 3) sc_predictors.nd rfl (Or.inl rfl) (pe_call (ok_exact_predictors T) (hr.mono (by decide)) (by rfl) T.g_exact_predictors T.F_exact_predictors.kp T.b_exact_predictors .nil pass0 (pa_cons (pe_call (ok_autocorrelation T) (hr.mono (by decide)) (by rfl) T.g_autocorrelation T.F_autocorrelation.kp T.b_autocorrelation .nil pass0 (pa_cons (pe_call (ok_weighted T) (hr.mono (by decide)) (by rfl) T.g_weighted T.F_weighted.kp T.b_weighted .nil pass0 (pa_cons (pv 0) pa_nil)) (pa_cons (pv 1) pa_nil))) pa_nil)))
      (pss_cons (ps_if (pt_cmpR op_eq (pe_callB (r := rLenS K) call_len_seq (by rfl) T.m_len PySem.boot_len (pa_cons (pv 3) pa_nil)) pe_int (nomark _)) (pss_one (ps_ret (pe_op op_rep (pe_lst (pa_cons pe_non pa_nil)) (pv 1)))) pss_nil)
      (pss_one (ps_ret (pe_lc (own := [("numerators", 4), ("denominator", 5)]) (g := (gTup K 2 (gCons (gName 4) (gCons (gName 5) gNil)))) (tt := tYes) rfl sc_predictors.nd (pi_list (pv 3)) (blkOk_by (N := ["samples", "most", "precision", "exact", "numerators", "denominator"]) (sc := defScope s_predictors) (by decide +kernel)) (fun _ _ _ _ _ => (pg_tup rfl (pgs_cons (pg_name (i := 4) sc_predictors.nd rfl (Or.inl rfl)) (pgs_cons (pg_name (i := 5) sc_predictors.nd rfl (Or.inl rfl)) pgs_nil)))) (fun _ _ _ _ _ => pts_nil) (fun _ _ _ _ _ => (pe_call (ok_quantize T) (hr.mono (by decide)) (by rfl) T.g_quantize T.F_quantize.kp T.b_quantize .nil pass0 (pa_cons (pv 4) (pa_cons (pv 5) (pa_cons (pv 2) pa_nil)))))))))), ?_⟩
  obtain ⟨c, hc⟩ : ∃ c, lagS (wgt ns) = c := ⟨_, rfl⟩
  have hpd : c 0 ≠ 0 → PD c := fun h => by rw [← hc] at h ⊢; exact lag_pd h
  rw [hc] at hcb k
  refine q_asgCL1 (xs := (lf (most + 1) c).map V.int) (EvL.is (el_acor (K := K) (m := most) (EvR.s (EvL.r (el_weighted (Ev.s (ev_var rfl) hS) hl))) (ev_var rfl) (by rw [wgt_len]; exact hl) (by omega) hbd) (by rw [acor_lf, hc])) fun H1 pc hpc e1 g1 => ⟨pc, c, most + 1, m, rfl, sq_of g1, by omega, by omega, hm, hcb, hpd, fun L ts H2 hL e2 gL htl hts => ?_⟩
  have e12 := e1.trans e2
  refine q_when (b := decide (ts.length = 0)) (et_test (Ev.is (ev_eq (ev_lenS (K := K) (Ev.s (ev_var rfl) (sq_of gL))) ev_c rfl) (congrArg V.bl (decide_eq_decide.mpr (by rw [List.length_map]; exact ⟨fun h => by have := V.int.inj h; omega, fun h => by rw [h]; rfl⟩))))) (fun hb H3 e3 => ?_) (fun hb H3 e3 => ?_)
  · have hb := of_decide_eq_true hb
    refine s_retL (xs := List.replicate most V.non) (EvL.is (el_rep (xs := [V.non]) (k := (most : Int)) (EvL.r (el_lst (ea_cons ev_c ea_nil) (by decide))) (ev_var rfl) (by omega) (by rw [Int.toNat_natCast]; show 1 * most ≤ _; omega)) (by rw [Int.toNat_natCast, List.flatten_replicate_singleton])) fun r H4 hr e4 g4 => k r _ H4 (fresh_back (e12.trans e3) hr) (e12.trans (e3.trans e4)) g4 (List.length_replicate ..) fun i v hv => ?_
    have hvm : v = .non := List.eq_of_mem_replicate (List.mem_of_getElem? hv)
    have hi : i < most := by
      have := (List.getElem?_eq_some_iff.mp hv).1
      rwa [List.length_replicate] at this
    rw [hb] at htl
    by_cases h0 : c 0 = 0
    · rw [if_pos h0]; exact hvm
    · rw [if_neg h0] at htl
      omega
  have hb := of_decide_eq_false hb
  have hc0 : c 0 ≠ 0 := fun h => by rw [if_pos h] at htl; exact hb htl
  rw [if_neg hc0, Nat.add_sub_cancel] at htl
  have hall := DT.lev_all (hpd hc0)
  have gL3 := e3 _ _ gL
  have hts3 : ∀ k t, ts[k]? = some t → ExAt c H3 t k := fun k t h => (hts k t h).ex e3
  refine s_retLcL (K := K) (L := L) (xs := ts.map V.ref) (fun D i H' => Ex H H' ∧ Ex H3 H' ∧ H D = none ∧ H3 D = none ∧ ∃ vs' : List V, H' D = some (.lst vs') ∧ vs'.length = i ∧ ∀ k v, vs'[k]? = some v → PrD c p k D H' v) (ev_var rfl) (sq_of gL3) (fun D H4 e4 hD => ⟨(e12.trans (e3.trans e4)).trans (Ex.new hD), e4.trans (Ex.new hD), fresh_back (e12.trans (e3.trans e4)) hD, fresh_back e4 hD, [], upd_same, rfl, fun k v h => by cases h⟩) (fun D i H' h => sq_of (h.2.1 _ _ gL3)) (fun D i x H' hi inv => ?_) fun D H' inv => ?_
  · obtain ⟨exH, ex, hDH, hD, vs', gD, hvl, hv⟩ := inv
    rw [List.getElem?_map] at hi
    obtain ⟨t, ht, rfl⟩ := Option.map_eq_some_iff.mp hi
    have hil : i < most := by rw [← htl]; exact (List.getElem?_eq_some_iff.mp ht).1
    obtain ⟨nl, gt, gnl⟩ := (hts3 i t ht).ex ex
    have hkm : (i + 1) * (m + 6) ≤ 60 * 106 := Nat.mul_le_mul (by omega) (by omega)
    have hnew : ∀ H6 v, Ex H' H6 → PrD c p i D H6 v → ∃ acc, H6 D = some (.lst acc) ∧ acc.length < sizeLine ∧ (Ex H (upd H6 D (.lst (acc ++ [v]))) ∧ Ex H3 (upd H6 D (.lst (acc ++ [v]))) ∧ H D = none ∧ H3 D = none ∧ ∃ vs' : List V, upd H6 D (.lst (acc ++ [v])) D = some (.lst vs') ∧ vs'.length = i + 1 ∧ ∀ k v', vs'[k]? = some v' → PrD c p k D (upd H6 D (.lst (acc ++ [v]))) v') := fun H6 v e6 hpr => by
      have to : ∀ a o, a ≠ D → H6 a = some o → upd H6 D (.lst (vs' ++ [v])) a = some o := fun a o h g => by rw [upd_ne h]; exact g
      refine ⟨vs', e6 _ _ gD, sz_lt (by omega), Ex.mut (exH.trans e6) hDH, Ex.mut (ex.trans e6) hD, hDH, hD, vs' ++ [v], upd_same, by rw [List.length_append, hvl]; rfl, fun k v' hk => ?_⟩
      rcases Nat.lt_or_ge k vs'.length with hlt | hge
      · rw [List.getElem?_append_left hlt] at hk
        exact (hv k v' hk).to fun a o h g => to a o h (e6 _ _ g)
      · rw [List.getElem?_append_right hge] at hk
        have hj0 : k - vs'.length = 0 := by
          rcases Nat.eq_zero_or_pos (k - vs'.length) with z | z
          · exact z
          · rw [List.getElem?_eq_none (by show 1 ≤ _; omega)] at hk; cases hk
        rw [hj0] at hk
        obtain rfl : v = v' := Option.some.inj hk
        obtain rfl : k = i := by omega
        exact hpr.to to
    refine ⟨t, [.ref nl, .int (Dn c (i + 1))], rfl, st_of gt, rfl, .ref nl, [.int (Dn c (i + 1))], rfl, .int (Dn c (i + 1)), [], rfl, rfl, rfl, ?_⟩
    show tCall (sp_quant K) [] _ (tCons (tVar 4) (tCons (tVar 5) (tCons (tVar 2) tNil))) [some (.ref a), some (.int (most : Int)), some (.int (p : Int)), some (.ref L), some (.ref nl), some (.int (Dn c (i + 1)))] H' _
    refine ea_go (t := tCons (tVar 4) (tCons (tVar 5) (tCons (tVar 2) tNil))) (vs := [.ref nl, .int (Dn c (i + 1)), .int (p : Int)]) (ea_cons (ev_var rfl) (ea_cons (ev_var rfl) (ea_cons (ev_var rfl) ea_nil))) fun H5 e5 => ⟨nl, lf (i + 1) (Un c (i + 1)), Dn c (i + 1), p, rfl, sq_of (e5 _ _ gnl), by rw [lf_len]; omega, fun n hn => ?_, (hall (i + 1)).1, (dn_bt hcb (by omega)).mono (by omega), hp1, hp2, ?_⟩
    · obtain ⟨j, _, rfl⟩ := List.mem_map.mp hn
      exact (un_bt hcb (by omega)).mono (by omega)
    · show RetO _ _ (pq c p i) H5 _
      cases hpq : pq c p i with
      | none =>
        intro H6 e6
        exact hnew H6 .non (e5.trans e6) (by unfold PrD; rw [hpq])
      | some s =>
        intro t2 a2 H6 ht2 ha2 e6 g1 g2
        have gD5 := e5 _ _ gD
        refine hnew H6 (.ref t2) (e5.trans e6) ?_
        unfold PrD
        rw [hpq]
        exact ⟨t2, a2, rfl, (by rintro rfl; rw [gD5] at ht2; cases ht2), (by rintro rfl; rw [gD5] at ha2; cases ha2), g1, g2⟩
  · obtain ⟨exH, ex, hDH, hD, vs', gD, hvl, hv⟩ := inv
    exact k D vs' H' hDH exH gD (by rw [hvl, List.length_map, htl]) fun i v hi => by rw [if_neg hc0]; exact (hv i v hi).at

/-! ### sizes of weighted rows -/
theorem int_bt {x : Int} {N : Nat} (h : -(2 ^ N) < x ∧ x < 2 ^ N) : DT.Bt N x := by
  have e : (2 : Int) ^ N = ((2 ^ N : Nat) : Int) := (Int.natCast_pow 2 N).symm
  rw [e] at h
  unfold DT.Bt
  omega
theorem bt_int {x : Int} {N : Nat} (h : DT.Bt N x) : -(2 ^ N) < x ∧ x < 2 ^ N := by
  have e : (2 : Int) ^ N = ((2 ^ N : Nat) : Int) := (Int.natCast_pow 2 N).symm
  rw [e]
  unfold DT.Bt at h
  omega
theorem wgt_bt {ns : List Int} {b s : Nat} (h : ∀ x ∈ ns, DT.Bt b x) (hl : ns.length ≤ 2 ^ s) : ∀ y ∈ wgt ns, DT.Bt (b + (s + 1) + (s + 1)) y := fun y hy => by
  obtain ⟨i, hi⟩ := List.mem_iff_getElem?.mp hy
  have hil := (List.getElem?_eq_some_iff.mp hi).1
  rw [wgt_len] at hil
  have hn : ns[i]? = some ns[i] := List.getElem?_eq_getElem hil
  rw [wgt_at hn] at hi
  have hi := Option.some.inj hi
  rw [← hi]
  have h1 : DT.Bt (s + 1) ((i : Int) + 1) := by
    unfold DT.Bt
    rw [Nat.pow_succ]
    omega
  have h2 : DT.Bt (s + 1) ((ns.length : Int) - i) := by
    unfold DT.Bt
    rw [Nat.pow_succ]
    omega
  exact ((h _ (List.getElem_mem hil)).mul h1).mul h2
theorem bda_of {ns : List Int} (h : ∀ y ∈ ns, DT.Bt 60 y) : BdA ns := fun y hy => bt_int (h y hy)

-- K62B
/-! ### the law -/
open DT (Bt PD tp Sol)
theorem q_forC2 {σ : L2.St} {H : Hp} {ta : TA} {args dvs : List V} {sp : Sp} {E : XK} {g : TG} {tu tz : TS} {D : Ends} (h : EvA ta σ H args) (k : ∀ H1, Ex H H1 → sp (args ++ dvs) H1 (fun x H2 => tSeq (tFor (iList K (tC x)) g tu) tz D σ H2) E) : tSeq (tFor (iList K (tCall sp dvs E ta)) g tu) tz D σ H := h H (Ex.refl H) _ fun H1 e => k H1 e
def sp_lsamp : Sp := fun vs H Q _ => ∃ (c : Int) (n : Nat) (sh : Int), vs = [.int c, .int (n : Int), .int sh] ∧ n ≤ 100 ∧ ∀ r (xs : List Int) H', H r = none → Ex H H' → H' r = some (.lst (xs.map V.int)) → xs.length = n → (∀ x ∈ xs, -(2 ^ 8) < x ∧ x < 2 ^ 8) → Q (.ref r) H'
theorem ok_law_samples (T : TX K mg) : FnOk P w K mg base CX0 2 T.a_law_samples T.d_law_samples ["cell", "count", "shape"] sp_lsamp := by
  refine T.F_law_samples.ok sc_law_samples (fun vs H Q E h => by obtain ⟨c, n, sh, rfl, _⟩ := h; rfl) (fun cdv A outer s0 H vs Q E hr h => ?_)
  obtain ⟨c, n, sh, rfl, hn, k⟩ := h
  refine ⟨_, (pss_cons (ps_if (pt_cmpR op_eq (pv 2) pe_int (nomark _)) (pss_one (ps_ret (pe_op op_rep (pe_lst (pa_cons pe_int pa_nil)) (pv 1)))) pss_nil)
      (pss_cons (ps_if (pt_cmpR op_eq (pv 2) pe_int (nomark _)) (pss_one (ps_ret (pe_lc (own := [("k", 6)]) (g := gName 6) (tt := tYes) rfl sc_law_samples.nd (pi_range1 (by rfl) T.m_range (pa_cons (pv 1) pa_nil)) (blkOk_by (N := ["cell", "count", "shape", "samples", "level", "step", "k", "x"]) (sc := defScope s_law_samples) (by decide +kernel)) (fun _ _ _ _ _ => pg_name (i := 6) sc_law_samples.nd rfl (Or.inl rfl)) (fun _ _ _ _ _ => pts_nil) (fun _ _ _ _ _ => (pe_op op_sub pe_int (pe_op op_mul pe_int (pe_op op_mod (pv 6) pe_int))))))) pss_nil)
      (pss_cons (ps_if (pt_cmpR op_eq (pv 2) pe_int (nomark _)) (pss_one (ps_ret (pe_lc (own := [("x", 7)]) (g := gName 7) (tt := tYes) rfl sc_law_samples.nd (pi_list (pe_call (ok_law_row T) (hr.mono (by decide)) (by rfl) T.g_law_row T.F_law_row.kp T.b_law_row .nil pass0 (pa_cons (pv 0) (pa_cons (pv 1) (pa_cons pe_int pa_nil))))) (blkOk_by (N := ["cell", "count", "shape", "samples", "level", "step", "k", "x"]) (sc := defScope s_law_samples) (by decide +kernel)) (fun _ _ _ _ _ => pg_name (i := 7) sc_law_samples.nd rfl (Or.inl rfl)) (fun _ _ _ _ _ => pts_nil) (fun _ _ _ _ _ => (pe_op op_sub (pv 7) pe_int))))) pss_nil)
      (pss_cons (ps_set (i := 3) sc_law_samples.nd rfl (Or.inl rfl) (pe_lst pa_nil))
      (pss_cons (ps_set (i := 4) sc_law_samples.nd rfl (Or.inl rfl) pe_int)
      (pss_cons (ps_for PassesOwn.never rfl (pi_list (pe_call (ok_law_row T) (hr.mono (by decide)) (by rfl) T.g_law_row T.F_law_row.kp T.b_law_row .nil pass0 (pa_cons (pv 0) (pa_cons (pv 1) (pa_cons pe_int pa_nil))))) (pg_name (i := 5) sc_law_samples.nd rfl (Or.inl rfl)) (pss_cons (ps_set (i := 4) sc_law_samples.nd rfl (Or.inl rfl) (pe_op op_sub (pe_op op_add (pv 4) (pv 5)) pe_int))
        (pss_one (ps_expr (pe_bm PySem.F.plainAttrs_list PySem.F.slot_list_append PySem.F.type_list_append mt_append (pv 3) (pa_cons (pv 4) pa_nil))))))
      (pss_one (ps_ret (pv 3))))))))), ?_⟩
  have kq : ∀ {σ : L2.St} {G : Hp} (m : Int), σ[2]? = some (some (.int sh)) → EvT (tTest (tOp rEq (tVar 2) (tC (.int m)))) σ G (decide (V.int sh = V.int m)) := fun m h => et_test (ev_eq (ev_var h) ev_c rfl)
  refine q_when (kq 2 rfl) (fun _ H1 e1 => ?_) (fun _ H1 e1 => ?_)
  · refine s_retL (xs := (List.replicate n (0 : Int)).map V.int) (EvL.is (el_rep (xs := [V.int 0]) (k := (n : Int)) (EvL.r (el_lst (ea_cons ev_c ea_nil) (by decide))) (ev_var rfl) (by omega) (by rw [Int.toNat_natCast]; show 1 * n ≤ _; omega)) (by rw [Int.toNat_natCast, List.flatten_replicate_singleton, List.map_replicate])) fun r H3 hr e3 g3 => k r _ H3 (fresh_back e1 hr) (e1.trans e3) g3 (List.length_replicate ..) fun x hx => ?_
    rw [List.eq_of_mem_replicate hx]
    decide
  refine q_when (kq 3 rfl) (fun _ H2 e2 => ?_) (fun _ H2 e2 => ?_)
  · refine s_retL (xs := ((lf n fun k => 1 - 2 * ((k : Int) % 2))).map V.int) (el_lcR (n := (n : Int)) _ (ea_cons (ev_var rfl) ea_nil) (by omega) (by rw [List.length_map, lf_len, Int.toNat_natCast]) (by rw [List.length_map, lf_len]; omega) (fun _ => rfl) fun i G eG hi => ?_) fun r H3 hr e3 g3 => k r _ H3 (fresh_back (e1.trans e2) hr) (e1.trans (e2.trans e3)) g3 (lf_len _ _) fun x hx => ?_
    · rw [List.length_map, lf_len] at hi
      exact ⟨_, at_int (lf_at hi), ev_I0 (g := fun i j => .int (i - j)) ev_c (ev_I ev_c (ev_I (ev_var rfl) ev_c (by decide)) (.inl (by decide)))⟩
    · obtain ⟨i, _, rfl⟩ := List.mem_map.mp hx
      omega
  have e12 := e1.trans e2
  refine q_when (kq 0 rfl) (fun _ H3 e3 => ?_) (fun _ H3 e3 => ?_)
  · refine s_retLC (args := [.int c, .int (n : Int), .int 61]) (ea_cons (ev_var rfl) (ea_cons (ev_var rfl) (ea_cons ev_c ea_nil))) fun H4 e4 => ⟨c, n, 61, rfl, by omega, by decide, by decide, fun p ns H5 hp e5 g5 hl hx => s_retL (xs := (ns.map fun x => x - 30).map V.int) (el_lcS (K := K) (xs := ns.map V.int) _ (Ev.s ev_c (sq_of g5)) (by rw [List.length_map, List.length_map, List.length_map]) (by rw [List.length_map, List.length_map]; omega) (fun _ => rfl) fun i z G eG hz => ?_) fun r H6 hr e6 g6 => k r _ H6 (fresh_back (e12.trans (e3.trans (e4.trans e5))) hr) (e12.trans (e3.trans (e4.trans (e5.trans e6)))) g6 (by rw [List.length_map]; exact hl) fun y hy => ?_⟩
    · obtain ⟨m, hm, hi, rfl⟩ := int_at hz
      exact ⟨.int (m - 30), at_int (by rw [List.getElem?_map, hm]; rfl), ev_I0 (g := fun i j => .int (i - j)) (ev_var rfl) ev_c⟩
    · obtain ⟨x, hxm, rfl⟩ := List.mem_map.mp hy
      have := hx x hxm
      omega
  have e13 := e12.trans e3
  refine q_asgL (xs := []) (el_lst ea_nil (by decide)) fun L H6 hL e6 g6 => ?_
  refine q_asg (v := .int 0) ev_c fun H7 e7 => ?_
  refine q_forC2 (ea_cons (ev_var rfl) (ea_cons (ev_var rfl) (ea_cons ev_c ea_nil))) fun H9 e9 => ⟨c, n, 5, rfl, by omega, by decide, by decide, fun p ns H10 hp e10 g10 hl hx => ?_⟩
  have e610 := e7.trans (e9.trans e10)
  have hLp : L ≠ p := by rintro rfl; rw [(e7.trans e9) _ _ g6] at hp; cases hp
  refine q_forLn (K := K) (a := p) ev_c (sq_of g10) (fun i σ' H' => ∃ (xs : List Int) (lv : Int) (z5 z6 z7 : Option V), σ' = [some (.int c), some (.int (n : Int)), some (.int sh), some (.ref L), some (.int lv), z5, z6, z7] ∧ Ex H3 H' ∧ H' L = some (.lst (xs.map V.int)) ∧ H' p = some (.lst (ns.map V.int)) ∧ xs.length = i ∧ (-(2 * (i : Int)) ≤ lv ∧ lv ≤ 2 * (i : Int)) ∧ ∀ x ∈ xs, -(2 * (i : Int)) ≤ x ∧ x ≤ 2 * (i : Int)) (fun G eG => ⟨[], 0, none, none, none, rfl, e6.trans (e610.trans eG), (e610.trans eG) _ _ g6, eG _ _ g10, rfl, by decide, fun x hx => by cases hx⟩) (fun i σ' H' _ h => by obtain ⟨_, _, _, _, _, _, _, _, g, _⟩ := h; exact sq_of g) ?_ ?_
  · rintro i x σ' H' hx' ⟨xs, lv, z5, z6, z7, rfl, ex, gx, gp, hxl, hlv, hxb⟩
    obtain ⟨v, hv, hi, rfl⟩ := int_at hx'
    have hvb := hx v (List.mem_of_getElem? hv)
    refine q_asg (v := .int (lv + v - 2)) (ev_I0 (g := fun i j => .int (i - j)) (ev_I0 (g := fun i j => .int (i + j)) (ev_var rfl) (ev_var rfl)) ev_c) fun G1 f1 => ?_
    refine s_app (v := .int (lv + v - 2)) (f1 _ _ gx) (ev_var rfl) (ev_var rfl) (by rw [List.length_map]; omega) fun G3 f3 => ?_
    have f13 := f1.trans f3
    refine ⟨xs ++ [lv + v - 2], lv + v - 2, _, _, _, rfl, Ex.mut (ex.trans f13) hL, by rw [upd_same, List.map_append]; rfl, by rw [upd_ne hLp.symm]; exact f13 _ _ gp, by rw [List.length_append, hxl]; rfl, by omega, fun y hy => ?_⟩
    rcases List.mem_append.mp hy with h | h
    · have := hxb y h
      omega
    · rw [List.mem_singleton.mp h]
      omega
  · rintro σ' H' ⟨xs, lv, z5, z6, z7, rfl, ex, gx, gp, hxl, hlv, hxb⟩
    rw [List.length_map, hl] at hxl hxb
    exact s_ret (ev_var rfl) fun G eG => k L xs G (fresh_back e13 hL) (e13.trans (ex.trans eG)) (eG _ _ gx) hxl fun x hx => by have := hxb x hx; omega
def PO (c : Nat → Int) (k : Nat) (o : Option Nat) (H : Hp) (v : V) : Prop := match o with
  | none => v = .non
  | some s => ∃ t a, v = .ref t ∧ H t = some (.tup [.ref a, .int (s : Int)]) ∧ H a = some (.lst ((pRow c k s).map V.int))
theorem PO.ex {c : Nat → Int} {k : Nat} {o : Option Nat} {H H' : Hp} {v : V} (h : PO c k o H v) (e : Ex H H') : PO c k o H' v := by
  cases o with
  | none => exact h
  | some s =>
    obtain ⟨t, a, h1, h2, h3⟩ := h
    exact ⟨t, a, h1, e _ _ h2, e _ _ h3⟩
def sp_law (K : PySem.W.Frag) : Sp := fun vs H Q _ => ∃ (a : Addr) (ns : List Int), vs = [.ref a] ∧ SqL K H a (ns.map V.int) ∧ ns.length ≤ 63 ∧ ∀ H', Q (.bl true) H'
theorem ok_law (T : TX K mg) : FnOk P w K mg base CX0 6 T.a_law T.d_law ["script"] (sp_law K) := by
  refine T.F_law.ok sc_law (fun vs H Q E h => by obtain ⟨a, ns, rfl, _⟩ := h; rfl) (fun cdv A outer s H vs Q E hr h => ?_)
  obtain ⟨a, ns, rfl, hS, hlen, k⟩ := h
  refine ⟨_, (pss_cons (ps_set (i := 1) sc_law.nd rfl (Or.inl rfl) (pe_call (ok_law_cell T) (hr.mono (by decide)) (by rfl) T.g_law_cell T.F_law_cell.kp T.b_law_cell .nil pass0 (pa_cons (pv 0) (pa_cons pe_int pa_nil))))
      (pss_cons (ps_set (i := 2) sc_law.nd rfl (Or.inl rfl) (pe_call (ok_law_samples T) (hr.mono (by decide)) (by rfl) T.g_law_samples T.F_law_samples.kp T.b_law_samples .nil pass0 (pa_cons (pe_call (ok_law_cell T) (hr.mono (by decide)) (by rfl) T.g_law_cell T.F_law_cell.kp T.b_law_cell .nil pass0 (pa_cons (pv 0) (pa_cons pe_int pa_nil))) (pa_cons (pe_op op_add pe_int (pe_op op_mod (pe_callTy call_int1 (by rfl) T.m_int PyProof.Rows.boot_int (pa_cons (pv 1) pa_nil)) pe_int)) (pa_cons (pe_op op_mod (pe_op op_fdiv (pe_callTy call_int1 (by rfl) T.m_int PyProof.Rows.boot_int (pa_cons (pv 1) pa_nil)) pe_int) pe_int) pa_nil)))))
      (pss_cons (ps_set (i := 3) sc_law.nd rfl (Or.inl rfl) (pe_op op_mod (pe_callTy call_int1 (by rfl) T.m_int PyProof.Rows.boot_int (pa_cons (pe_call (ok_law_cell T) (hr.mono (by decide)) (by rfl) T.g_law_cell T.F_law_cell.kp T.b_law_cell .nil pass0 (pa_cons (pv 0) (pa_cons pe_int pa_nil))) pa_nil)) pe_int))
      (pss_cons (ps_if (pt_cmpR op_eq (pe_op op_mod (pe_op op_fdiv (pe_callTy call_int1 (by rfl) T.m_int PyProof.Rows.boot_int (pa_cons (pe_call (ok_law_cell T) (hr.mono (by decide)) (by rfl) T.g_law_cell T.F_law_cell.kp T.b_law_cell .nil pass0 (pa_cons (pv 0) (pa_cons pe_int pa_nil))) pa_nil)) pe_int) pe_int) pe_int (nomark _)) (pss_one (ps_set (i := 3) sc_law.nd rfl (Or.inl rfl) (pe_op op_add (pv 3) pe_int))) pss_nil)
      (pss_cons (ps_set (i := 4) sc_law.nd rfl (Or.inl rfl) (pe_op op_add pe_int (pe_op op_mod (pe_callTy call_int1 (by rfl) T.m_int PyProof.Rows.boot_int (pa_cons (pe_call (ok_law_cell T) (hr.mono (by decide)) (by rfl) T.g_law_cell T.F_law_cell.kp T.b_law_cell .nil pass0 (pa_cons (pv 0) (pa_cons pe_int pa_nil))) pa_nil)) pe_int)))
      (pss_cons (ps_set (i := 5) sc_law.nd rfl (Or.inr rfl) (pe_lst pa_nil))
      (pss_cons (ps_for PassesOwn.never rfl (pi_range1 (by rfl) T.m_range (pa_cons (pe_callB (r := rLenS K) call_len_seq (by rfl) T.m_len PySem.boot_len (pa_cons (pv 2) pa_nil)) pa_nil)) (pg_name (i := 6) sc_law.nd rfl (Or.inl rfl)) (pss_one (ps_expr (pe_bm PySem.F.plainAttrs_list PySem.F.slot_list_append PySem.F.type_list_append mt_append (pv 5) (pa_cons (pe_op op_mul (pe_op op_mul (pe_ix (r := rIxL K) ix_list (pv 2) (pv 6) (fun _ _ => rfl)) (pe_op op_add (pv 6) pe_int)) (pe_op op_sub (pe_callB (r := rLenS K) call_len_seq (by rfl) T.m_len PySem.boot_len (pa_cons (pv 2) pa_nil)) (pv 6))) pa_nil)))))
      (pss_cons (ps_set (i := 7) sc_law.nd rfl (Or.inl rfl) (pe_lst pa_nil))
      (pss_cons (ps_for PassesOwn.never rfl (pi_range1 (by rfl) T.m_range (pa_cons (pe_op op_add (pv 3) pe_int) pa_nil)) (pg_name (i := 8) sc_law.nd rfl (Or.inr rfl)) (pss_one (ps_expr (pe_bm PySem.F.plainAttrs_list PySem.F.slot_list_append PySem.F.type_list_append mt_append (pv 7) (pa_cons (pe_callB (r := rSum K) (cr_sum rfl) (by rfl) T.m_sum PyProof.Rows.boot_sum (pa_cons (pe_lc (own := [("i", 15)]) (g := gName 15) (tt := tYes) rfl sc_law.nd (pi_range2 (by rfl) T.m_range (pa_cons (pv 8) (pa_cons (pe_callB (r := rLenS K) call_len_seq (by rfl) T.m_len PySem.boot_len (pa_cons (pv 5) pa_nil)) pa_nil))) (blkOk_by (N := ["script", "first", "samples", "most", "digits", "values", "k", "sums", "lag", "given", "actual", "degree", "expected", "solved", "entry", "i"]) (sc := defScope s_law) (by decide +kernel)) (fun _ _ _ _ _ => pg_name (i := 15) sc_law.nd rfl (Or.inl rfl)) (fun _ _ _ _ _ => pts_nil) (fun _ _ _ _ _ => (pe_op op_mul (pe_ix (r := rIxL K) ix_list (pv 5) (pv 15) (fun _ _ => rfl)) (pe_ix (r := rIxL K) ix_list (pv 5) (pe_op op_sub (pv 15) (pv 8)) (fun _ _ => rfl))))) pa_nil)) pa_nil)))))
      (pss_cons (ps_set (i := 9) sc_law.nd rfl (Or.inl rfl) (pe_callTy (r := rListS K) call_list_of (by rfl) T.m_list PyProof.Rows.boot_list (pa_cons (pv 2) pa_nil)))
      (pss_cons (ps_set (i := 10) sc_law.nd rfl (Or.inl rfl) (pe_call (ok_predictors T) (hr.mono (by decide)) (by rfl) T.g_predictors T.F_predictors.kp T.b_predictors .nil pass0 (pa_cons (pv 9) (pa_cons (pv 3) (pa_cons (pv 4) pa_nil)))))
      (pss_cons (ps_if (PW.pt (pw_or (pt_not (pt_val (pe_callB (r := rIsi K) call_isi (by rfl) T.m_isinstance PyProof.Rows.boot_isinstance (pa_cons (pv 10) (pa_cons (pe_bltn (v := V.ty "list") (by rfl) T.m_list PyProof.Rows.boot_list rfl) pa_nil))))) (pw_or (pt_cmpR op_ne (pe_callB (r := rLenS K) call_len_seq (by rfl) T.m_len PySem.boot_len (pa_cons (pv 10) pa_nil)) (pv 3) (nomark _)) (pw_or1 (pt_cmpR (op_neD (hu64 hr)) (pv 9) (pv 2) (nomark _)))))) (pss_one (ps_ret pe_bl)) pss_nil)
      (pss_cons (ps_for PassesOwn.never rfl (pi_range2 (by rfl) T.m_range (pa_cons pe_int (pa_cons (pe_op op_add (pv 3) pe_int) pa_nil))) (pg_name (i := 11) sc_law.nd rfl (Or.inl rfl)) (pss_cons (ps_set (i := 12) sc_law.nd rfl (Or.inl rfl) pe_non)
        (pss_cut (ps_if (pt_cmpR op_ne (pe_ix (r := rIxL K) ix_list (pv 7) pe_int (fun _ _ => rfl)) pe_int (nomark _)) (pss_cons (ps_set (i := 13) sc_law.nd rfl (Or.inl rfl) (pe_call (ok_law_solution T) (hr.mono (by decide)) (by rfl) T.g_law_solution T.F_law_solution.kp T.b_law_solution .nil pass0 (pa_cons (pv 7) (pa_cons (pv 11) pa_nil))))
          (pss_one (ps_set (i := 12) sc_law.nd rfl (Or.inl rfl) (pe_call (ok_law_quantized T) (hr.mono (by decide)) (by rfl) T.g_law_quantized T.F_law_quantized.kp T.b_law_quantized .nil pass0 (pa_cons (pe_ix (r := rIxT K) ix_tup (pv 13) pe_int (fun _ _ => rfl)) (pa_cons (pe_ix (r := rIxT K) ix_tup (pv 13) pe_int (fun _ _ => rfl)) (pa_cons (pv 4) pa_nil))))))) pss_nil)
        (pss_cons (ps_set (i := 14) sc_law.nd rfl (Or.inl rfl) (pe_ix (r := rIxL K) ix_list (pv 10) (pe_op op_sub (pv 11) pe_int) (fun _ _ => rfl)))
        (pss_one (ps_if (pt_cmpR op_isN1 (pv 12) pe_non (nomark _)) (pss_one (ps_if (pt_cmpR op_notN1 (pv 14) pe_non (nomark _)) (pss_one (ps_ret pe_bl)) pss_nil)) (pss_one (ps_if (PW.pt (pw_or (pt_not (pt_val (pe_callB (r := rIsi K) call_isi (by rfl) T.m_isinstance PyProof.Rows.boot_isinstance (pa_cons (pv 14) (pa_cons (pe_bltn (v := V.ty "tuple") (by rfl) T.m_tuple PyProof.Rows.boot_tuple rfl) pa_nil))))) (pw_or1 (pt_cmpR (op_neD (hu64 hr)) (pv 14) (pv 12) (nomark _))))) (pss_one (ps_ret pe_bl)) (pss_one (ps_if (PW.pt (pw_or (pt_not (pt_val (pe_call (ok_law_integers T) (hr.mono (by decide)) (by rfl) T.g_law_integers T.F_law_integers.kp T.b_law_integers .nil pass0 (pa_cons (pe_ix (r := rIxT K) ix_tup (pv 14) pe_int (fun _ _ => rfl)) pa_nil)))) (pw_or1 (pt_not (pt_val (pe_call (ok_law_integer T) (hr.mono (by decide)) (by rfl) T.g_law_integer T.F_law_integer.kp T.b_law_integer .nil pass0 (pa_cons (pe_ix (r := rIxT K) ix_tup (pv 14) pe_int (fun _ _ => rfl)) pa_nil))))))) (pss_one (ps_ret pe_bl)) pss_nil))))))))))
      (pss_one (ps_ret pe_bl))))))))))))))), ?_⟩
  have cell : ∀ (H' : Hp) (σ : L2.St) (E : XK) (i : Int), σ[0]? = some (some (.ref a)) → Ex H H' → 0 ≤ i → Ev (tCall (sp_cell K) [] E (tCons (tVar 0) (tCons (tC (.int i)) tNil))) σ H' (.int (cellI ns i)) := fun H' σ E i hσ e hi => ev_cell (ev_var hσ) (ex_l e hS) ev_c hi
  have md : ∀ {σ : L2.St} {G : Hp} {t : TE} {x m : Int}, 0 < m → Ev t σ G (.int x) → Ev (tOp (rI (fun _ j => 0 < j) fun i j => .int (i % j)) t (tC (.int m))) σ G (.int (x % m)) := fun hm h => ev_I h ev_c hm
  have dv : ∀ {σ : L2.St} {G : Hp} {t : TE} {x m : Int}, 0 < m ∧ m < 1073741824 → Ev t σ G (.int x) → Ev (tOp (rI CDiv fun i j => .int (i / j)) t (tC (.int m))) σ G (.int (x / m)) := fun hm h => ev_I h ev_c hm
  refine q_asg (cell H _ _ 0 rfl (Ex.refl _) (by decide)) fun H1 e1 => ?_
  generalize cellI ns 0 = c0
  obtain ⟨cnt, hcnt⟩ : ∃ cnt : Nat, 1 + c0 % 10 = (cnt : Int) := ⟨(1 + c0 % 10).toNat, by omega⟩
  refine q_asgC (vs := [.int (cellI ns 1), .int (cnt : Int), .int (c0 / 10 % 4)]) (ea_cons (cell H1 _ _ 1 rfl e1 (by decide)) (ea_cons (Ev.is (ev_I0 (g := fun i j => .int (i + j)) ev_c (md (by decide) (ev_int1 (ev_var rfl)))) (congrArg V.int hcnt)) (ea_cons (md (by decide) (dv (by decide) (ev_int1 (ev_var rfl)))) ea_nil))) fun H2 e2 => ⟨_, cnt, _, rfl, by omega, fun p ms H5 hp e5' g5 hml hmb => ?_⟩
  have e15 := e1.trans (e2.trans e5')
  obtain ⟨m0, hm0⟩ : ∃ m0 : Int, cellI ns 2 % 6 = m0 := ⟨_, rfl⟩
  refine q_asg (v := .int m0) (Ev.is (md (by decide) (ev_int1 (cell H5 _ _ 2 rfl e15 (by decide)))) (congrArg V.int hm0)) fun H6 e6 => ?_
  have e16 := e15.trans e6
  obtain ⟨m, hm⟩ : ∃ m : Nat, (if cellI ns 2 / 6 % 12 = 1 then m0 + 7 else m0) = (m : Int) := ⟨(if cellI ns 2 / 6 % 12 = 1 then m0 + 7 else m0).toNat, by split <;> omega⟩
  have hm13 : m ≤ 12 := by split at hm <;> omega
  refine q_ifAsg (b := decide (V.int (cellI ns 2 / 6 % 12) = V.int 1)) (v := .int (m : Int)) (et_test (ev_eq (md (by decide) (dv (by decide) (ev_int1 (cell H6 _ _ 2 rfl e16 (by decide))))) ev_c rfl)) (fun hb => Ev.is (ev_I0 (g := fun i j => .int (i + j)) (ev_var rfl) ev_c) (congrArg V.int (by rw [← hm, if_pos (V.int.inj (of_decide_eq_true hb))]))) (fun hb => by rw [← hm, if_neg (fun z => of_decide_eq_false hb (congrArg V.int z))]; rfl) fun H7 e7 => ?_
  obtain ⟨dg, hdg⟩ : ∃ dg : Nat, 5 + cellI ns 3 % 11 = (dg : Int) := ⟨(5 + cellI ns 3 % 11).toNat, by omega⟩
  refine q_asg (v := .int (dg : Int)) (Ev.is (ev_I0 (g := fun i j => .int (i + j)) ev_c (md (by decide) (ev_int1 (cell H7 _ _ 3 rfl (e16.trans e7) (by decide))))) (congrArg V.int hdg)) fun H8 e8 => ?_
  have e58 := e6.trans (e7.trans e8)
  have g8 := e58 _ _ g5
  have hmb' : ∀ x ∈ ms, Bt 8 x := fun x hx => int_bt (hmb x hx)
  have hwb : ∀ y ∈ wgt ms, Bt 18 y := wgt_bt (s := 4) hmb' (by omega)
  have hbd : BdA (wgt ms) := bda_of fun y hy => (hwb y hy).mono (by decide)
  have hwl := wgt_len ms
  have hlm : ∀ {σ : L2.St} {G : Hp}, Ex H8 G → σ[2]? = some (some (.ref p)) → Ev (tCB (rLenS K) (tCons (tVar 2) tNil)) σ G (.int (ms.length : Int)) := fun e h => Ev.is (ev_lenS (K := K) (Ev.s (ev_var h) (sq_of (e _ _ g8)))) (by rw [List.length_map])
  obtain ⟨c, hc⟩ : ∃ c, lagS (wgt ms) = c := ⟨_, rfl⟩
  have hcb : ∀ j, Bt 40 (c j) := fun j => by rw [← hc]; exact lag_bt (s := 4) hwb (by rw [hwl]; omega) j
  have hpd : c 0 ≠ 0 → PD c := fun h => by rw [← hc] at h ⊢; exact lag_pd h
  refine q_asgL (xs := []) (el_lst ea_nil (by decide)) fun pv H9 hpv e9 g9 => ?_
  refine q_forR1 (n := (ms.length : Int)) (ea_cons (hlm e9 rfl) ea_nil) (by omega) (fun i σ' H' => ∃ z6 : Option V, σ' = [some (.ref a), some (.int c0), some (.ref p), some (.int (m : Int)), some (.int (dg : Int)), some (.ref pv), z6, none, none, none, none, none, none, none, none, none] ∧ Ex H8 H' ∧ H' pv = some (.lst (((wgt ms).take i).map V.int))) (fun G eG => ⟨none, rfl, e9.trans eG, eG _ _ g9⟩) ?_ ?_
  · rintro i σ' G hi' ⟨z6, rfl, eG, gG⟩
    have hi : i < ms.length := by omega
    have hx : ms[i]? = some ms[i] := List.getElem?_eq_getElem hi
    refine s_app (v := .int (ms[i] * ((i : Int) + 1) * ((ms.length : Int) - i))) gG (ev_var rfl) (ev_I (ev_I (ev_at (n := (i : Int)) (Ev.s (ev_var rfl) (sq_of (eG _ _ g8))) (ev_var rfl) (at_of (j := i) rfl (at_int hx))) (ev_I0 (g := fun i j => .int (i + j)) (ev_var rfl) ev_c) (.inr ⟨by omega, by omega⟩)) (ev_I0 (g := fun i j => .int (i - j)) (hlm eG rfl) (ev_var rfl)) (.inr ⟨by omega, by omega⟩)) (by rw [List.length_map, List.length_take]; omega) fun G1 f1 => ⟨_, rfl, Ex.mut (eG.trans f1) hpv, by rw [upd_same, takeG (wgt_at hx), List.map_append]; rfl⟩
  rintro σ' H10 ⟨z6, rfl, e10, g10⟩
  rw [Int.toNat_natCast, ← hwl, List.take_length] at g10
  have hwi : ∀ t, t < (wgt ms).length → (wgt ms)[t]? = some ((wgt ms).getD t 0) := fun t ht => gl_get ht
  refine q_asgL (xs := []) (el_lst ea_nil (by decide)) fun ps H11 hps e11 g11 => ?_
  have hpsf : H10 ps = none := hps
  refine q_forR1 (n := ((m + 1 : Nat) : Int)) (ea_cons (Ev.is (ev_I0 (g := fun i j => .int (i + j)) (ev_var rfl) ev_c) (congrArg V.int (by omega))) ea_nil) (by omega) (fun i σ' H' => ∃ z8 z15 : Option V, σ' = [some (.ref a), some (.int c0), some (.ref p), some (.int (m : Int)), some (.int (dg : Int)), some (.ref pv), z6, some (.ref ps), z8, none, none, none, none, none, none, z15] ∧ Ex H10 H' ∧ H' ps = some (.lst ((lf i c).map V.int))) (fun G eG => ⟨none, none, rfl, e11.trans eG, eG _ _ g11⟩) ?_ ?_
  · rintro i σ' G hi' ⟨z8, z15, rfl, eG, gG⟩
    have hSv : ∀ {σ : L2.St} {G' : Hp}, Ex G G' → σ[5]? = some (some (.ref pv)) → EvS K (tVar 5) σ G' ((wgt ms).map V.int) := fun e h => Ev.s (ev_var h) (sq_of ((eG.trans e) _ _ g10))
    refine s_app (v := .int (c i)) gG (ev_var rfl) (Ev.is (ev_sum (K := K) (ns := (List.range ((wgt ms).length - i)).map fun t => (wgt ms).getD (t + i) 0 * (wgt ms).getD t 0) (EvR.s (EvL.r (el_lcR2 (lo := (i : Int)) (n := ((wgt ms).length : Int)) _ (ea_cons (ev_var rfl) (ea_cons (Ev.is (ev_lenS (K := K) (hSv (Ex.refl _) rfl)) (by rw [List.length_map])) ea_nil)) (by omega) (by rw [List.length_map, List.length_map, List.length_range]; omega) (by rw [List.length_map, List.length_map, List.length_range]; omega) (fun _ => rfl) fun t G1 f1 ht => ?_)))) (congrArg V.int (by rw [← hc, lagS_N]; rfl))) (by rw [List.length_map, lf_len]; omega) fun G1 f1 => ⟨_, _, rfl, Ex.mut (eG.trans f1) hpsf, by rw [upd_same, lf_succ, List.map_append]; rfl⟩
    rw [List.length_map, List.length_map, List.length_range] at ht
    have h1 := hwi (t + i) (by omega)
    have h2 := hwi t (by omega)
    have hb1 := hbd _ (List.mem_of_getElem? h1)
    exact ⟨_, at_int (by rw [List.getElem?_map, List.getElem?_range ht]; rfl), ev_I (ev_at (n := ((t + i : Nat) : Int)) (hSv f1 rfl) (Ev.is (ev_var rfl) (congrArg V.int (by omega))) (at_of (j := t + i) rfl (at_int h1))) (ev_at (n := (t : Int)) (hSv f1 rfl) (Ev.is (ev_I0 (g := fun i j => .int (i - j)) (ev_var rfl) (ev_var rfl)) (congrArg V.int (by omega))) (at_of (j := t) rfl (at_int h2))) (.inl ⟨by omega, by omega⟩)⟩
  rintro σ' H12 ⟨z8, z15, rfl, e12, g12⟩
  rw [Int.toNat_natCast] at g12
  have g12p := (e10.trans e12) _ _ g8
  refine q_asgL (xs := ms.map V.int) (el_of (K := K) (Ev.s (ev_var rfl) (sq_of g12p))) fun pg H13 hpg e13 g13 => ?_
  show tSeq _ _ _ [some (.ref a), some (.int c0), some (.ref p), some (.int (m : Int)), some (.int (dg : Int)), some (.ref pv), z6, some (.ref ps), z8, some (.ref pg), none, none, none, none, none, z15] _
  refine q_asgC (vs := [.ref pg, .int (m : Int), .int (dg : Int)]) (ea_cons (ev_var rfl) (ea_cons (ev_var rfl) (ea_cons (ev_var rfl) ea_nil))) fun H14 e14 => ⟨pg, ms, m, dg, 40, rfl, sq_of (e14 _ _ g13), by omega, by omega, by omega, by omega, by decide, hbd, by rw [hc]; exact hcb, ?_⟩
  rw [hc]
  intro L vs H15 hL e15' gL hvl hv
  have e1315 := e14.trans e15'
  have gg := e1315 _ _ g13
  have gp := (e13.trans e1315) _ _ g12p
  have gs := (e13.trans e1315) _ _ g12
  refine q_when (b := false) (et_is (et_or (a := false) (b := false) (et_is (et_not (et_B (ev_isiL (K := K) (ev_var rfl) gL))) rfl) fun _ => et_or (a := false) (b := false) (et_is (et_test (ev_ne (Ev.is (ev_lenS (K := K) (Ev.s (ev_var rfl) (sq_of gL))) (by rw [hvl])) (ev_var rfl) rfl)) (by rw [decide_eq_true rfl]; rfl)) fun _ => et_is (et_test (ev_neI (K := K) (ns := ms) (ms := ms) (Ev.s (ev_var rfl) (sq_of gg)) (Ev.s (ev_var rfl) (sq_of gp)))) (by rw [decide_eq_true rfl]; rfl)) rfl) (fun hb => by cases hb) fun _ H16 e16' => ?_
  refine q_forR2 (lo := 1) (n := (m : Int) + 1) (ea_cons ev_c (ea_cons (ev_I0 (g := fun i j => .int (i + j)) (ev_var rfl) ev_c) ea_nil)) (by omega) (fun i σ' H' => ∃ (z11 z12 z13 z14 : Option V), σ' = [some (.ref a), some (.int c0), some (.ref p), some (.int (m : Int)), some (.int (dg : Int)), some (.ref pv), z6, some (.ref ps), z8, some (.ref pg), some (.ref L), z11, z12, z13, z14, z15] ∧ Ex H15 H') (fun G eG => ⟨none, none, none, none, rfl, e16'.trans eG⟩) ?_ ?_
  · rintro i σ' G hi' ⟨z11, z12, z13, z14, rfl, eG⟩
    have hi : i < m := by omega
    obtain ⟨o, ho⟩ : ∃ o, (if c 0 = 0 then none else pq c dg i) = o := ⟨_, rfl⟩
    obtain ⟨v, hvi⟩ : ∃ v, vs[i]? = some v := ⟨_, List.getElem?_eq_getElem (by omega)⟩
    have hPv : PO c i o H15 v := by
      have := hv i v hvi
      rw [← ho]
      by_cases h0 : c 0 = 0
      · rw [if_pos h0] at this ⊢
        exact this
      · rw [if_neg h0] at this ⊢
        exact this
    refine q_asg (v := .non) ev_c fun G1 f1 => ?_
    have eG1 := eG.trans f1
    have gs1 := eG1 _ _ gs
    refine q_cut (M := fun σ' H' => ∃ (ve : V) (z13 : Option V), σ' = [some (.ref a), some (.int c0), some (.ref p), some (.int (m : Int)), some (.int (dg : Int)), some (.ref pv), z6, some (.ref ps), z8, some (.ref pg), some (.ref L), some (.int (1 + (i : Int))), some ve, z13, z14, z15] ∧ Ex H15 H' ∧ PO c i o H' ve) ?_ ?_
    · refine s_when (b := !decide (c 0 = 0)) (et_test (Ev.is (ev_ne (ev_at (n := 0) (Ev.s (ev_var rfl) (sq_of gs1)) ev_c (at_of (j := 0) rfl (at_int (lf_at (by omega))))) ev_c rfl) (congrArg V.bl (congrArg Bool.not (decide_eq_decide.mpr ⟨V.int.inj, congrArg V.int⟩))))) (fun hb G2 f2 => ?_) (fun hb G2 f2 => ?_)
      · have h0 : c 0 ≠ 0 := fun h => by rw [decide_eq_true h] at hb; cases hb
        rw [if_neg h0] at ho
        refine q_asgC (vs := [.ref ps, .int ((i + 1 : Nat) : Int)]) (ea_cons (ev_var rfl) (ea_cons (Ev.is (ev_var rfl) (congrArg V.int (by omega))) ea_nil)) fun G3 f3 => ⟨ps, c, i + 1, m + 1, 40, rfl, sq_of ((f2.trans f3) _ _ gs1), by omega, by omega, by decide, hcb, hpd h0, fun t q G4 ht hq f4 gt gq => ?_⟩
        have hkm : (i + 1) * (40 + 6) ≤ 60 * 46 := Nat.mul_le_mul (by omega) (by omega)
        have ff := f2.trans (f3.trans f4)
        have hall := DT.lev_all (hpd h0)
        refine s_asgC (vs := [.ref q, .int (Dn c (i + 1)), .int (dg : Int)]) (ea_cons (ev_atT (n := 0) (ev_var rfl) (st_of gt) ev_c (at_of (j := 0) rfl rfl)) (ea_cons (ev_atT (n := 1) (ev_var rfl) (st_of gt) ev_c (at_of (j := 1) rfl rfl)) (ea_cons (ev_var rfl) ea_nil))) fun G5 f5 => ⟨q, lf (i + 1) (Un c (i + 1)), Dn c (i + 1), dg, rfl, sq_of (f5 _ _ gq), by rw [lf_len]; omega, by rw [lf_len]; omega, fun n hn => ?_, (hall (i + 1)).1, (dn_bt hcb (by omega)).mono (by omega), by omega, by omega, ?_⟩
        · obtain ⟨j, _, rfl⟩ := List.mem_map.mp hn
          exact (un_bt hcb (by omega)).mono (by omega)
        · show RetO _ _ (pq c dg i) G5 _
          rw [ho]
          cases o with
          | none =>
            intro G6 f6
            exact ⟨.non, _, rfl, eG1.trans (ff.trans (f5.trans f6)), rfl⟩
          | some s =>
            intro t2 a2 G6 ht2 ha2 f6 g1 g2
            exact ⟨.ref t2, _, rfl, eG1.trans (ff.trans (f5.trans f6)), t2, a2, rfl, g1, g2⟩
      · have h0 : c 0 = 0 := by
          refine Classical.byContradiction fun h => ?_
          rw [decide_eq_false h] at hb
          cases hb
        rw [if_pos h0] at ho
        rw [← ho]
        exact ⟨.non, z13, rfl, eG1.trans f2, rfl⟩
    rintro σ' G2 ⟨ve, z13, rfl, eG2, hPe⟩
    refine q_asg (v := v) (ev_at (n := (i : Int)) (Ev.s (ev_var rfl) (sq_of (eG2 _ _ gL))) (Ev.is (ev_I0 (g := fun i j => .int (i - j)) (ev_var rfl) ev_c) (congrArg V.int (by omega))) (at_of (j := i) rfl hvi)) fun G3 f3 => ?_
    have hPv3 := hPv.ex (eG2.trans f3)
    have hPe3 := hPe.ex f3
    cases o with
    | none =>
      obtain rfl : v = .non := hPv3
      obtain rfl : ve = .non := hPe3
      refine s_if (b := true) (et_is (et_test (ev_isN (ev_var rfl))) (by decide)) (fun _ G4 f4 => ?_) (fun hb => by cases hb)
      exact s_when (b := false) (et_is (et_test (ev_notN (ev_var rfl))) (by decide)) (fun hb => by cases hb) fun _ G5 f5 => ⟨_, _, _, _, rfl, eG2.trans (f3.trans (f4.trans f5))⟩
    | some s =>
      obtain ⟨t, q, rfl, gt, gq⟩ := hPv3
      obtain ⟨t2, q2, rfl, gt2, gq2⟩ := hPe3
      refine s_if (b := false) (et_is (et_test (ev_isN (ev_var rfl))) (by simp)) (fun hb => by cases hb) fun _ G4 f4 => ?_
      have dat : ∀ {t q : Addr} {G : Hp}, G t = some (.tup [.ref q, .int (s : Int)]) → G q = some (.lst ((pRow c i s).map V.int)) → Dp K G (.ref t) (.tuple [.list ((pRow c i s).map .int), .int (s : Int)]) := fun h1 h2 => .tup (st_of h1) (.cons (.lst (sq_of h2) (dp_ints _)) (.cons (.int _) .nil))
      refine s_if (b := false) (et_is (et_or (a := false) (b := false) (et_is (et_not (et_B (ev_isiT (K := K) (ev_var rfl) (f4 _ _ gt)))) rfl) fun _ => et_is (et_test (ev_neDD (K := K) (d := .tuple [.list ((pRow c i s).map .int), .int (s : Int)]) (EvD.of (ev_var rfl) (dat (f4 _ _ gt) (f4 _ _ gq))) (EvD.of (ev_var rfl) (dat (f4 _ _ gt2) (f4 _ _ gq2))) (shaped_lint _ _))) rfl) rfl) (fun hb => by cases hb) fun _ G5 f5 => ?_
      have f45 := f4.trans f5
      have gt5 := f45 _ _ gt
      have gq5 := f45 _ _ gq
      refine s_when (b := false) (et_is (et_or (a := false) (b := false) (et_is (et_not (et_B (ev_ints (ns := pRow c i s) (Ev.r (ev_atT (n := 0) (ev_var rfl) (st_of gt5) ev_c (at_of (j := 0) rfl rfl)) gq5) (by unfold pRow; rw [rowQ_len, lf_len]; omega)))) rfl) fun _ => et_is (et_not (et_B (ev_isint (n := (s : Int)) (ev_atT (n := 1) (ev_var rfl) (st_of gt5) ev_c (at_of (j := 1) rfl rfl))))) rfl) rfl) (fun hb => by cases hb) fun _ G6 f6 => ⟨_, _, _, _, rfl, eG2.trans (f3.trans (f45.trans f6))⟩
  · rintro σ' G ⟨z11, z12, z13, z14, rfl, eG⟩
    exact s_ret (v := .bl true) ev_c fun G1 f1 => k G1

end
set_option maxHeartbeats 0 in
theorem all_mk {l : PySem.W.OpenLaw} {w : World} {K : PySem.W.Frag} {h : Heap} {mg : Str → Option Value} {fa : Addr} {f1 f2 f3 f4 f5 f6 f7 f8 f9 f10 f11 f12 f13 f14 f15 : Addr} (X : K.In h) (G : h.Ns mainGlobals mg) (hfa : mg "law" = some (.ref fa))
    {od1 an1 : Option Addr} {sl1 : Array (Option Value)} {oc1 dc1 pm1 cd1 ct1 : Value} {kV1 : Value} {od2 an2 : Option Addr} {sl2 : Array (Option Value)} {oc2 dc2 pm2 cd2 ct2 : Value} {kV2 : Value} {od3 an3 : Option Addr} {sl3 : Array (Option Value)} {oc3 dc3 pm3 cd3 ct3 : Value} {kV3 : Value} {od4 an4 : Option Addr} {sl4 : Array (Option Value)} {oc4 dc4 pm4 cd4 ct4 : Value} {kV4 : Value} {od5 an5 : Option Addr} {sl5 : Array (Option Value)} {oc5 dc5 pm5 cd5 ct5 : Value} {kV5 : Value} {od6 an6 : Option Addr} {sl6 : Array (Option Value)} {oc6 dc6 pm6 cd6 ct6 : Value} {kV6 : Value} {od7 an7 : Option Addr} {sl7 : Array (Option Value)} {oc7 dc7 pm7 cd7 ct7 : Value} {kV7 : Value} {od8 an8 : Option Addr} {sl8 : Array (Option Value)} {oc8 dc8 pm8 cd8 ct8 : Value} {kV8 : Value} {od9 an9 : Option Addr} {sl9 : Array (Option Value)} {oc9 dc9 pm9 cd9 ct9 : Value} {kV9 : Value} {od10 an10 : Option Addr} {sl10 : Array (Option Value)} {oc10 dc10 pm10 cd10 ct10 : Value} {kV10 : Value} {od11 an11 : Option Addr} {sl11 : Array (Option Value)} {oc11 dc11 pm11 cd11 ct11 : Value} {kV11 : Value} {od12 an12 : Option Addr} {sl12 : Array (Option Value)} {oc12 dc12 pm12 cd12 ct12 : Value} {kV12 : Value} {od13 an13 : Option Addr} {sl13 : Array (Option Value)} {oc13 dc13 pm13 cd13 ct13 : Value} {kV13 : Value} {od14 an14 : Option Addr} {sl14 : Array (Option Value)} {oc14 dc14 pm14 cd14 ct14 : Value} {kV14 : Value} {od15 an15 : Option Addr} {sl15 : Array (Option Value)} {oc15 dc15 pm15 cd15 ct15 : Value} {kV15 : Value} {u_MOST_SHIFT : Value}
    (a1 : PySem.W.nsIn K mainGlobals "weighted" = some (some (.ref f1)))
    (l1 : K.lookup f1 = some ⟨oc1, od1, .func (PySem.W.fnOf "weighted" "weighted" (defArgs s_weighted) (defBody s_weighted) (defScope s_weighted) .none kV1 dc1 pm1 an1 cd1 ct1), sl1⟩) (c1 : PySem.W.codeIn K cd1 "weighted" = true) (k1 : PySem.W.keepIn K (.ref f1) = true)
    (a2 : PySem.W.nsIn K mainGlobals "autocorrelation" = some (some (.ref f2)))
    (l2 : K.lookup f2 = some ⟨oc2, od2, .func (PySem.W.fnOf "autocorrelation" "autocorrelation" (defArgs s_autocorrelation) (defBody s_autocorrelation) (defScope s_autocorrelation) .none kV2 dc2 pm2 an2 cd2 ct2), sl2⟩) (c2 : PySem.W.codeIn K cd2 "autocorrelation" = true) (k2 : PySem.W.keepIn K (.ref f2) = true)
    (a3 : PySem.W.nsIn K mainGlobals "exact_predictors" = some (some (.ref f3)))
    (l3 : K.lookup f3 = some ⟨oc3, od3, .func (PySem.W.fnOf "exact_predictors" "exact_predictors" (defArgs s_exact_predictors) (defBody s_exact_predictors) (defScope s_exact_predictors) .none kV3 dc3 pm3 an3 cd3 ct3), sl3⟩) (c3 : PySem.W.codeIn K cd3 "exact_predictors" = true) (k3 : PySem.W.keepIn K (.ref f3) = true)
    (a4 : PySem.W.nsIn K mainGlobals "quantize" = some (some (.ref f4)))
    (l4 : K.lookup f4 = some ⟨oc4, od4, .func (PySem.W.fnOf "quantize" "quantize" (defArgs s_quantize) (defBody s_quantize) (defScope s_quantize) .none kV4 dc4 pm4 an4 cd4 ct4), sl4⟩) (c4 : PySem.W.codeIn K cd4 "quantize" = true) (k4 : PySem.W.keepIn K (.ref f4) = true)
    (a5 : PySem.W.nsIn K mainGlobals "predictors" = some (some (.ref f5)))
    (l5 : K.lookup f5 = some ⟨oc5, od5, .func (PySem.W.fnOf "predictors" "predictors" (defArgs s_predictors) (defBody s_predictors) (defScope s_predictors) .none kV5 dc5 pm5 an5 cd5 ct5), sl5⟩) (c5 : PySem.W.codeIn K cd5 "predictors" = true) (k5 : PySem.W.keepIn K (.ref f5) = true)
    (a6 : PySem.W.nsIn K mainGlobals "_last_numerator" = some (some (.ref f6)))
    (l6 : K.lookup f6 = some ⟨oc6, od6, .func (PySem.W.fnOf "_last_numerator" "_last_numerator" (defArgs s_last_numerator) (defBody s_last_numerator) (defScope s_last_numerator) .none kV6 dc6 pm6 an6 cd6 ct6), sl6⟩) (c6 : PySem.W.codeIn K cd6 "_last_numerator" = true) (k6 : PySem.W.keepIn K (.ref f6) = true)
    (a7 : PySem.W.nsIn K mainGlobals "_rounded" = some (some (.ref f7)))
    (l7 : K.lookup f7 = some ⟨oc7, od7, .func (PySem.W.fnOf "_rounded" "_rounded" (defArgs s_rounded) (defBody s_rounded) (defScope s_rounded) .none kV7 dc7 pm7 an7 cd7 ct7), sl7⟩) (c7 : PySem.W.codeIn K cd7 "_rounded" = true) (k7 : PySem.W.keepIn K (.ref f7) = true)
    (a8 : PySem.W.nsIn K mainGlobals "_law_cell" = some (some (.ref f8)))
    (l8 : K.lookup f8 = some ⟨oc8, od8, .func (PySem.W.fnOf "_law_cell" "_law_cell" (defArgs s_law_cell) (defBody s_law_cell) (defScope s_law_cell) .none kV8 dc8 pm8 an8 cd8 ct8), sl8⟩) (c8 : PySem.W.codeIn K cd8 "_law_cell" = true) (k8 : PySem.W.keepIn K (.ref f8) = true)
    (a9 : PySem.W.nsIn K mainGlobals "_law_integer" = some (some (.ref f9)))
    (l9 : K.lookup f9 = some ⟨oc9, od9, .func (PySem.W.fnOf "_law_integer" "_law_integer" (defArgs s_law_integer) (defBody s_law_integer) (defScope s_law_integer) .none kV9 dc9 pm9 an9 cd9 ct9), sl9⟩) (c9 : PySem.W.codeIn K cd9 "_law_integer" = true) (k9 : PySem.W.keepIn K (.ref f9) = true)
    (a10 : PySem.W.nsIn K mainGlobals "_law_integers" = some (some (.ref f10)))
    (l10 : K.lookup f10 = some ⟨oc10, od10, .func (PySem.W.fnOf "_law_integers" "_law_integers" (defArgs s_law_integers) (defBody s_law_integers) (defScope s_law_integers) .none kV10 dc10 pm10 an10 cd10 ct10), sl10⟩) (c10 : PySem.W.codeIn K cd10 "_law_integers" = true) (k10 : PySem.W.keepIn K (.ref f10) = true)
    (a11 : PySem.W.nsIn K mainGlobals "_law_row" = some (some (.ref f11)))
    (l11 : K.lookup f11 = some ⟨oc11, od11, .func (PySem.W.fnOf "_law_row" "_law_row" (defArgs s_law_row) (defBody s_law_row) (defScope s_law_row) .none kV11 dc11 pm11 an11 cd11 ct11), sl11⟩) (c11 : PySem.W.codeIn K cd11 "_law_row" = true) (k11 : PySem.W.keepIn K (.ref f11) = true)
    (a12 : PySem.W.nsIn K mainGlobals "_law_samples" = some (some (.ref f12)))
    (l12 : K.lookup f12 = some ⟨oc12, od12, .func (PySem.W.fnOf "_law_samples" "_law_samples" (defArgs s_law_samples) (defBody s_law_samples) (defScope s_law_samples) .none kV12 dc12 pm12 an12 cd12 ct12), sl12⟩) (c12 : PySem.W.codeIn K cd12 "_law_samples" = true) (k12 : PySem.W.keepIn K (.ref f12) = true)
    (a13 : PySem.W.nsIn K mainGlobals "_law_solution" = some (some (.ref f13)))
    (l13 : K.lookup f13 = some ⟨oc13, od13, .func (PySem.W.fnOf "_law_solution" "_law_solution" (defArgs s_law_solution) (defBody s_law_solution) (defScope s_law_solution) .none kV13 dc13 pm13 an13 cd13 ct13), sl13⟩) (c13 : PySem.W.codeIn K cd13 "_law_solution" = true) (k13 : PySem.W.keepIn K (.ref f13) = true)
    (a14 : PySem.W.nsIn K mainGlobals "_law_quantized" = some (some (.ref f14)))
    (l14 : K.lookup f14 = some ⟨oc14, od14, .func (PySem.W.fnOf "_law_quantized" "_law_quantized" (defArgs s_law_quantized) (defBody s_law_quantized) (defScope s_law_quantized) .none kV14 dc14 pm14 an14 cd14 ct14), sl14⟩) (c14 : PySem.W.codeIn K cd14 "_law_quantized" = true) (k14 : PySem.W.keepIn K (.ref f14) = true)
    (a15 : PySem.W.nsIn K mainGlobals "law" = some (some (.ref f15)))
    (l15 : K.lookup f15 = some ⟨oc15, od15, .func (PySem.W.fnOf "law" "law" (defArgs s_law) (defBody s_law) (defScope s_law) .none kV15 dc15 pm15 an15 cd15 ct15), sl15⟩) (c15 : PySem.W.codeIn K cd15 "law" = true) (k15 : PySem.W.keepIn K (.ref f15) = true)
    (z_len : PySem.W.nsIn K mainGlobals "len" = some none)
    (z_enumerate : PySem.W.nsIn K mainGlobals "enumerate" = some none)
    (z_range : PySem.W.nsIn K mainGlobals "range" = some none)
    (z_sum : PySem.W.nsIn K mainGlobals "sum" = some none)
    (z_zip : PySem.W.nsIn K mainGlobals "zip" = some none)
    (z_list : PySem.W.nsIn K mainGlobals "list" = some none)
    (z_reversed : PySem.W.nsIn K mainGlobals "reversed" = some none)
    (z_max : PySem.W.nsIn K mainGlobals "max" = some none)
    (z_abs : PySem.W.nsIn K mainGlobals "abs" = some none)
    (z_isinstance : PySem.W.nsIn K mainGlobals "isinstance" = some none)
    (z_int : PySem.W.nsIn K mainGlobals "int" = some none)
    (z_bool : PySem.W.nsIn K mainGlobals "bool" = some none)
    (z_all : PySem.W.nsIn K mainGlobals "all" = some none)
    (z_tuple : PySem.W.nsIn K mainGlobals "tuple" = some none)
    (q_MOST_SHIFT : PySem.W.nsIn K mainGlobals "_MOST_SHIFT" = some (some u_MOST_SHIFT)) (r_MOST_SHIFT : RelV (.int (15)) u_MOST_SHIFT)
    : ∃ fd : FuncData, (∀ (s : Shared) (v : Value), BindsTo s fd ⟨[v], []⟩ [("script", v)]) ∧ ∀ base : Heap, K.In base → base.Ns mainGlobals mg → FnOk l.prog w K mg base CX0 6 fa fd ["script"] (sp_law K) := by
  have e := hfa.symm.trans (PySem.W.mg_of X G a15)
  cases e
  have F1 := fun_mk (st := s_weighted) l1 c1 k1
  have b1 := F1.binds (ps := ["samples"]) fun _ _ _ _ _ _ us hl => match us, hl with | [_], _ => rfl
  have F2 := fun_mk (st := s_autocorrelation) l2 c2 k2
  have b2 := F2.binds (ps := ["values", "most"]) fun _ _ _ _ _ _ us hl => match us, hl with | [_, _], _ => rfl
  have F3 := fun_mk (st := s_exact_predictors) l3 c3 k3
  have b3 := F3.binds (ps := ["correlation"]) fun _ _ _ _ _ _ us hl => match us, hl with | [_], _ => rfl
  have F4 := fun_mk (st := s_quantize) l4 c4 k4
  have b4 := F4.binds (ps := ["numerators", "denominator", "precision"]) fun _ _ _ _ _ _ us hl => match us, hl with | [_, _, _], _ => rfl
  have F5 := fun_mk (st := s_predictors) l5 c5 k5
  have b5 := F5.binds (ps := ["samples", "most", "precision"]) fun _ _ _ _ _ _ us hl => match us, hl with | [_, _, _], _ => rfl
  have F6 := fun_mk (st := s_last_numerator) l6 c6 k6
  have b6 := F6.binds (ps := ["correlation", "numerators", "denominator"]) fun _ _ _ _ _ _ us hl => match us, hl with | [_, _, _], _ => rfl
  have F7 := fun_mk (st := s_rounded) l7 c7 k7
  have b7 := F7.binds (ps := ["a", "b"]) fun _ _ _ _ _ _ us hl => match us, hl with | [_, _], _ => rfl
  have F8 := fun_mk (st := s_law_cell) l8 c8 k8
  have b8 := F8.binds (ps := ["script", "k"]) fun _ _ _ _ _ _ us hl => match us, hl with | [_, _], _ => rfl
  have F9 := fun_mk (st := s_law_integer) l9 c9 k9
  have b9 := F9.binds (ps := ["value"]) fun _ _ _ _ _ _ us hl => match us, hl with | [_], _ => rfl
  have F10 := fun_mk (st := s_law_integers) l10 c10 k10
  have b10 := F10.binds (ps := ["values"]) fun _ _ _ _ _ _ us hl => match us, hl with | [_], _ => rfl
  have F11 := fun_mk (st := s_law_row) l11 c11 k11
  have b11 := F11.binds (ps := ["cell", "count", "bound"]) fun _ _ _ _ _ _ us hl => match us, hl with | [_, _, _], _ => rfl
  have F12 := fun_mk (st := s_law_samples) l12 c12 k12
  have b12 := F12.binds (ps := ["cell", "count", "shape"]) fun _ _ _ _ _ _ us hl => match us, hl with | [_, _, _], _ => rfl
  have F13 := fun_mk (st := s_law_solution) l13 c13 k13
  have b13 := F13.binds (ps := ["sums", "size"]) fun _ _ _ _ _ _ us hl => match us, hl with | [_, _], _ => rfl
  have F14 := fun_mk (st := s_law_quantized) l14 c14 k14
  have b14 := F14.binds (ps := ["numerators", "denominator", "digits"]) fun _ _ _ _ _ _ us hl => match us, hl with | [_, _, _], _ => rfl
  have F15 := fun_mk (st := s_law) l15 c15 k15
  have b15 := F15.binds (ps := ["script"]) fun _ _ _ _ _ _ us hl => match us, hl with | [_], _ => rfl
  let T : TX K mg := ⟨f1, _, F1, b1, (PySem.W.mg_of X G a1), f2, _, F2, b2, (PySem.W.mg_of X G a2), f3, _, F3, b3, (PySem.W.mg_of X G a3), f4, _, F4, b4, (PySem.W.mg_of X G a4), f5, _, F5, b5, (PySem.W.mg_of X G a5), f6, _, F6, b6, (PySem.W.mg_of X G a6), f7, _, F7, b7, (PySem.W.mg_of X G a7), f8, _, F8, b8, (PySem.W.mg_of X G a8), f9, _, F9, b9, (PySem.W.mg_of X G a9), f10, _, F10, b10, (PySem.W.mg_of X G a10), f11, _, F11, b11, (PySem.W.mg_of X G a11), f12, _, F12, b12, (PySem.W.mg_of X G a12), f13, _, F13, b13, (PySem.W.mg_of X G a13), f14, _, F14, b14, (PySem.W.mg_of X G a14), fa, _, F15, b15, (PySem.W.mg_of X G a15), (PySem.W.mg_none_of X G z_len), (PySem.W.mg_none_of X G z_enumerate), (PySem.W.mg_none_of X G z_range), (PySem.W.mg_none_of X G z_sum), (PySem.W.mg_none_of X G z_zip), (PySem.W.mg_none_of X G z_list), (PySem.W.mg_none_of X G z_reversed), (PySem.W.mg_none_of X G z_max), (PySem.W.mg_none_of X G z_abs), (PySem.W.mg_none_of X G z_isinstance), (PySem.W.mg_none_of X G z_int), (PySem.W.mg_none_of X G z_bool), (PySem.W.mg_none_of X G z_all), (PySem.W.mg_none_of X G z_tuple), u_MOST_SHIFT, (PySem.W.mg_of X G q_MOST_SHIFT), r_MOST_SHIFT⟩
  exact ⟨_, fun s v => .of_eq rfl, fun base _ _ => ok_law T⟩
end K62
open PySem PySem.W PyProof.Rows
set_option maxRecDepth 100000 in
set_option maxHeartbeats 0 in
theorem PySem.Challenge.cw_monochord_k62_predictors_of_samples_holds : PySem.Challenge.rw_monochord_k62_predictors_of_samples.Holds := by
  w_on; o_law; k_head; (case hw => w_witness2)
  k_fill
  refine L2.walk_of (l := PySem.Challenge.rw_monochord_k62_predictors_of_samples) (n := 63) (k := 6) (x := "script") (CX := fun _ => L2.CX0) (sp := fun w => K62.sp_law _) rfl (by decide) rfl ⟨rfl, by decide, by decide⟩ (fun w h Y => PySem.W.kIn_of Y) ?F (fun _ _ a ns hl _ hS => ⟨a, ns, rfl, hS, hl, fun _ => rfl⟩) (fun _ _ _ _ _ h => h)
  case F =>
    intro w mg fa h KX G hmg
    refine' K62.all_mk KX G hmg ?a1 ?l1 ?c1 ?k1 ?a2 ?l2 ?c2 ?k2 ?a3 ?l3 ?c3 ?k3 ?a4 ?l4 ?c4 ?k4 ?a5 ?l5 ?c5 ?k5 ?a6 ?l6 ?c6 ?k6 ?a7 ?l7 ?c7 ?k7 ?a8 ?l8 ?c8 ?k8 ?a9 ?l9 ?c9 ?k9 ?a10 ?l10 ?c10 ?k10 ?a11 ?l11 ?c11 ?k11 ?a12 ?l12 ?c12 ?k12 ?a13 ?l13 ?c13 ?k13 ?a14 ?l14 ?c14 ?k14 ?a15 ?l15 ?c15 ?k15 ?z_len ?z_enumerate ?z_range ?z_sum ?z_zip ?z_list ?z_reversed ?z_max ?z_abs ?z_isinstance ?z_int ?z_bool ?z_all ?z_tuple ?q_MOST_SHIFT ?r_MOST_SHIFT
    (case a1 => k_is)
    (case l1 => k_is)
    (case c1 => k_is)
    (case k1 => k_is)
    (case a2 => k_is)
    (case l2 => k_is)
    (case c2 => k_is)
    (case k2 => k_is)
    (case a3 => k_is)
    (case l3 => k_is)
    (case c3 => k_is)
    (case k3 => k_is)
    (case a4 => k_is)
    (case l4 => k_is)
    (case c4 => k_is)
    (case k4 => k_is)
    (case a5 => k_is)
    (case l5 => k_is)
    (case c5 => k_is)
    (case k5 => k_is)
    (case a6 => k_is)
    (case l6 => k_is)
    (case c6 => k_is)
    (case k6 => k_is)
    (case a7 => k_is)
    (case l7 => k_is)
    (case c7 => k_is)
    (case k7 => k_is)
    (case a8 => k_is)
    (case l8 => k_is)
    (case c8 => k_is)
    (case k8 => k_is)
    (case a9 => k_is)
    (case l9 => k_is)
    (case c9 => k_is)
    (case k9 => k_is)
    (case a10 => k_is)
    (case l10 => k_is)
    (case c10 => k_is)
    (case k10 => k_is)
    (case a11 => k_is)
    (case l11 => k_is)
    (case c11 => k_is)
    (case k11 => k_is)
    (case a12 => k_is)
    (case l12 => k_is)
    (case c12 => k_is)
    (case k12 => k_is)
    (case a13 => k_is)
    (case l13 => k_is)
    (case c13 => k_is)
    (case k13 => k_is)
    (case a14 => k_is)
    (case l14 => k_is)
    (case c14 => k_is)
    (case k14 => k_is)
    (case a15 => k_is)
    (case l15 => k_is)
    (case c15 => k_is)
    (case k15 => k_is)
    (case z_len => k_is)
    (case z_enumerate => k_is)
    (case z_range => k_is)
    (case z_sum => k_is)
    (case z_zip => k_is)
    (case z_list => k_is)
    (case z_reversed => k_is)
    (case z_max => k_is)
    (case z_abs => k_is)
    (case z_isinstance => k_is)
    (case z_int => k_is)
    (case z_bool => k_is)
    (case z_all => k_is)
    (case z_tuple => k_is)
    (case q_MOST_SHIFT => k_is)
    (case r_MOST_SHIFT => first | rfl | exact ⟨_, rfl⟩)
