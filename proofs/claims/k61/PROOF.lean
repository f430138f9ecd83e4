import PyProof.Rows.All
import Wide.All
import OpenK.AllK
import Wide.FinOn
import HandS.ForMost
import HandS.Steps
import HandS.Evl
import HandS.IsInst
import HandS.Wide
import HandS.WideBits
import HandS.Defaults
import HandS.Style
import HandS.SortKw
import KE.DataMinMax
import PyProof.P3Eq
import PySem.Challenge.RW_monochord_k61_quantized_coefficients
set_option Elab.async false
set_option linter.all false
set_option maxRecDepth 100000
set_option maxHeartbeats 4000000
namespace K61
open PySem PySem.Spec PyProof.Rows L2 Evl
def topS (i : Nat) : Stmt := PySem.Challenge.pw_monochord_k61_quantized_coefficients.main.body.getD i (.Pass ⟨0, 0, 0, 0⟩)
abbrev s_quantize : Stmt := topS 2
theorem sc_quantize : FnScope ["numerators", "denominator", "precision", "bound", "greatest", "shift", "numerator"] ["numerators", "denominator", "precision"] (defScope s_quantize) := ⟨rfl, rfl, rfl, by decide +kernel, rfl, by decide +kernel, by decide +kernel⟩
abbrev s_rounded : Stmt := topS 3
theorem sc_rounded : FnScope ["a", "b"] ["a", "b"] (defScope s_rounded) := ⟨rfl, rfl, rfl, by decide +kernel, rfl, by decide +kernel, by decide +kernel⟩
abbrev s_law_cell : Stmt := topS 5
theorem sc_law_cell : FnScope ["script", "k"] ["script", "k"] (defScope s_law_cell) := ⟨rfl, rfl, rfl, by decide +kernel, rfl, by decide +kernel, by decide +kernel⟩
abbrev s_law_integer : Stmt := topS 6
theorem sc_law_integer : FnScope ["value"] ["value"] (defScope s_law_integer) := ⟨rfl, rfl, rfl, by decide +kernel, rfl, by decide +kernel, by decide +kernel⟩
abbrev s_law_integers : Stmt := topS 7
theorem sc_law_integers : FnScope ["values", "value"] ["values"] (defScope s_law_integers) := ⟨rfl, rfl, rfl, by decide +kernel, rfl, by decide +kernel, by decide +kernel⟩
abbrev s_law_row : Stmt := topS 8
theorem sc_law_row : FnScope ["cell", "count", "bound", "rest", "mixed", "row", "k"] ["cell", "count", "bound"] (defScope s_law_row) := ⟨rfl, rfl, rfl, by decide +kernel, rfl, by decide +kernel, by decide +kernel⟩
abbrev s_law_rounded : Stmt := topS 9
theorem sc_law_rounded : FnScope ["numerator", "denominator", "moved", "magnitude"] ["numerator", "denominator", "moved"] (defScope s_law_rounded) := ⟨rfl, rfl, rfl, by decide +kernel, rfl, by decide +kernel, by decide +kernel⟩
abbrev s_law_expected : Stmt := topS 10
theorem sc_law_expected : FnScope ["numerators", "denominator", "digits", "bound", "moved", "row", "largest", "x"] ["numerators", "denominator", "digits"] (defScope s_law_expected) := ⟨rfl, rfl, rfl, by decide +kernel, rfl, by decide +kernel, by decide +kernel⟩
abbrev s_law : Stmt := topS 11
theorem sc_law : FnScope ["script", "first", "bound", "count", "numerators", "denominator", "digits", "given", "actual", "expected", "x"] ["script"] (defScope s_law) := ⟨rfl, rfl, rfl, by decide +kernel, rfl, by decide +kernel, by decide +kernel⟩
theorem hu64 {A : Around} {k : Nat} (hr : Room k A) : A.units + 64 < cLine := hr.units
/-! ### short words for readings -/
theorem ret_eq {v w : V} {H H' : Hp} {Q : VK} (k : RetV v H Q) (ex : Ex H H') (e : w = v) : Q w H' := e ▸ k H' ex
/-- isinstance(x, T), T a built-in class -/
theorem ev_isi {K : PySem.W.Frag} {σ : L2.St} {H : Hp} {ta : TE} {x : V} {t : String} {T : String} {b : Bool} (ha : Ev ta σ H x) (ht : ∀ H1, Ex H H1 → TyX K H1 x (.type t)) (hk : kitB t T = some b) :
    Ev (tCB (rIsi K) (tCons ta (tCons (tC (.ty T)) tNil))) σ H (.bl b) :=
  ev_cb (ea_cons ha (ea_cons ev_c ea_nil)) fun H1 e Q q => ⟨x, .ty T, _, _, b, rfl, .ty T, ht H1 e, kit_ty hk, q H1 (Ex.refl H1)⟩
theorem isi_int {K : PySem.W.Frag} {H : Hp} {i : Int} : ∀ H1, Ex H H1 → TyX K H1 (V.int i) (.type "int") := fun _ _ => .base (.int _)
theorem isi_bl {K : PySem.W.Frag} {H : Hp} {b : Bool} : ∀ H1, Ex H H1 → TyX K H1 (V.bl b) (.type "bool") := fun _ _ => .base (.bl _)
theorem isi_non {K : PySem.W.Frag} {H : Hp} : ∀ H1, Ex H H1 → TyX K H1 V.non (.type "NoneType") := fun _ _ => .base .non
theorem isi_lst {K : PySem.W.Frag} {H : Hp} {a : Addr} {xs : List V} (h : H a = some (.lst xs)) : ∀ H1, Ex H H1 → TyX K H1 (V.ref a) (.type "list") := fun _ e => .base (.lst (e _ _ h))
theorem isi_tup {K : PySem.W.Frag} {H : Hp} {a : Addr} {xs : List V} (h : H a = some (.tup xs)) : ∀ H1, Ex H H1 → TyX K H1 (V.ref a) (.type "tuple") := fun _ e => .base (.tup (e _ _ h))
theorem kit_ii : kitB "int" "int" = some true := by decide +kernel
theorem kit_ib : kitB "int" "bool" = some false := by decide +kernel
theorem kit_bb : kitB "bool" "bool" = some true := by decide +kernel
theorem kit_bi : kitB "bool" "int" = some true := by decide +kernel
theorem kit_ll : kitB "list" "list" = some true := by decide +kernel
theorem kit_tt : kitB "tuple" "tuple" = some true := by decide +kernel
theorem ev_isiI {K : PySem.W.Frag} {σ : L2.St} {H : Hp} {ta : TE} {i : Int} (ha : Ev ta σ H (.int i)) : Ev (tCB (rIsi K) (tCons ta (tCons (tC (.ty "int")) tNil))) σ H (.bl true) := ev_isi ha isi_int kit_ii
theorem ev_isiB {K : PySem.W.Frag} {σ : L2.St} {H : Hp} {ta : TE} {i : Int} (ha : Ev ta σ H (.int i)) : Ev (tCB (rIsi K) (tCons ta (tCons (tC (.ty "bool")) tNil))) σ H (.bl false) := ev_isi ha isi_int kit_ib
theorem ev_isiL {K : PySem.W.Frag} {σ : L2.St} {H : Hp} {ta : TE} {a : Addr} {xs : List V} (ha : Ev ta σ H (.ref a)) (h : H a = some (.lst xs)) : Ev (tCB (rIsi K) (tCons ta (tCons (tC (.ty "list")) tNil))) σ H (.bl true) := ev_isi ha (isi_lst h) kit_ll
theorem ev_isiBB {K : PySem.W.Frag} {σ : L2.St} {H : Hp} {ta : TE} {b : Bool} (ha : Ev ta σ H (.bl b)) : Ev (tCB (rIsi K) (tCons ta (tCons (tC (.ty "bool")) tNil))) σ H (.bl true) := ev_isi ha isi_bl kit_bb
theorem ev_chain {σ : L2.St} {H : Hp} {ta tb tc : TE} {g g' : Int → Int → Bool} {a b c : Int} (ha : Ev ta σ H (.int a)) (hb : Ev tb σ H (.int b)) (hc : Ev tc σ H (.int c)) :
    Ev (tChain (rI0 fun i j => .bl (g i j)) (rI0 fun i j => .bl (g' i j)) ta tb tc) σ H (.bl (g a b && g' b c)) := fun H1 e Q q =>
  ha H1 e _ fun H2 e2 => hb H2 (e.trans e2) _ fun H3 e3 => ⟨a, b, rfl, rfl, g a b, rfl, by
    cases hg : g a b with
    | true =>
      rw [if_pos rfl]
      rw [hg, Bool.true_and] at q
      exact hc H3 ((e.trans e2).trans e3) _ fun H4 e4 => ⟨b, c, rfl, rfl, q H4 ((e2.trans e3).trans e4)⟩
    | false =>
      rw [if_neg (by decide)]
      rw [hg, Bool.false_and] at q
      exact q H3 (e2.trans e3)⟩
theorem ev_isN {σ : L2.St} {H : Hp} {ta : TE} {x : V} (ha : Ev ta σ H x) : Ev (tOp rIsN ta (tC .non)) σ H (.bl (decide (x = .non))) := fun H1 e Q q => ha H1 e _ fun H2 e2 => ⟨rfl, q H2 e2⟩
theorem ev_notN {σ : L2.St} {H : Hp} {ta : TE} {x : V} (ha : Ev ta σ H x) : Ev (tOp rNotN ta (tC .non)) σ H (.bl (!decide (x = .non))) := fun H1 e Q q => ha H1 e _ fun H2 e2 => ⟨rfl, q H2 e2⟩
theorem ev_min2 {σ : L2.St} {H : Hp} {ta tb : TE} {i j : Int} (ha : Ev ta σ H (.int i)) (hb : Ev tb σ H (.int j)) :
    Ev (tCB (fun xs H Q => ∃ i j, xs = [.int i, .int j] ∧ Q (.int (if j < i then j else i)) H) (tCons ta (tCons tb tNil))) σ H (.int (if j < i then j else i)) :=
  ev_cb (ea_cons ha (ea_cons hb ea_nil)) fun H1 _ _ q => ⟨i, j, rfl, q H1 (Ex.refl H1)⟩
theorem ev_negI {σ : L2.St} {H : Hp} {ta : TE} {i : Int} (ha : Ev ta σ H (.int i)) : Ev (tUn (rU fun i => .int (-i)) ta) σ H (.int (-i)) := ev_un ha ru_neg
theorem ev_I0 {σ : L2.St} {H : Hp} {ta tb : TE} {g : Int → Int → V} {i j : Int} (ha : Ev ta σ H (.int i)) (hb : Ev tb σ H (.int j)) : Ev (tOp (rI0 g) ta tb) σ H (g i j) := ev_op ha hb rv_I0
theorem ev_I {σ : L2.St} {H : Hp} {ta tb : TE} {C : Int → Int → Prop} {g : Int → Int → V} {i j : Int} (ha : Ev ta σ H (.int i)) (hb : Ev tb σ H (.int j)) (hc : C i j) : Ev (tOp (rI C g) ta tb) σ H (g i j) := ev_op ha hb (rv_I hc)
theorem ev_eq {σ : L2.St} {H : Hp} {ta tb : TE} {x y : V} (ha : Ev ta σ H x) (hb : Ev tb σ H y) (hs : scal x y = true) : Ev (tOp rEq ta tb) σ H (.bl (decide (x = y))) := ev_op ha hb (rv_eq hs)
theorem ev_ne {σ : L2.St} {H : Hp} {ta tb : TE} {x y : V} (ha : Ev ta σ H x) (hb : Ev tb σ H y) (hs : scal x y = true) : Ev (tOp rNe ta tb) σ H (.bl (!decide (x = y))) := ev_op ha hb (rv_ne hs)
theorem et_B' {σ : L2.St} {H : Hp} {te : TE} {x : V} {b : Bool} (h : Ev te σ H x) (e : x = .bl b) : EvT (tB te) σ H b := et_B (e ▸ h)
theorem dec_lt {a b : Nat} : decide ((a : Int) < (b : Int)) = decide (a < b) := by
  by_cases h : a < b
  · rw [decide_eq_true h, decide_eq_true (by omega)]
  · rw [decide_eq_false h, decide_eq_false (by omega)]
theorem int_at {ns : List Int} {i : Nat} {x : V} (hx : (ns.map V.int)[i]? = some x) : ∃ n, ns[i]? = some n ∧ i < ns.length ∧ x = V.int n := by
  rw [List.getElem?_map] at hx
  cases en : ns[i]? with
  | none => rw [en] at hx; cases hx
  | some n => rw [en] at hx; exact ⟨n, rfl, (List.getElem?_eq_some_iff.mp en).1, (Option.some.inj hx).symm⟩
theorem at_int {ns : List Int} {i : Nat} {n : Int} (h : ns[i]? = some n) : (ns.map V.int)[i]? = some (V.int n) := by rw [List.getElem?_map, h]; rfl
local macro_rules | `(tactic| walk_at "side") => `(tactic| first
  | omega | (show CMul _ _; unfold CMul; omega) | (show CDiv _ _; unfold CDiv; omega) | (show CPow _ _; unfold CPow; omega) | (show (_ : Int) < _; omega) | (show (_ : Int) ≤ _; omega) | decide)
local macro_rules | `(tactic| walk_at "ev") => `(tactic| first
  | exact ev_var rfl
  | exact ev_c
  | (refine' ev_I0 ?h1 ?h2; (case h1 => walk_at "ev"); (case h2 => walk_at "ev"))
  | (refine' ev_negI ?h1; (case h1 => walk_at "ev"))
  | (refine' ev_I ?h1 ?h2 ?hc; (case h1 => walk_at "ev"); (case h2 => walk_at "ev"); (case hc => walk_at "side"))
  | (refine' ev_eq ?h1 ?h2 ?hc; (case h1 => walk_at "ev"); (case h2 => walk_at "ev"); (case hc => rfl))
  | (refine' ev_ne ?h1 ?h2 ?hc; (case h1 => walk_at "ev"); (case h2 => walk_at "ev"); (case hc => rfl))
  | (refine' ev_max2 ?h1 ?h2; (case h1 => walk_at "ev"); (case h2 => walk_at "ev"))
  | (refine' ev_min2 ?h1 ?h2; (case h1 => walk_at "ev"); (case h2 => walk_at "ev"))
  | (refine' ev_chain ?h1 ?h2 ?h3; (case h1 => walk_at "ev"); (case h2 => walk_at "ev"); (case h3 => walk_at "ev"))
  | (refine' ev_isN ?h1; (case h1 => walk_at "ev"))
  | (refine' ev_notN ?h1; (case h1 => walk_at "ev"))
  | (refine' ev_isiI ?h1; (case h1 => walk_at "ev"))
  | (refine' ev_isiB ?h1; (case h1 => walk_at "ev"))
  | (refine' ev_isiBB ?h1; (case h1 => walk_at "ev"))
  | (refine' ev_andV ?h1 (fun _ => ?h2); (case h1 => walk_at "ev"); (case h2 => walk_at "ev"))
  | (refine' ev_orV ?h1 (fun _ => ?h2); (case h1 => walk_at "ev"); (case h2 => walk_at "ev"))
  | (refine' ev_notV ?h1; (case h1 => walk_at "ev"))
  | walk_at "evmore")
local macro_rules | `(tactic| walk_at "et") => `(tactic| first
  | (refine' et_test ?h1; (case h1 => walk_at "ev"))
  | (refine' et_B ?h1; (case h1 => walk_at "ev"))
  | (refine' et_not ?h1; (case h1 => walk_at "et"))
  | (refine' et_and ?h1 (fun _ => ?h2); (case h1 => walk_at "et"); (case h2 => walk_at "et"))
  | (refine' et_or ?h1 (fun _ => ?h2); (case h1 => walk_at "et"); (case h2 => walk_at "et")))
local macro_rules | `(tactic| walk_at "ea") => `(tactic| first
  | exact ea_nil
  | (refine' ea_cons ?h1 ?h2; (case h1 => walk_at "ev"); (case h2 => walk_at "ea")))
local macro_rules | `(tactic| walk_at "when") => `(tactic| (refine' q_when ?h ?h1 ?h2; (case h => walk_at "et")))
local macro_rules | `(tactic| walk_at "whenS") => `(tactic| (refine' s_when ?h ?h1 ?h2; (case h => walk_at "et")))
local macro_rules | `(tactic| walk_at "if") => `(tactic| (refine' q_if ?h ?h1 ?h2; (case h => walk_at "et")))
local macro_rules | `(tactic| walk_at "ifS") => `(tactic| (refine' s_if ?h ?h1 ?h2; (case h => walk_at "et")))
local macro_rules | `(tactic| walk_at "ret") => `(tactic| (refine' s_ret ?h ?h1; (case h => walk_at "ev")))
local macro_rules | `(tactic| walk_at "asg") => `(tactic| (refine' q_asg ?h ?h1; (case h => walk_at "ev")))
local macro_rules | `(tactic| walk_at "asgS") => `(tactic| (refine' s_asg ?h ?h1; (case h => walk_at "ev")))

/-! ### lists, existing or new -/
def EvR (te : TE) (σ : L2.St) (H : Hp) (xs : List V) : Prop := ∀ H1, Ex H H1 → ∀ Q : VK, (∀ p H2, Ex H1 H2 → H2 p = some (.lst xs) → Q (.ref p) H2) → te σ H1 Q
def EvS (K : PySem.W.Frag) (te : TE) (σ : L2.St) (H : Hp) (xs : List V) : Prop := ∀ H1, Ex H H1 → ∀ Q : VK, (∀ p H2, Ex H1 H2 → SqL K H2 p xs → Q (.ref p) H2) → te σ H1 Q
section
variable {K : PySem.W.Frag} {σ : L2.St} {H H' : Hp} {ta tb te : TE} {xs ys : List V} {a : Addr}
theorem EvL.r (h : EvL te σ H xs) : EvR te σ H xs := fun H1 e Q q => h H1 e Q fun p H2 _ e2 h2 => q p H2 e2 h2
theorem Ev.r (h : Ev te σ H (.ref a)) (hx : H a = some (.lst xs)) : EvR te σ H xs := fun H1 e Q q => h H1 e Q fun H2 e2 => q a H2 e2 (e2 _ _ (e _ _ hx))
theorem EvR.s (h : EvR te σ H xs) : EvS K te σ H xs := fun H1 e Q q => h H1 e Q fun p H2 e2 h2 => q p H2 e2 (sq_of h2)
theorem Ev.s (h : Ev te σ H (.ref a)) (hx : SqL K H a xs) : EvS K te σ H xs := fun H1 e Q q => h H1 e Q fun H2 e2 => q a H2 e2 (ex_l e2 (ex_l e hx))
theorem EvR.mono (e : Ex H H') (h : EvR te σ H xs) : EvR te σ H' xs := fun H1 a Q q => h H1 (e.trans a) Q q
theorem EvS.mono (e : Ex H H') (h : EvS K te σ H xs) : EvS K te σ H' xs := fun H1 a Q q => h H1 (e.trans a) Q q
theorem EvL.is (h : EvL te σ H xs) (e : xs = ys) : EvL te σ H ys := e ▸ h
theorem EvR.is (h : EvR te σ H xs) (e : xs = ys) : EvR te σ H ys := e ▸ h
theorem el_cat (ha : EvR ta σ H xs) (hb : EvR tb σ H ys) (hl : xs.length + ys.length ≤ 100000) : EvL (tOp rCat ta tb) σ H (xs ++ ys) := fun H1 e Q q =>
  ha H1 e _ fun p H2 e2 h2 => hb H2 (e.trans e2) _ fun r H3 e3 h3 => ⟨p, r, xs, ys, rfl, rfl, e3 _ _ h2, h3, sz_of hl, fun l hl => q l _ (fresh_back (e2.trans e3) hl) ((e2.trans e3).trans (Ex.new hl)) upd_same⟩
theorem el_rep {k : Int} (ha : EvR ta σ H xs) (hb : Ev tb σ H (.int k)) (hk : -(2 ^ 63) ≤ k ∧ k < 2 ^ 63) (hl : xs.length * k.toNat ≤ 100000) : EvL (tOp rRep ta tb) σ H (List.replicate k.toNat xs).flatten := fun H1 e Q q =>
  ha H1 e _ fun p H2 e2 h2 => hb H2 (e.trans e2) _ fun H3 e3 => ⟨p, k, xs, rfl, rfl, e3 _ _ h2, hk.1, hk.2, sz_of hl, fun l hl => q l _ (fresh_back (e2.trans e3) hl) ((e2.trans e3).trans (Ex.new hl)) upd_same⟩
theorem rep_one {x : V} (n : Nat) : (List.replicate n [x]).flatten = List.replicate n x := by
  induction n with
  | zero => rfl
  | succ n ih => rw [List.replicate_succ, List.replicate_succ, List.flatten_cons, ih]; rfl
theorem el_of {te : TE} (h : EvS K te σ H xs) : EvL (tCB (rListS K) (tCons te tNil)) σ H xs := fun H1 e Q q =>
  h H1 e _ fun p H2 e2 h2 => ⟨p, xs, rfl, .inl h2, fun l hl => q l _ (fresh_back e2 hl) (e2.trans (Ex.new hl)) upd_same⟩
theorem ev_lenS (h : EvS K te σ H xs) : Ev (tCB (rLenS K) (tCons te tNil)) σ H (.int (xs.length : Int)) := fun H1 e Q q =>
  h H1 e _ fun p H2 e2 h2 => ⟨p, xs, rfl, .inl h2, q H2 e2⟩
theorem ev_sum {ns : List Int} (h : EvS K te σ H (ns.map V.int)) : Ev (tCB (rSum K) (tCons te tNil)) σ H (.int ns.sum) := fun H1 e Q q =>
  h H1 e _ fun p H2 e2 h2 => ⟨p, ns, rfl, h2, q H2 e2⟩
theorem dp_ints {K : PySem.W.Frag} {H : Hp} : ∀ ns : List Int, DpAll K H (ns.map V.int) (ns.map PyData.int)
  | [] => .nil
  | n :: r => .cons (.int n) (dp_ints r)
theorem eqv_ints : ∀ ns ms : List Int, PyData.eqvAll (ns.map PyData.int) (ms.map PyData.int) = decide (ns = ms)
  | [], [] => by simp [PyData.eqvAll]
  | [], _ :: _ => by simp [PyData.eqvAll]
  | _ :: _, [] => by simp [PyData.eqvAll]
  | n :: r, m :: t => by
    show (PyData.eqv (.int n) (.int m) && PyData.eqvAll (r.map PyData.int) (t.map PyData.int)) = _
    rw [eqv_ints r t]
    show ((n == m) && decide (r = t)) = _
    by_cases h1 : n = m <;> by_cases h2 : r = t <;> simp [h1, h2]
theorem canLay_ints : ∀ ns : List Int, PyData.canLayAll0 (ns.map PyData.int) = true
  | [] => by simp [PyData.canLayAll0]
  | n :: r => by
    show PyData.canLayAll0 (PyData.int n :: r.map PyData.int) = true
    rw [PyData.canLayAll0, canLay_ints r]
    simp [PyData.canLay0]
theorem depth_ints : ∀ ns : List Int, PyData.depthAll (ns.map PyData.int) ≤ 1
  | [] => by simp [PyData.depthAll]
  | n :: r => by
    show PyData.depthAll (PyData.int n :: r.map PyData.int) ≤ 1
    have := depth_ints r
    simp only [PyData.depthAll, PyData.depth]
    omega
theorem shaped_ints (ns : List Int) : SeqAt.shaped (.list (ns.map PyData.int)) = true := by
  unfold SeqAt.shaped
  have h1 := canLay_ints ns
  have h2 := depth_ints ns
  have h3 : PyData.depth (.list (ns.map PyData.int)) ≤ 64 := by
    rw [PyData.depth]
    omega
  rw [decide_eq_true h3, Bool.and_true]
  simpa only [PyData.canLay0] using h1
theorem ev_eqI {ns ms : List Int} (ha : EvS K ta σ H (ns.map V.int)) (hb : EvS K tb σ H (ms.map V.int)) : Ev (tOp (rEqD K) ta tb) σ H (.bl (decide (ns = ms))) := fun H1 e Q q =>
  ha H1 e _ fun p H2 e2 h2 => hb H2 (e.trans e2) _ fun r H3 e3 h3 => ⟨.list (ns.map PyData.int), .list (ms.map PyData.int), .lst (ex_l e3 h2) (dp_ints ns), .lst h3 (dp_ints ms), shaped_ints ns, shaped_ints ms, by
    show Q (.bl (PyData.eqvAll (ns.map PyData.int) (ms.map PyData.int))) H3
    rw [eqv_ints]
    exact q H3 (e2.trans e3)⟩
theorem ev_neI {ns ms : List Int} (ha : EvS K ta σ H (ns.map V.int)) (hb : EvS K tb σ H (ms.map V.int)) : Ev (tOp (rNeD K) ta tb) σ H (.bl (!decide (ns = ms))) := fun H1 e Q q =>
  ha H1 e _ fun p H2 e2 h2 => hb H2 (e.trans e2) _ fun r H3 e3 h3 => ⟨.list (ns.map PyData.int), .list (ms.map PyData.int), .lst (ex_l e3 h2) (dp_ints ns), .lst h3 (dp_ints ms), shaped_ints ns, shaped_ints ms, by
    show Q (.bl (!PyData.eqvAll (ns.map PyData.int) (ms.map PyData.int))) H3
    rw [eqv_ints]
    exact q H3 (e2.trans e3)⟩
theorem ev_ixS {i : Nat} {n : Int} {tl ti : TE} {v : V} (h : EvS K tl σ H xs) (hi : Ev ti σ H (.int n)) (ha : atI xs n = some v) : Ev (tOp (rIxL K) tl ti) σ H v := fun H1 e Q q =>
  h H1 e _ fun p H2 e2 h2 => hi H2 (e.trans e2) _ fun H3 e3 => ⟨p, xs, n, v, rfl, rfl, ex_l e3 h2, ha, q H3 (e2.trans e3)⟩
theorem el_slS {tl th : TO} {lo hi : Option Int} (h : EvS K te σ H xs) (h1 : EvO tl σ H lo) (h2 : EvO th σ H hi) : EvL (tSl (rSlL K) te tl th) σ H (cutV xs lo hi) := fun H1 e _ q =>
  h H1 e _ fun a H2 e2 hs => h1 H2 (e.trans e2) _ fun H3 e3 => h2 H3 ((e.trans e2).trans e3) _ fun H4 e4 =>
    ⟨a, xs, rfl, ex_l (e3.trans e4) hs, fun p hp => q p _ (fresh_back ((e2.trans e3).trans e4) hp) (((e2.trans e3).trans e4).trans (Ex.new hp)) upd_same⟩
theorem ev_at {n : Int} {tl ti : TE} {v : V} (h : EvS K tl σ H xs) (hi : Ev ti σ H (.int n)) (ha : atI xs n = some v) : Ev (tOp (rIxL K) tl ti) σ H v := ev_ixS (i := 0) h hi ha
theorem cut_to (xs : List V) (i : Nat) : cutV xs none (some (i : Int)) = xs.take i := by
  unfold cutV
  rw [HT.sIx_none, HT.sIx_nat, List.drop_zero, Nat.sub_zero]
  by_cases h : i ≤ xs.length
  · rw [Nat.min_eq_left h]
  · rw [Nat.min_eq_right (by omega), List.take_of_length_le (Nat.le_refl _), List.take_of_length_le (by omega)]
theorem cut_from (xs : List V) (i : Nat) : cutV xs (some (i : Int)) none = xs.drop i := by
  unfold cutV
  rw [HT.sIx_none, HT.sIx_nat]
  by_cases h : i ≤ xs.length
  · rw [Nat.min_eq_left h, List.take_of_length_le (by rw [List.length_drop]; omega)]
  · rw [Nat.min_eq_right (by omega), List.drop_of_length_le (Nat.le_refl _), List.drop_of_length_le (show xs.length ≤ i by omega), List.take_nil]
theorem cut_mid (xs : List V) (i j : Nat) : cutV xs (some (i : Int)) (some (j : Int)) = (xs.drop i).take (j - i) := by
  unfold cutV
  rw [HT.sIx_nat, HT.sIx_nat]
  by_cases h : i ≤ xs.length
  · rw [Nat.min_eq_left h]
    by_cases h2 : j ≤ xs.length
    · rw [Nat.min_eq_left h2]
    · rw [Nat.min_eq_right (by omega), List.take_of_length_le (by rw [List.length_drop]; omega), List.take_of_length_le (by rw [List.length_drop]; omega)]
  · rw [Nat.min_eq_right (by omega : xs.length ≤ i), List.drop_of_length_le (Nat.le_refl _), List.drop_of_length_le (show xs.length ≤ i by omega)]
    simp
theorem el_to {th : TE} {ns : List Int} {i : Nat} (h : EvS K te σ H (ns.map V.int)) (h2 : Ev th σ H (.int i)) : EvL (tSl (rSlL K) te tNoPart (tPart th)) σ H ((ns.take i).map V.int) :=
  EvL.is (el_slS h eo_none (eo_some h2)) (by rw [List.map_take]; exact cut_to _ i)
theorem el_from {th : TE} {ns : List Int} {i : Nat} (h : EvS K te σ H (ns.map V.int)) (h2 : Ev th σ H (.int i)) : EvL (tSl (rSlL K) te (tPart th) tNoPart) σ H ((ns.drop i).map V.int) :=
  EvL.is (el_slS h (eo_some h2) eo_none) (by rw [List.map_drop]; exact cut_from _ i)
theorem el_mid {t1 t2 : TE} {ns : List Int} {i j : Nat} (h : EvS K te σ H (ns.map V.int)) (h1 : Ev t1 σ H (.int i)) (h2 : Ev t2 σ H (.int j)) : EvL (tSl (rSlL K) te (tPart t1) (tPart t2)) σ H (((ns.drop i).take (j - i)).map V.int) :=
  EvL.is (el_slS h (eo_some h1) (eo_some h2)) (by rw [List.map_take, List.map_drop]; exact cut_mid _ i j)
section
variable {D : Ends} {tz : TS} {sp : Sp} {dvs vs : List V} {E : XK} {tA : TA}
/-- x = f(..), whatever f promises -/
theorem q_asgC {i : Nat} (h : EvA tA σ H vs) (k : ∀ H1, Ex H H1 → sp (vs ++ dvs) H1 (fun x H2 => tz D (σ.set i (some x)) H2) E) : tSeq (tAsg (tCall sp dvs E tA) (gName i)) tz D σ H := h H (Ex.refl H) _ fun H1 e => k H1 e
theorem s_asgC {i : Nat} (h : EvA tA σ H vs) (k : ∀ H1, Ex H H1 → sp (vs ++ dvs) H1 (fun x H2 => D.nx (σ.set i (some x)) H2) E) : tAsg (tCall sp dvs E tA) (gName i) D σ H := h H (Ex.refl H) _ fun H1 e => k H1 e
theorem q_dropC (h : EvA tA σ H vs) (k : ∀ H1, Ex H H1 → sp (vs ++ dvs) H1 (fun _ H2 => tz D σ H2) E) : tSeq (tDrop (tCall sp dvs E tA)) tz D σ H := h H (Ex.refl H) _ fun H1 e => k H1 e
theorem s_retC (h : EvA tA σ H vs) (k : ∀ H1, Ex H H1 → sp (vs ++ dvs) H1 D.rt E) : tRet (tCall sp dvs E tA) D σ H := h H (Ex.refl H) _ fun H1 e => k H1 e
end
theorem gl_get {ns : List Int} {i : Nat} (h : i < ns.length) : ns[i]? = some (ns.getD i 0) := by
  rw [List.getD_eq_getElem?_getD, List.getElem?_eq_getElem h]
  rfl
theorem q_asgRaw {te : TE} {i : Nat} {D : Ends} {tz : TS} (P : V → Hp → Prop) (h : ∀ Q : VK, (∀ x H2, P x H2 → Q x H2) → te σ H Q) (k : ∀ x H2, P x H2 → tz D (σ.set i (some x)) H2) : tSeq (tAsg te (gName i)) tz D σ H := h _ k
/-- a, b = a pair -/
theorem q_asgT {te : TE} {i j : Nat} {D : Ends} {tz : TS} (P : V → V → Hp → Prop) (h : ∀ Q : VK, (∀ t x y H2, P x y H2 → SqT K H2 t [x, y] → Q (.ref t) H2) → te σ H Q) (k : ∀ x y H2, P x y H2 → tz D ((σ.set i (some x)).set j (some y)) H2) :
    tSeq (tAsg te (gTup K 2 (gCons (gName i) (gCons (gName j) gNil)))) tz D σ H := h _ fun t x y H2 hP hT => ⟨t, [x, y], rfl, hT, rfl, x, [y], rfl, y, [], rfl, rfl, k x y H2 hP⟩
/-- the law's cell -/
def cellI (ns : List Int) (k : Int) : Int := ns.getD k.toNat 0
theorem cellI_in {ns : List Int} {k : Int} (h0 : 0 ≤ k) (h : k < ns.length) : ns[k.toNat]? = some (cellI ns k) := by
  unfold cellI
  rw [List.getD_eq_getElem?_getD, List.getElem?_eq_getElem (by omega)]
  rfl
theorem cellI_out {ns : List Int} {k : Int} (h : ¬ k < ns.length) : cellI ns k = 0 := by
  unfold cellI
  rw [List.getD_eq_getElem?_getD, List.getElem?_eq_none (by omega)]
  rfl
end
theorem Ex.get {H H' : Hp} {a : Addr} {o : HO} (e : Ex H H') (h : H a = some o) : H' a = some o := e a o h
local macro_rules | `(tactic| walk_at "hp") => `(tactic| first
  | assumption
  | exact upd_same
  | (refine' Ex.get (by assumption) ?h1; (case h1 => walk_at "hp")))
local macro_rules | `(tactic| walk_at "ex") => `(tactic| first
  | assumption
  | exact Ex.refl _
  | (refine' Ex.trans ?h1 (by assumption); (case h1 => walk_at "ex")))
local macro_rules | `(tactic| walk_at "sq") => `(tactic| first
  | assumption
  | (refine' sq_of ?h1; (case h1 => walk_at "hp"))
  | (refine' ex_l (by assumption) ?h1; (case h1 => walk_at "sq")))
local macro_rules | `(tactic| walk_at "evs") => `(tactic| first
  | (refine' Ev.s ?h1 ?h2; (case h1 => exact ev_var rfl); (case h2 => walk_at "sq"))
  | (refine' EvR.s ?h1; (case h1 => walk_at "evr")))
local macro_rules | `(tactic| walk_at "evr") => `(tactic| first
  | (refine' Ev.r ?h1 ?h2; (case h1 => exact ev_var rfl); (case h2 => walk_at "hp"))
  | (refine' EvL.r ?h1; (case h1 => walk_at "el")))
local macro_rules | `(tactic| walk_at "eo") => `(tactic| first
  | exact eo_none
  | (refine' eo_some ?h1; (case h1 => walk_at "ev")))
local macro_rules | `(tactic| walk_at "el") => `(tactic| first
  | (refine' el_lst ?h1 ?h2; (case h1 => walk_at "ea"); (case h2 => exact Nat.le_of_ble_eq_true rfl))
  | (refine' el_cat ?h1 ?h2 ?h3; (case h1 => walk_at "evr"); (case h2 => walk_at "evr"); (case h3 => walk_at "len"))
  | (refine' el_rep ?h1 ?h2 ?h3 ?h4; (case h1 => walk_at "evr"); (case h2 => walk_at "ev"); (case h3 => walk_at "side2"); (case h4 => walk_at "len"))
  | (refine' el_of ?h1; (case h1 => walk_at "evs"))
  | (refine' el_to ?h1 ?h2; (case h1 => walk_at "evs"); (case h2 => walk_at "ev"))
  | (refine' el_from ?h1 ?h2; (case h1 => walk_at "evs"); (case h2 => walk_at "ev"))
  | (refine' el_mid ?h1 ?h2 ?h3; (case h1 => walk_at "evs"); (case h2 => walk_at "ev"); (case h3 => walk_at "ev"))
  | (refine' el_slS ?h1 ?h2 ?h3; (case h1 => walk_at "evs"); (case h2 => walk_at "eo"); (case h3 => walk_at "eo"))
  | walk_at "elmore")
local macro_rules | `(tactic| walk_at "evmore") => `(tactic| first
  | (refine' ev_lenS ?h1; (case h1 => walk_at "evs"))
  | (refine' ev_sum ?h1; (case h1 => walk_at "evs"))
  | (refine' ev_eqI ?h1 ?h2; (case h1 => walk_at "evs"); (case h2 => walk_at "evs"))
  | (refine' ev_neI ?h1 ?h2; (case h1 => walk_at "evs"); (case h2 => walk_at "evs"))
  | (refine' ev_at ?h1 ?h2 ?h3; (case h1 => walk_at "evs"); (case h2 => walk_at "ev"); (case h3 => walk_at "at"))
  | (refine' ev_isiL ?h1 ?h2; (case h1 => walk_at "ev"); (case h2 => walk_at "hp"))
  | walk_at "evown")
local macro_rules | `(tactic| walk_at "at") => `(tactic| first
  | exact at_of rfl (at_int (by assumption))
  | exact at_of rfl (by assumption))
local macro_rules | `(tactic| walk_at "asgL") => `(tactic| (refine' q_asgL ?h ?h1; (case h => walk_at "el")))
local macro_rules | `(tactic| walk_at "retL") => `(tactic| (refine' s_retL ?h ?h1; (case h => walk_at "el")))

/-- a walk's reading said in other words -/
theorem PI.k {X : Cx} {tg e : Expr} {wi wi' : TI} (h : PI X tg e wi) (q : wi = wi') : PI X tg e wi' := q ▸ h
/-! ### comprehensions whose items are said in a list -/
theorem et_yes {σ : L2.St} {H : Hp} : EvT tYes σ H true := fun H1 _ _ q => q H1 (Ex.refl H1)
section
variable {K : PySem.W.Frag} {σ : L2.St} {H : Hp} {t1 t2 te : TE} {xs ys zs : List V} {vs : List Nat}
theorem take_snoc {zs : List V} {i : Nat} {z : V} (h : zs[i]? = some z) : zs.take (i + 1) = zs.take i ++ [z] := by
  rw [List.take_add_one, h]
  rfl
theorem el_lcZ {j1 j2 : Nat} (zs : List V) (h1 : EvS K t1 σ H xs) (h2 : EvS K t2 σ H ys) (hz : zs.length = min xs.length ys.length) (hb : zs.length ≤ 50000)
    (hw : ∀ x y, wipe (((wipe σ vs).set j1 (some x)).set j2 (some y)) vs = wipe σ vs)
    (he : ∀ (i : Nat) (x y : V) H1, Ex H H1 → xs[i]? = some x → ys[i]? = some y → ∃ z, zs[i]? = some z ∧ Ev te (((wipe σ vs).set j1 (some x)).set j2 (some y)) H1 z) :
    EvL (tLc (iZip K (tCons t1 (tCons t2 tNil))) (gTup K 2 (gCons (gName j1) (gCons (gName j2) gNil))) tYes te vs) σ H zs := fun H0 e Q q =>
  h1 H0 e _ fun p H1 e1 hp => h2 H1 (e.trans e1) _ fun r H2 e2 hr => ⟨p, r, xs, ys, rfl, ex_l e2 hp, hr, fun D hD =>
    ⟨fun i m H' => m = zs.length - i ∧ i ≤ zs.length ∧ Ex H2 H' ∧ H' D = some (.lst (zs.take i)), ⟨zs.length, rfl, Nat.zero_le _, Ex.new hD, upd_same⟩, by
      rintro i m H' ⟨rfl, hi, ex, hd⟩
      have qx : SqL K H' p xs := ex_l (e2.trans ex) hp
      have qy : SqL K H' r ys := ex_l ex hr
      by_cases hlt : i < zs.length
      · have hx : xs[i]? = some xs[i] := List.getElem?_eq_getElem (by omega)
        have hy : ys[i]? = some ys[i] := List.getElem?_eq_getElem (by omega)
        refine .inr ⟨⟨xs, ys, _, _, qx, qy, hx, hy⟩, fun H3 => i + 1 ≤ zs.length ∧ Ex H2 H3 ∧ H3 D = some (.lst (zs.take (i + 1))), fun H3 h3 => ⟨zs.length - (i + 1), by omega, rfl, h3⟩, fun v H3 hv => ?_⟩
        obtain ⟨T, x, y, rfl, hT, rfl, f1, f2⟩ := hv
        have ex3 : Ex H' (upd H' T (.tup [x, y])) := Ex.new hT
        obtain ⟨z, hz1, hz2⟩ := he i x y (upd H' T (.tup [x, y])) ((((e.trans e1).trans e2).trans ex).trans ex3) (f1 _ qx) (f2 _ qy)
        refine ⟨T, [x, y], rfl, st_of upd_same, rfl, x, [y], rfl, y, [], rfl, rfl, hw x y, ?_⟩
        refine hz2 _ (Ex.refl _) _ fun H4 e4 => ⟨zs.take i, e4 _ _ (ex3 _ _ hd), sz_lt (by rw [List.length_take]; omega), hlt, ?_, ?_⟩
        · exact Ex.mut ((ex.trans ex3).trans e4) hD
        · rw [upd_same, take_snoc hz1]
      · have ei : i = zs.length := by omega
        refine .inl ⟨⟨xs, ys, qx, qy, by omega⟩, ?_⟩
        rw [ei, List.take_length] at hd
        exact q D H' (fresh_back (e1.trans e2) hD) ((e1.trans e2).trans ex) hd⟩⟩
/-- over a list, each item kept -/
theorem el_lcS {j : Nat} (zs : List V) (h1 : EvS K t1 σ H xs) (hz : zs.length = xs.length) (hb : zs.length ≤ 50000) (hw : ∀ x, wipe ((wipe σ vs).set j (some x)) vs = wipe σ vs)
    (he : ∀ (i : Nat) (x : V) H1, Ex H H1 → xs[i]? = some x → ∃ z, zs[i]? = some z ∧ Ev te ((wipe σ vs).set j (some x)) H1 z) :
    EvL (tLc (iList K t1) (gName j) tYes te vs) σ H zs := fun H0 e Q q =>
  h1 H0 e _ fun p H1 e1 hp => ⟨p, rfl, ⟨xs, hp⟩, fun D hD => lc_list (xs := xs) (fun i H' => Ex H1 H' ∧ H' D = some (.lst (zs.take i))) ⟨Ex.new hD, upd_same⟩ (fun i H' _ h => ex_l h.1 hp)
    (fun i x H' hi h => ⟨hw x, by
      obtain ⟨z, hz1, hz2⟩ := he i x H' ((e.trans e1).trans h.1) hi
      have hl : i < xs.length := (List.getElem?_eq_some_iff.mp hi).1
      refine hz2 H' (Ex.refl _) _ fun H4 e4 => ⟨zs.take i, e4 _ _ h.2, sz_lt (by rw [List.length_take]; omega), Ex.mut (h.1.trans e4) hD, ?_⟩
      rw [upd_same, take_snoc hz1]⟩)
    (fun H' h => q D H' (fresh_back e1 hD) (e1.trans h.1) (by rw [h.2, ← hz, List.take_length]))⟩
/-- over range(n) -/
theorem el_lcR {ta : TA} {n : Int} {j : Nat} (zs : List V) (h1 : EvA ta σ H [.int n]) (hn : -100000 ≤ n) (hz : zs.length = n.toNat) (hb : zs.length ≤ 50000) (hw : ∀ x, wipe ((wipe σ vs).set j (some x)) vs = wipe σ vs)
    (he : ∀ (i : Nat) H1, Ex H H1 → i < zs.length → ∃ z, zs[i]? = some z ∧ Ev te ((wipe σ vs).set j (some (.int (i : Int)))) H1 z) :
    EvL (tLc (iRng1 ta) (gName j) tYes te vs) σ H zs := fun H0 e Q q =>
  h1 H0 e _ fun H1 e1 => ⟨n, rfl, by omega, by omega, fun D hD => lc_range (lo := 0) (n := n.toNat) (fun i H' => Ex H1 H' ∧ H' D = some (.lst (zs.take i))) ⟨Ex.new hD, upd_same⟩
    (fun i H' hi h => by
      have e0 : (0 : Int) + (i : Int) = (i : Int) := Int.zero_add _
      rw [e0]
      obtain ⟨z, hz1, hz2⟩ := he i H' ((e.trans e1).trans h.1) (by omega)
      refine ⟨hw _, hz2 H' (Ex.refl _) _ fun H4 e4 => ⟨zs.take i, e4 _ _ h.2, sz_lt (by rw [List.length_take]; omega), Ex.mut (h.1.trans e4) hD, ?_⟩⟩
      rw [upd_same, take_snoc hz1])
    (fun H' h => q D H' (fresh_back e1 hD) (e1.trans h.1) (by rw [h.2, show n.toNat = zs.length by omega, List.take_length]))⟩
/-- y = [.. for x in f(..)], whatever f promises -/
theorem s_asgLC {sp : Sp} {dvs args : List V} {E : XK} {ta : TA} {g : TG} {tt : TT} {D : Ends} {i : Nat} (h : EvA ta σ H args) (k : ∀ H1, Ex H H1 → sp (args ++ dvs) H1 (fun x H2 => tAsg (tLc (iList K (tC x)) g tt te vs) (gName i) D σ H2) E) :
    tAsg (tLc (iList K (tCall sp dvs E ta)) g tt te vs) (gName i) D σ H := h H (Ex.refl H) _ fun H1 e => k H1 e
theorem q_asgLC {sp : Sp} {dvs args : List V} {E : XK} {ta : TA} {g : TG} {tt : TT} {D : Ends} {i : Nat} {tz : TS} (h : EvA ta σ H args) (k : ∀ H1, Ex H H1 → sp (args ++ dvs) H1 (fun x H2 => tSeq (tAsg (tLc (iList K (tC x)) g tt te vs) (gName i)) tz D σ H2) E) :
    tSeq (tAsg (tLc (iList K (tCall sp dvs E ta)) g tt te vs) (gName i)) tz D σ H := h H (Ex.refl H) _ fun H1 e => k H1 e
end

/-! ### calls with keywords, defaults -/
theorem kwAll1 {K : PySem.W.Frag} {D : Addr} {q : Str × V} (h : ∃ u, PySem.W.nsIn K D q.1 = some (some u) ∧ RelV q.2 u) : ∀ p ∈ [q], ∃ u, PySem.W.nsIn K D p.1 = some (some u) ∧ RelV p.2 u := fun p hp => by
  rcases List.mem_cons.mp hp with rfl | hp
  · exact h
  · cases hp
section
variable {K : PySem.W.Frag} {x qual : Str} {params : Arguments} {body : List Stmt} {scope : Scope} {dvs : List V} {kws : List (Str × V)} {f : Addr} {fd : FuncData} {ps : List Str}
/-- f(a, .., k = v, ..), nothing left to a default, no defaults of place -/
theorem fund_kb0 {g : List Value → List Value → List Value} {gV : List V → List V → List V} (F : FunD K x qual params body scope [] kws f fd) (n : Nat) (ks : List Str)
    (hrel : ∀ {vs : List V} {us : List Value} {zs : List V} {ws : List Value}, Vals vs us → Vals zs ws → Vals (gV vs zs) (g us ws))
    (h : ∀ (kV doc pm : Value) (an : Option Addr) (cdv ct : Value) (us ws : List Value), us.length = n → ws.length = ks.length → bindArgs (PySem.W.fnOf x qual params body scope .none kV doc pm an cdv ct) ⟨us, ks.zip ws⟩ = pure (ps.zip (g us ws))) :
    KBn K fd ps n ks g gV := by
  obtain ⟨oc, od, dV, kV, doc, pm, an, cdv, ct, osl, rfl, lk, hcd, hD, hK⟩ := F.ex
  rcases hD with ⟨_, rfl⟩ | ⟨e, _⟩
  · exact ⟨fun s us ws X l1 l2 => .of_eq (h kV doc pm an cdv ct us ws l1 l2), hrel⟩
  · exact absurd rfl e
/-- the same of a def with defaults of place -/
theorem fund_kb1 {g : List Value → List Value → List Value} {gV : List V → List V → List V} (F : FunD K x qual params body scope dvs kws f fd) (hd : dvs ≠ []) (n : Nat) (ks : List Str)
    (hrel : ∀ {vs : List V} {us : List Value} {zs : List V} {ws : List Value}, Vals vs us → Vals zs ws → Vals (gV vs zs) (g us ws))
    (h : ∀ (T : Addr) (kV doc pm : Value) (an : Option Addr) (cdv ct : Value) (us its ws : List Value), us.length = n → its.length = dvs.length → ws.length = ks.length →
      ∃ k, bindArgs (PySem.W.fnOf x qual params body scope (.ref T) kV doc pm an cdv ct) ⟨us, ks.zip ws⟩ = seqItems? (.ref T) >>= k ∧ k (some its.toArray) = pure (ps.zip (g us ws))) :
    KBn K fd ps n ks g gV := by
  obtain ⟨oc, od, dV, kV, doc, pm, an, cdv, ct, osl, rfl, lk, hcd, hD, hK⟩ := F.ex
  rcases hD with ⟨e, _⟩ | ⟨_, T, o, its, m, rfl, lT, oT, rT⟩
  · exact absurd e hd
  · refine ⟨fun s us ws X l1 l2 => ?_, hrel⟩
    obtain ⟨k, e1, e2⟩ := h T kV doc pm an cdv ct us its ws l1 rT.length.symm l2
    refine BindsTo.of_looks fun M => ?_
    rw [e1]
    exact looks_items X lT oT (.of_pure e2)
end

/-! ### data at any depth -/
mutual
theorem dp_ex {K : PySem.W.Frag} {H H' : Hp} (e : Ex H H') : ∀ (d : PyData) (v : V), Dp K H v d → Dp K H' v d
  | .none, _, h => by cases h; exact .non
  | .bool b, _, h => by cases h; exact .bl b
  | .int i, _, h => by cases h; exact .int i
  | .str x, _, h => by cases h; exact .str x
  | .list ds, _, h => by cases h with | lst hs ha => exact .lst (ex_l e hs) (dpa_ex e ds _ ha)
  | .tuple ds, _, h => by cases h with | tup hs ha => exact .tup (ex_t e hs) (dpa_ex e ds _ ha)
  | .dict _, _, h => by cases h
theorem dpa_ex {K : PySem.W.Frag} {H H' : Hp} (e : Ex H H') : ∀ (ds : List PyData) (vs : List V), DpAll K H vs ds → DpAll K H' vs ds
  | [], _, h => by cases h; exact .nil
  | d :: ds, _, h => by cases h with | cons h1 h2 => exact .cons (dp_ex e d _ h1) (dpa_ex e ds _ h2)
end
def EvD (K : PySem.W.Frag) (te : TE) (σ : L2.St) (H : Hp) (d : PyData) : Prop := ∀ H1, Ex H H1 → ∀ Q : VK, (∀ v H2, Ex H1 H2 → Dp K H2 v d → Q v H2) → te σ H1 Q
section
variable {K : PySem.W.Frag} {σ : L2.St} {H : Hp} {te ta tb t1 t2 t3 : TE} {d d1 d2 d3 : PyData} {v : V}
theorem EvD.of (h : Ev te σ H v) (hd : Dp K H v d) : EvD K te σ H d := fun H1 e Q q => h H1 e _ fun H2 e2 => q v H2 e2 (dp_ex (e.trans e2) d v hd)
theorem EvS.toD {ns : List Int} (h : EvS K te σ H (ns.map V.int)) : EvD K te σ H (.list (ns.map .int)) := fun H1 e Q q => h H1 e _ fun p H2 e2 hp => q (.ref p) H2 e2 (.lst hp (dp_ints ns))
theorem ed_tup2 (h1 : EvD K t1 σ H d1) (h2 : EvD K t2 σ H d2) : EvD K (tTup (tCons t1 (tCons t2 tNil))) σ H (.tuple [d1, d2]) := fun H1 e Q q => h1 H1 e _ fun v H2 e2 hv => h2 H2 (e.trans e2) _ fun u H3 e3 hu =>
  ⟨sz_of (show 2 ≤ 100000 by decide), fun p hp => q (.ref p) _ ((e2.trans e3).trans (Ex.new hp)) (.tup (st_of upd_same) (.cons (dp_ex (e3.trans (Ex.new hp)) _ _ hv) (.cons (dp_ex (Ex.new hp) _ _ hu) .nil)))⟩
theorem ev_eqDD (h1 : EvD K ta σ H d) (h2 : EvD K tb σ H d) (hs : SeqAt.shaped d = true) : Ev (tOp (rEqD K) ta tb) σ H (.bl true) := fun H1 e Q q => h1 H1 e _ fun v H2 e2 hv => h2 H2 (e.trans e2) _ fun u H3 e3 hu =>
  ⟨d, d, dp_ex e3 d v hv, hu, hs, hs, by rw [SeqAt.eqv_refl d (SeqAt.canLay_of_shaped hs)]; exact q H3 (e2.trans e3)⟩
theorem ev_neDD (h1 : EvD K ta σ H d) (h2 : EvD K tb σ H d) (hs : SeqAt.shaped d = true) : Ev (tOp (rNeD K) ta tb) σ H (.bl false) := fun H1 e Q q => h1 H1 e _ fun v H2 e2 hv => h2 H2 (e.trans e2) _ fun u H3 e3 hu =>
  ⟨d, d, dp_ex e3 d v hv, hu, hs, hs, by rw [SeqAt.eqv_refl d (SeqAt.canLay_of_shaped hs)]; exact q H3 (e2.trans e3)⟩
end
theorem shaped_pair (ns ms : List Int) : SeqAt.shaped (.tuple [.list (ns.map .int), .list (ms.map .int)]) = true := by
  unfold SeqAt.shaped
  have h1 := canLay_ints ns
  have h2 := depth_ints ns
  have h3 := canLay_ints ms
  have h4 := depth_ints ms
  rw [Bool.and_eq_true, decide_eq_true_iff]
  refine ⟨by simp only [PyData.canLay0, PyData.canLayAll0, h1, h3, Bool.and_self], ?_⟩
  simp only [PyData.depth, PyData.depthAll]
  omega

/-! ### max(xs, default=d), bit_length -/
def maxI (d : Int) : List Int → Int
  | [] => d
  | n :: r => r.foldl max n
def rMaxDef (K : PySem.W.Frag) : List V → List V → Hp → VK → Prop := fun vs zs H Q => ∃ (a : Addr) (ns : List Int) (d : Int), vs = [.ref a] ∧ zs = [.int d] ∧ SqL K H a (ns.map V.int) ∧ Q (.int (maxI d ns)) H
theorem alike_ints (ns : List Int) : PySem.W.AlikeAll (ns.map PyData.int) := by
  refine ⟨fun x hx y hy => ?_, fun x hx => ?_⟩
  · obtain ⟨n, _, rfl⟩ := List.mem_map.mp hx
    obtain ⟨m, _, rfl⟩ := List.mem_map.mp hy
    rfl
  · obtain ⟨n, _, rfl⟩ := List.mem_map.mp hx
    intro h
    cases h
theorem cr_maxDef {X : Cx} (hu : X.A.units + 64 < cLine) (hc : X.calm = true := by rfl) : CallRK X (.builtin "max") [Str.ofString "default"] (rMaxDef X.K) := by
  intro pins s σ H vs zs us ws Q I r rz h
  obtain ⟨a, ns, d, rfl, rfl, hs, q⟩ := h
  obtain rfl := Vals.ref1 r
  obtain ⟨w1, rfl, e1⟩ := vals1 rz
  obtain ⟨its, rv, hl, _⟩ := I.list hs
  obtain ⟨as, hr⟩ := Dp.readsAll I (ns.map PyData.int) _ its (dp_ints ns) rv
  have hd := depth_ints ns
  refine PySem.W.max_list_default (xs := ns.map PyData.int) (I.ok.hd hc) hl.isList (by simpa using hr) (alike_ints ns) (by omega) (fun h0 h' tk hk => ?_) fun y ys i v h' tk bs he hv hrd hk => ?_
  · cases ns with
    | nil => exact ⟨.int d, H, I.kept hk, e1, q⟩
    | cons x r => cases h0
  · cases ns with
    | nil => cases he
    | cons x r =>
      injection he with h1 h2
      subst h1 h2
      rw [PySem.W.maxD_ints] at hrd
      cases hrd
      exact ⟨.int _, H, I.kept hk, ⟨_, rfl⟩, q⟩
theorem ev_maxD {K : PySem.W.Frag} {σ : L2.St} {H : Hp} {t td : TE} {ns : List Int} {d : Int} (h : EvS K t σ H (ns.map V.int)) (hd : Ev td σ H (.int d)) : Ev (tCKw (rMaxDef K) (tCons t tNil) (tCons td tNil)) σ H (.int (maxI d ns)) := fun H1 e Q q =>
  h H1 e _ fun p H2 e2 hp => hd H2 (e.trans e2) _ fun H3 e3 => ⟨p, ns, d, rfl, rfl, ex_l e3 hp, q H3 (e2.trans e3)⟩
theorem ev_bits {σ : L2.St} {H : Hp} {to : TE} {i : Int} (h : Ev to σ H (.int i)) : Ev (tBits to) σ H (.int ((Builtin.Int.intBits i : Nat) : Int)) := fun H1 e Q q => h H1 e _ fun H2 e2 => ⟨i, rfl, q H2 e2⟩

theorem foldl_max : ∀ (ns : List Int) (d : Int), (ns.foldl max d = d ∨ ns.foldl max d ∈ ns) ∧ d ≤ ns.foldl max d ∧ ∀ n ∈ ns, n ≤ ns.foldl max d
  | [], d => ⟨.inl rfl, Int.le_refl _, fun n hn => by cases hn⟩
  | x :: r, d => by
    obtain ⟨h1, h2, h3⟩ := foldl_max r (max d x)
    show (r.foldl max (max d x) = d ∨ r.foldl max (max d x) ∈ x :: r) ∧ d ≤ r.foldl max (max d x) ∧ ∀ n ∈ x :: r, n ≤ r.foldl max (max d x)
    refine ⟨?_, by omega, fun n hn => ?_⟩
    · rcases h1 with h | h
      · rw [h]
        by_cases hd : d ≤ x
        · exact .inr (by rw [Int.max_eq_right hd]; exact List.mem_cons_self ..)
        · exact .inl (by omega)
      · exact .inr (List.mem_cons_of_mem _ h)
    · rcases List.mem_cons.mp hn with rfl | hn
      · omega
      · exact h3 n hn

/-- what the top has left -/
structure TX (K : PySem.W.Frag) (mg : Str → Option Value) where
  a_quantize : Addr
  d_quantize : FuncData
  F_quantize : Fun K "quantize" "quantize" s_quantize a_quantize d_quantize
  b_quantize : Binds K d_quantize ["numerators", "denominator", "precision"] []
  g_quantize : mg "quantize" = some (.ref a_quantize)
  a_rounded : Addr
  d_rounded : FuncData
  F_rounded : Fun K "_rounded" "_rounded" s_rounded a_rounded d_rounded
  b_rounded : Binds K d_rounded ["a", "b"] []
  g_rounded : mg "_rounded" = some (.ref a_rounded)
  a_law_cell : Addr
  d_law_cell : FuncData
  F_law_cell : Fun K "_law_cell" "_law_cell" s_law_cell a_law_cell d_law_cell
  b_law_cell : Binds K d_law_cell ["script", "k"] []
  g_law_cell : mg "_law_cell" = some (.ref a_law_cell)
  a_law_integer : Addr
  d_law_integer : FuncData
  F_law_integer : Fun K "_law_integer" "_law_integer" s_law_integer a_law_integer d_law_integer
  b_law_integer : Binds K d_law_integer ["value"] []
  g_law_integer : mg "_law_integer" = some (.ref a_law_integer)
  a_law_integers : Addr
  d_law_integers : FuncData
  F_law_integers : Fun K "_law_integers" "_law_integers" s_law_integers a_law_integers d_law_integers
  b_law_integers : Binds K d_law_integers ["values"] []
  g_law_integers : mg "_law_integers" = some (.ref a_law_integers)
  a_law_row : Addr
  d_law_row : FuncData
  F_law_row : Fun K "_law_row" "_law_row" s_law_row a_law_row d_law_row
  b_law_row : Binds K d_law_row ["cell", "count", "bound"] []
  g_law_row : mg "_law_row" = some (.ref a_law_row)
  a_law_rounded : Addr
  d_law_rounded : FuncData
  F_law_rounded : Fun K "_law_rounded" "_law_rounded" s_law_rounded a_law_rounded d_law_rounded
  b_law_rounded : Binds K d_law_rounded ["numerator", "denominator", "moved"] []
  g_law_rounded : mg "_law_rounded" = some (.ref a_law_rounded)
  a_law_expected : Addr
  d_law_expected : FuncData
  F_law_expected : Fun K "_law_expected" "_law_expected" s_law_expected a_law_expected d_law_expected
  b_law_expected : Binds K d_law_expected ["numerators", "denominator", "digits"] []
  g_law_expected : mg "_law_expected" = some (.ref a_law_expected)
  a_law : Addr
  d_law : FuncData
  F_law : Fun K "law" "law" s_law a_law d_law
  b_law : Binds K d_law ["script"] []
  g_law : mg "law" = some (.ref a_law)
  m_max : mg "max" = none
  m_abs : mg "abs" = none
  m_len : mg "len" = none
  m_isinstance : mg "isinstance" = none
  m_int : mg "int" = none
  m_bool : mg "bool" = none
  m_list : mg "list" = none
  m_all : mg "all" = none
  m_range : mg "range" = none
  m_tuple : mg "tuple" = none
  u_MOST_SHIFT : Value
  c_MOST_SHIFT : mg "_MOST_SHIFT" = some u_MOST_SHIFT
  r_MOST_SHIFT : RelV (.int (15)) u_MOST_SHIFT
section
variable {P : Program} {w : World} {K : PySem.W.Frag} {mg : Str → Option Value} {base : Heap}
/-! ### int(x), bits of a number -/
theorem Ev.is {σ : L2.St} {H : Hp} {te : TE} {x y : V} (h : Ev te σ H x) (e : x = y) : Ev te σ H y := e ▸ h
theorem ev_int1 {σ : L2.St} {H : Hp} {te : TE} {i : Int} (h : Ev te σ H (.int i)) : Ev (tCB (fun xs H Q => (∃ i, xs = [V.int i] ∧ Q (V.int i) H) ∨ ∃ k, xs = [V.bl k] ∧ Q (V.int (if k = true then 1 else 0)) H) (tCons te tNil)) σ H (.int i) :=
  ev_cb (ea_cons h ea_nil) fun H1 _ Q q => .inl ⟨i, rfl, q H1 (Ex.refl H1)⟩
theorem q_augR {σ : L2.St} {H : Hp} {te : TE} {D : Ends} {tz : TS} {i : Nat} {g : Int → Int → V} {a b : Int} (h1 : σ[i]? = some (some (.int a))) (h : Ev te σ H (.int b)) (k : ∀ H1, Ex H H1 → tz D (σ.set i (some (g a b))) H1) : tSeq (tAug i te (rI0 g)) tz D σ H :=
  ⟨_, h1, h H (Ex.refl H) _ fun H1 e => ⟨a, b, rfl, rfl, k H1 e⟩⟩
theorem s_augR {σ : L2.St} {H : Hp} {te : TE} {D : Ends} {i : Nat} {g : Int → Int → V} {a b : Int} (h1 : σ[i]? = some (some (.int a))) (h : Ev te σ H (.int b)) (k : ∀ H1, Ex H H1 → D.nx (σ.set i (some (g a b))) H1) : tAug i te (rI0 g) D σ H :=
  ⟨_, h1, h H (Ex.refl H) _ fun H1 e => ⟨a, b, rfl, rfl, k H1 e⟩⟩
theorem ev_atT {K : PySem.W.Frag} {σ : L2.St} {H : Hp} {tl ti : TE} {t : Addr} {xs : List V} {n : Int} {v : V} (h : Ev tl σ H (.ref t)) (hT : SqT K H t xs) (hi : Ev ti σ H (.int n)) (ha : atI xs n = some v) : Ev (tOp (rIxT K) tl ti) σ H v := fun H1 e Q q =>
  h H1 e _ fun H2 e2 => hi H2 (e.trans e2) _ fun H3 e3 => ⟨t, xs, n, v, rfl, rfl, ex_t ((e.trans e2).trans e3) hT, ha, q H3 (e2.trans e3)⟩
local macro_rules | `(tactic| walk_at "side") => `(tactic| first
  | omega
  | (show CDivW _ _; exact ⟨by omega, by decide⟩)
  | (show CDivW _ _; exact wide_div (b := 80) (by omega) (by omega) (by decide) (by decide)))
local macro_rules | `(tactic| walk_at "evown") => `(tactic| (refine' ev_int1 ?h1; (case h1 => walk_at "ev")))
/-- numbers from 0 on, as such -/
def cs (ds : List Nat) : List Int := ds.map fun d : Nat => (d : Int)
theorem cs_of {ns : List Int} {b : Int} (h : ∀ n ∈ ns, 0 ≤ n ∧ n < b) : ∃ ds : List Nat, ns = cs ds ∧ ds.length = ns.length ∧ ∀ d ∈ ds, (d : Int) < b := by
  refine ⟨ns.map Int.toNat, ?_, List.length_map .., fun d hd => ?_⟩
  · unfold cs
    rw [List.map_map]
    conv => lhs; rw [← List.map_id ns]
    refine List.map_congr_left fun n hn => ?_
    have := (h n hn).1
    show n = ((n.toNat : Nat) : Int)
    omega
  · obtain ⟨n, hn, rfl⟩ := List.mem_map.mp hd
    have := h n hn
    omega
theorem cs_len (ds : List Nat) : (cs ds).length = ds.length := List.length_map ..
theorem cs_at {ds : List Nat} {i : Nat} {d : Nat} (h : ds[i]? = some d) : (cs ds)[i]? = some (d : Int) := by unfold cs; rw [List.getElem?_map, h]; rfl
theorem cs_take (ds : List Nat) (i : Nat) : (cs ds).take i = cs (ds.take i) := by unfold cs; rw [List.map_take]
theorem cs_drop (ds : List Nat) (i : Nat) : (cs ds).drop i = cs (ds.drop i) := by unfold cs; rw [List.map_drop]
theorem cs_append (ds es : List Nat) : cs (ds ++ es) = cs ds ++ cs es := List.map_append ..

theorem ev_all {σ : L2.St} {H : Hp} {te : TE} {bs : List Bool} {b : Bool} (h : EvS K te σ H (bs.map V.bl)) (hb : bs.all id = b) : Ev (tCB (rAll K) (tCons te tNil)) σ H (.bl b) := fun H1 e Q q => h H1 e _ fun p H2 e2 hp => ⟨p, bs, rfl, hp, by rw [hb]; exact q H2 e2⟩

def sp_cell (K : PySem.W.Frag) : Sp := fun vs H Q _ => ∃ (a : Addr) (ns : List Int) (k : Int), vs = [.ref a, .int k] ∧ SqL K H a (ns.map V.int) ∧ 0 ≤ k ∧ RetV (.int (cellI ns k)) H Q
theorem ok_law_cell (T : TX K mg) : FnOk P w K mg base CX0 1 T.a_law_cell T.d_law_cell ["script", "k"] (sp_cell K) := by
  refine T.F_law_cell.ok sc_law_cell (fun vs H Q E h => by obtain ⟨a, ns, k, rfl, _⟩ := h; rfl) (fun cdv A outer s H vs Q E hr h => ?_)
  obtain ⟨a, ns, k, rfl, hS, hk, q⟩ := h
  refine ⟨_, (pss_cons (ps_if (pt_cmpR op_lt (pv 1) (pe_callB (r := rLenS K) call_len_seq (by rfl) T.m_len PySem.boot_len (pa_cons (pv 0) pa_nil)) (nomark _)) (pss_one (ps_ret (pe_ix (r := rIxL K) ix_list (pv 0) (pv 1) (fun _ _ => rfl)))) pss_nil)
      (pss_one (ps_ret pe_int))), ?_⟩
  have hl := (ev_lenS (K := K) (Ev.s (te := tVar 0) (σ := start ["script", "k"] [.ref a, .int k]) (ev_var rfl) hS))
  refine q_when (et_test (ev_I0 (ev_var rfl) hl)) ?_ ?_
  · intro hb H1 e1
    have hb : k < ns.length := by
      have := of_decide_eq_true hb
      rwa [List.length_map] at this
    refine s_ret (v := .int (cellI ns k)) (ev_ixS (i := 0) (n := k) (Ev.s (ev_var rfl) (ex_l e1 hS)) (ev_var rfl) ?_) fun H2 e2 => q H2 (e1.trans e2)
    exact at_of (j := k.toNat) (by omega) (at_int (cellI_in hk hb))
  · intro hb H1 e1
    have hb : ¬ k < ns.length := by
      have := of_decide_eq_false hb
      rwa [List.length_map] at this
    walk_at "ret"
    intro H2 e2
    exact ret_eq q (e1.trans e2) (by rw [cellI_out hb])
theorem ev_cell {σ : L2.St} {H : Hp} {ta tk : TE} {E : XK} {ns : List Int} {k : Int} {a : Addr} (ha : Ev ta σ H (.ref a)) (hS : SqL K H a (ns.map V.int)) (hk : Ev tk σ H (.int k)) (h0 : 0 ≤ k) : Ev (tCall (sp_cell K) [] E (tCons ta (tCons tk tNil))) σ H (.int (cellI ns k)) :=
  ev_call (ea_cons ha (ea_cons hk ea_nil)) fun H1 e Q q _ => ⟨a, ns, k, rfl, ex_l e hS, h0, q⟩
local macro_rules | `(tactic| walk_at "evown") => `(tactic| (refine' ev_cell ?h1 ?h2 ?h3 ?h4; (case h1 => exact ev_var rfl); (case h2 => walk_at "sq"); (case h3 => walk_at "ev"); (case h4 => walk_at "side")))

def sp_isint : Sp := fun vs H Q _ => ∃ n : Int, vs = [.int n] ∧ RetV (.bl true) H Q
theorem ok_law_integer (T : TX K mg) : FnOk P w K mg base CX0 1 T.a_law_integer T.d_law_integer ["value"] sp_isint := by
  refine T.F_law_integer.ok sc_law_integer (fun vs H Q E h => by obtain ⟨n, rfl, _⟩ := h; rfl) (fun cdv A outer s H vs Q E hr h => ?_)
  obtain ⟨n, rfl, k⟩ := h
  refine ⟨_, (pss_one (ps_ret (pe_and (pe_callB (r := rIsi K) call_isi (by rfl) T.m_isinstance PyProof.Rows.boot_isinstance (pa_cons (pv 0) (pa_cons (pe_bltn (v := V.ty "int") (by rfl) T.m_int PyProof.Rows.boot_int rfl) pa_nil))) (pe_one (pe_not (pe_callB (r := rIsi K) call_isi (by rfl) T.m_isinstance PyProof.Rows.boot_isinstance (pa_cons (pv 0) (pa_cons (pe_bltn (v := V.ty "bool") (by rfl) T.m_bool PyProof.Rows.boot_bool rfl) pa_nil)))))))), ?_⟩
  walk_at "ret"
  intro H2 e2
  exact ret_eq k e2 rfl
theorem ev_isint {σ : L2.St} {H : Hp} {te : TE} {E : XK} {n : Int} (h : Ev te σ H (.int n)) : Ev (tCall sp_isint [] E (tCons te tNil)) σ H (.bl true) := ev_call (ea_cons h ea_nil) fun H1 _ Q q _ => ⟨n, rfl, q⟩

def sp_ints : Sp := fun vs H Q _ => ∃ (a : Addr) (ns : List Int), vs = [.ref a] ∧ H a = some (.lst (ns.map V.int)) ∧ ns.length ≤ 10000 ∧ RetV (.bl true) H Q
theorem ok_law_integers (T : TX K mg) : FnOk P w K mg base CX0 2 T.a_law_integers T.d_law_integers ["values"] sp_ints := by
  refine T.F_law_integers.ok sc_law_integers (fun vs H Q E h => by obtain ⟨a, ns, rfl, _⟩ := h; rfl) (fun cdv A outer s0 H vs Q E hr h => ?_)
  obtain ⟨a, ns, rfl, hA, hl, k⟩ := h
  refine ⟨_, (pss_cons (ps_if (pt_not (pt_val (pe_callB (r := rIsi K) call_isi (by rfl) T.m_isinstance PyProof.Rows.boot_isinstance (pa_cons (pv 0) (pa_cons (pe_bltn (v := V.ty "list") (by rfl) T.m_list PyProof.Rows.boot_list rfl) pa_nil))))) (pss_one (ps_ret pe_bl)) pss_nil)
      (pss_one (ps_ret (pe_callB (r := rAll K) (cr_all rfl) (by rfl) T.m_all PyProof.Rows.boot_all (pa_cons (pe_lc (own := [("value", 1)]) (g := gName 1) (tt := tYes) rfl sc_law_integers.nd (pi_list (pv 0)) (blkOk_by (N := ["values", "value"]) (sc := defScope s_law_integers) (by decide +kernel)) (fun _ _ _ _ _ => pg_name (i := 1) sc_law_integers.nd rfl (Or.inl rfl)) (fun _ _ _ _ _ => pts_nil) (fun _ _ _ _ _ => (pe_call (ok_law_integer T) (hr.mono (by decide)) (by rfl) T.g_law_integer T.F_law_integer.kp T.b_law_integer .nil pass0 (pa_cons (pv 1) pa_nil)))) pa_nil))))), ?_⟩
  walk_at "when"
  · intro hb
    exact absurd hb (by simp)
  intro _ H1 e1
  refine s_ret (v := .bl true) (ev_all (bs := ns.map fun _ => true) (EvR.s (EvL.r (EvL.is (xs := ns.map fun _ => V.bl true) (el_lcS _ (Ev.s (ev_var rfl) (sq_of (e1 _ _ hA))) (by rw [List.length_map, List.length_map]) (by rw [List.length_map]; omega) (fun _ => rfl) fun i x H2 e2 hx => ?_) (by rw [List.map_map]; rfl)))) (by simp)) fun H2 e2 => k.go (e1.trans e2)
  obtain ⟨n, hn, hi, rfl⟩ := int_at hx
  exact ⟨.bl true, by rw [List.getElem?_map, hn]; rfl, ev_isint (ev_var rfl)⟩
theorem ev_ints {σ : L2.St} {H : Hp} {te : TE} {E : XK} {ns : List Int} (h : EvR te σ H (ns.map V.int)) (hl : ns.length ≤ 10000) : Ev (tCall sp_ints [] E (tCons te tNil)) σ H (.bl true) := fun H1 e Q q =>
  h H1 e _ fun p H2 e2 hp => ⟨p, ns, rfl, hp, hl, fun H3 e3 => q H3 (e2.trans e3)⟩

/-! ### abs, int of a bool, the law's rows -/
theorem ev_abs {σ : L2.St} {H : Hp} {te : TE} {i : Int} (h : Ev te σ H (.int i)) : Ev (tCB (fun xs H Q => ∃ i, xs = [V.int i] ∧ Q (V.int (if i < 0 then -i else i)) H) (tCons te tNil)) σ H (.int (if i < 0 then -i else i)) :=
  ev_cb (ea_cons h ea_nil) fun H1 _ Q q => ⟨i, rfl, q H1 (Ex.refl H1)⟩
theorem ev_intB {σ : L2.St} {H : Hp} {te : TE} {b : Bool} (h : Ev te σ H (.bl b)) : Ev (tCB (fun xs H Q => (∃ i, xs = [V.int i] ∧ Q (V.int i) H) ∨ ∃ k, xs = [V.bl k] ∧ Q (V.int (if k = true then 1 else 0)) H) (tCons te tNil)) σ H (.int (if b = true then 1 else 0)) :=
  ev_cb (ea_cons h ea_nil) fun H1 _ Q q => .inr ⟨b, rfl, q H1 (Ex.refl H1)⟩
def sp_lrow : Sp := fun vs H Q _ => ∃ (c : Int) (n : Nat) (b : Int), vs = [.int c, .int (n : Int), .int b] ∧ n ≤ 1000 ∧ 0 < b ∧ b ≤ 2 ^ 50 ∧ ∀ p (ns : List Int) H', H p = none → Ex H H' → H' p = some (.lst (ns.map V.int)) → ns.length = n → (∀ x ∈ ns, 0 ≤ x ∧ x < b) → Q (.ref p) H'
theorem ok_law_row (T : TX K mg) : FnOk P w K mg base CX0 1 T.a_law_row T.d_law_row ["cell", "count", "bound"] sp_lrow := by
  refine T.F_law_row.ok sc_law_row (fun vs H Q E h => by obtain ⟨c, n, b, rfl, _⟩ := h; rfl) (fun cdv A outer s0 H vs Q E hr h => ?_)
  obtain ⟨c, n, b, rfl, hn, hb0, hb1, k⟩ := h
  refine ⟨_, (pss_cons (ps_set (i := 3) sc_law_row.nd rfl (Or.inl rfl) (pe_callB call_abs (by rfl) T.m_abs PyProof.Rows.boot_abs (pa_cons (pe_callTy call_int1 (by rfl) T.m_int PyProof.Rows.boot_int (pa_cons (pv 0) pa_nil)) pa_nil)))
      (pss_cons (ps_set (i := 4) sc_law_row.nd rfl (Or.inl rfl) (pe_op op_add (pe_op op_mod (pe_callTy call_int1 (by rfl) T.m_int PyProof.Rows.boot_int (pa_cons (pv 0) pa_nil)) pe_int) pe_int))
      (pss_cons (ps_set (i := 5) sc_law_row.nd rfl (Or.inl rfl) (pe_lst pa_nil))
      (pss_cons (ps_for PassesOwn.never rfl (pi_range1 (by rfl) T.m_range (pa_cons (pv 1) pa_nil)) (pg_name (i := 6) sc_law_row.nd rfl (Or.inl rfl)) (pss_one (ps_if (pt_cmpR op_ge (pv 3) (pv 2) (nomark _)) (pss_cons (ps_expr (pe_bm PySem.F.plainAttrs_list PySem.F.slot_list_append PySem.F.type_list_append mt_append (pv 5) (pa_cons (pe_op op_mod (pe_callTy call_int1 (by rfl) T.m_int PyProof.Rows.boot_int (pa_cons (pv 3) pa_nil)) (pv 2)) pa_nil)))
          (pss_one (ps_set (i := 3) sc_law_row.nd rfl (Or.inl rfl) (pe_op op_fdivW (pv 3) (pv 2))))) (pss_cons (ps_set (i := 4) sc_law_row.nd rfl (Or.inl rfl) (pe_op op_mod (pe_callTy call_int1 (by rfl) T.m_int PyProof.Rows.boot_int (pa_cons (pe_op op_add (pe_op op_add (pe_op op_mul (pv 4) pe_int) (pe_op op_mul pe_int (pv 6))) pe_int) pa_nil)) pe_int))
          (pss_one (ps_expr (pe_bm PySem.F.plainAttrs_list PySem.F.slot_list_append PySem.F.type_list_append mt_append (pv 5) (pa_cons (pe_op op_mod (pe_callTy call_int1 (by rfl) T.m_int PyProof.Rows.boot_int (pa_cons (pe_op op_fdivW (pe_op op_mul (pv 4) pe_int) pe_int) pa_nil)) (pv 2)) pa_nil))))))))
      (pss_one (ps_ret (pv 5))))))), ?_⟩
  have hlog : b.natAbs.log2 < 9000 := by
    have : b.natAbs < 2 ^ 51 := by omega
    have := (Nat.log2_lt (n := b.natAbs) (k := 51) (by omega)).mpr this
    omega
  refine q_asg (ev_abs (ev_int1 (ev_var rfl))) fun H1 e1 => ?_
  refine q_asg (ev_I0 (ev_I (ev_int1 (ev_var rfl)) ev_c (by decide)) ev_c) fun H2 e2 => ?_
  refine q_asgL (xs := []) (el_lst ea_nil (by decide)) fun p H3 hp3 e3 g3 => ?_
  have hp := fresh_back (e1.trans e2) hp3
  have e13 := (e1.trans e2).trans e3
  generalize (if c < 0 then -c else c) = re0
  generalize c % 1000003 + 1 = mx0
  refine q_forR1 (n := (n : Int)) (ea_cons (ev_var rfl) ea_nil) (by omega) (fun i σ' H' => ∃ (re mx : Int) (ns : List Int) (z6 : Option V), σ' = [some (.int c), some (.int (n : Int)), some (.int b), some (.int re), some (.int mx), some (.ref p), z6] ∧ Ex H H' ∧ H' p = some (.lst (ns.map V.int)) ∧ ns.length = i ∧ (∀ x ∈ ns, 0 ≤ x ∧ x < b)) (fun H4 e4 => ⟨re0, mx0, [], none, rfl, e13.trans e4, e4 _ _ g3, rfl, fun x hx => by cases hx⟩) ?_ ?_
  · rintro i σ' H4 hi ⟨re, mx, ns, z6, rfl, ex, gp, hnl, hns⟩
    have snoc : ∀ x : Int, 0 ≤ x → x < b → ∀ y ∈ ns ++ [x], 0 ≤ y ∧ y < b := fun x h0 h1 y hy => by
      rcases List.mem_append.mp hy with h | h
      · exact hns y h
      · rw [List.mem_singleton.mp h]
        exact ⟨h0, h1⟩
    have big : ns.length < 100000 := by omega
    refine s_if (et_test (ev_I0 (ev_var rfl) (ev_var rfl))) (fun _ H5 e5 => ?_) (fun _ H5 e5 => ?_)
    · refine q_app (v := .int (re % b)) (e5 _ _ gp) (ev_var rfl) (ev_I (ev_int1 (ev_var rfl)) (ev_var rfl) hb0) (by rw [List.length_map]; exact big) fun H6 e6 => ?_
      refine s_asg (v := .int (re / b)) (ev_I (ev_var rfl) (ev_var rfl) ⟨hb0, hlog⟩) fun H7 e7 => ⟨re / b, mx, ns ++ [re % b], _, rfl, (Ex.mut (ex.trans (e5.trans e6)) hp).trans e7, e7 _ _ (by rw [upd_same, List.map_append]; rfl), by rw [List.length_append, hnl]; rfl, snoc _ (Int.emod_nonneg _ (by omega)) (Int.emod_lt_of_pos _ hb0)⟩
    · obtain ⟨mx1, hmx⟩ : ∃ mx1, (mx * 48271 + 11 * (i : Int) + 7) % 2147483647 = mx1 := ⟨_, rfl⟩
      refine q_asg (v := .int mx1) (Ev.is (ev_I (ev_int1 (ev_I0 (ev_I0 (ev_I (ev_var rfl) ev_c (.inr (by decide))) (ev_I ev_c (ev_var rfl) (.inl (by decide)))) ev_c)) ev_c (by decide)) (congrArg V.int hmx)) fun H6 e6 => ?_
      refine s_app (v := .int ((mx1 * 2862933555777941757 / 1024) % b)) ((e5.trans e6) _ _ gp) (ev_var rfl) (ev_I (ev_int1 (ev_I (ev_I (ev_var rfl) ev_c (.inr (by decide))) ev_c ⟨by decide, by decide⟩)) (ev_var rfl) hb0) (by rw [List.length_map]; exact big) fun H7 e7 => ⟨re, mx1, ns ++ [(mx1 * 2862933555777941757 / 1024) % b], _, rfl, Ex.mut (ex.trans ((e5.trans e6).trans e7)) hp, by rw [upd_same, List.map_append]; rfl, by rw [List.length_append, hnl]; rfl, snoc _ (Int.emod_nonneg _ (by omega)) (Int.emod_lt_of_pos _ hb0)⟩
  · rintro σ' H4 ⟨re, mx, ns, z6, rfl, ex, gp, hnl, hns⟩
    rw [Int.toNat_natCast] at hnl
    exact s_ret (v := .ref p) (ev_var rfl) fun H5 e5 => k p ns H5 hp (ex.trans e5) (e5 _ _ gp) hnl hns

/-! ### rounding -/
def rndN (a b : Int) : Int := (2 * a + b) / (2 * b)
def rnd (a b : Int) : Int := if a < 0 then -rndN (-a) b else rndN a b
def sp_rndF : Sp := fun _ _ _ _ => False
def sp_rnd0 : Sp := fun vs H Q _ => ∃ (a b : Int), vs = [.int a, .int b] ∧ 0 ≤ a ∧ 0 < b ∧ b ≤ 2 ^ 50 ∧ RetV (.int (rndN a b)) H Q
def sp_rnd : Sp := fun vs H Q _ => ∃ (a b : Int), vs = [.int a, .int b] ∧ 0 < b ∧ b ≤ 2 ^ 50 ∧ RetV (.int (rnd a b)) H Q
theorem log_lt {b : Int} (h : 0 < b) (h2 : b ≤ 2 ^ 60) : b.natAbs.log2 < 9000 := by
  have : b.natAbs < 2 ^ 61 := by omega
  have := (Nat.log2_lt (n := b.natAbs) (k := 61) (by omega)).mpr this
  omega
theorem okF_rounded (T : TX K mg) : FnOk P w K mg base CX0 1 T.a_rounded T.d_rounded ["a", "b"] sp_rndF :=
  T.F_rounded.ok sc_rounded (fun _ _ _ _ h => h.elim) (fun _ _ _ _ _ _ _ _ _ h => h.elim)
theorem ok0_rounded (T : TX K mg) : FnOk P w K mg base CX0 2 T.a_rounded T.d_rounded ["a", "b"] sp_rnd0 := by
  refine T.F_rounded.ok sc_rounded (fun vs H Q E h => by obtain ⟨a, b, rfl, _⟩ := h; rfl) (fun cdv A outer s0 H vs Q E hr h => ?_)
  obtain ⟨a, b, rfl, ha, hb, hb2, k⟩ := h
  refine ⟨_, (pss_cons (ps_if (pt_cmpR op_lt (pv 0) pe_int (nomark _)) (pss_one (ps_ret (pe_un un_neg (pe_call (okF_rounded T) (hr.mono (by decide)) (by rfl) T.g_rounded T.F_rounded.kp T.b_rounded .nil pass0 (pa_cons (pe_un un_neg (pv 0)) (pa_cons (pv 1) pa_nil)))))) pss_nil)
      (pss_one (ps_ret (pe_op op_fdivW (pe_op op_add (pe_op op_mul pe_int (pv 0)) (pv 1)) (pe_op op_mul pe_int (pv 1)))))), ?_⟩
  refine q_when (b := false) (et_is (et_test (ev_I0 (ev_var rfl) ev_c)) (decide_eq_false (by omega))) (fun hb => by cases hb) fun _ H1 e1 => ?_
  exact s_ret (v := .int (rndN a b)) (ev_I (ev_I0 (ev_I ev_c (ev_var rfl) (.inl (by decide))) (ev_var rfl)) (ev_I ev_c (ev_var rfl) (.inl (by decide))) ⟨by omega, log_lt (by omega) (by omega)⟩) fun H2 e2 => k.go (e1.trans e2)
theorem ok_rounded (T : TX K mg) : FnOk P w K mg base CX0 3 T.a_rounded T.d_rounded ["a", "b"] sp_rnd := by
  refine T.F_rounded.ok sc_rounded (fun vs H Q E h => by obtain ⟨a, b, rfl, _⟩ := h; rfl) (fun cdv A outer s0 H vs Q E hr h => ?_)
  obtain ⟨a, b, rfl, hb, hb2, k⟩ := h
  refine ⟨_, (pss_cons (ps_if (pt_cmpR op_lt (pv 0) pe_int (nomark _)) (pss_one (ps_ret (pe_un un_neg (pe_call (ok0_rounded T) (hr.mono (by decide)) (by rfl) T.g_rounded T.F_rounded.kp T.b_rounded .nil pass0 (pa_cons (pe_un un_neg (pv 0)) (pa_cons (pv 1) pa_nil)))))) pss_nil)
      (pss_one (ps_ret (pe_op op_fdivW (pe_op op_add (pe_op op_mul pe_int (pv 0)) (pv 1)) (pe_op op_mul pe_int (pv 1)))))), ?_⟩
  unfold rnd at k
  by_cases ha : a < 0
  · rw [if_pos ha] at k
    refine q_when (b := true) (et_is (et_test (ev_I0 (ev_var rfl) ev_c)) (decide_eq_true ha)) (fun _ H1 e1 => ?_) (fun hb => by cases hb)
    exact s_ret (v := .int (-rndN (-a) b)) (ev_negI (ev_call (sp := sp_rnd0) (ea_cons (ev_negI (ev_var rfl)) (ea_cons (ev_var rfl) ea_nil)) fun H2 _ Q' q' _ => ⟨-a, b, rfl, by omega, hb, hb2, q'⟩)) fun H2 e2 => k.go (e1.trans e2)
  · rw [if_neg ha] at k
    refine q_when (b := false) (et_is (et_test (ev_I0 (ev_var rfl) ev_c)) (decide_eq_false ha)) (fun hb => by cases hb) fun _ H1 e1 => ?_
    exact s_ret (v := .int (rndN a b)) (ev_I (ev_I0 (ev_I ev_c (ev_var rfl) (.inl (by decide))) (ev_var rfl)) (ev_I ev_c (ev_var rfl) (.inl (by decide))) ⟨by omega, log_lt (by omega) (by omega)⟩) fun H2 e2 => k.go (e1.trans e2)
theorem ev_rnd {σ : L2.St} {H : Hp} {t1 t2 : TE} {E : XK} {a b : Int} (h1 : Ev t1 σ H (.int a)) (h2 : Ev t2 σ H (.int b)) (hb : 0 < b) (hb2 : b ≤ 2 ^ 50) : Ev (tCall sp_rnd [] E (tCons t1 (tCons t2 tNil))) σ H (.int (rnd a b)) := ev_call (ea_cons h1 (ea_cons h2 ea_nil)) fun H1 _ Q q _ => ⟨a, b, rfl, hb, hb2, q⟩
/-! ### quantizing -/
def absI (i : Int) : Int := if i < 0 then -i else i
theorem absI_nn (i : Int) : 0 ≤ absI i := by unfold absI; split <;> omega
def topI (ns : List Int) : Int := maxI 0 (ns.map absI)
theorem p2pos (j : Nat) : (0 : Int) < 2 ^ j := Int.pow_pos (by decide)
theorem maxI_nn {us : List Int} (h : ∀ u ∈ us, 0 ≤ u) : 0 ≤ maxI 0 us ∧ (maxI 0 us = 0 ∨ maxI 0 us ∈ us) ∧ ∀ u ∈ us, u ≤ maxI 0 us := by
  cases us with
  | nil => exact ⟨Int.le_refl _, .inl rfl, fun u hu => by cases hu⟩
  | cons x r =>
    obtain ⟨h1, h2, h3⟩ := foldl_max r x
    have hx := h x (List.mem_cons_self ..)
    refine ⟨Int.le_trans hx h2, .inr ?_, fun u hu => ?_⟩
    · rcases h1 with e | e
      · show r.foldl max x ∈ x :: r
        rw [e]
        exact List.mem_cons_self ..
      · exact List.mem_cons_of_mem _ e
    · rcases List.mem_cons.mp hu with rfl | hu
      · exact h2
      · exact h3 u hu
theorem topI_nn (ns : List Int) : 0 ≤ topI ns := (maxI_nn fun u hu => by obtain ⟨n, _, rfl⟩ := List.mem_map.mp hu; exact absI_nn n).1
theorem topI_bd {ns : List Int} {B : Int} (hB : 0 ≤ B) (h : ∀ n ∈ ns, -B ≤ n ∧ n ≤ B) : topI ns ≤ B := by
  rcases (maxI_nn (us := ns.map absI) fun u hu => by obtain ⟨n, _, rfl⟩ := List.mem_map.mp hu; exact absI_nn n).2.1 with e | e
  · unfold topI
    rw [e]
    exact hB
  · obtain ⟨n, hn, e⟩ := List.mem_map.mp e
    have := h n hn
    unfold topI
    rw [← e]
    unfold absI
    split <;> omega
def sizeF (ns : List Int) (b : Int) (s : Nat) : Int := rnd (topI ns * 2 ^ s) b
def pick (F : Nat → Int) (bd : Int) : Nat → Option Nat
  | 0 => none
  | s + 1 => if F s ≤ bd then (if F s = 0 then none else some s) else pick F bd s
def rowQ (ns : List Int) (b : Int) (s : Nat) : List Int := ns.map fun n => rnd (n * 2 ^ s) b
/-- a row with its shift in a new pair, or None -/
def RetO (ns : List Int) (b : Int) (o : Option Nat) (H : Hp) (Q : VK) : Prop := match o with
  | none => RetV .non H Q
  | some s => ∀ p a H2, H p = none → H a = none → Ex H H2 → H2 p = some (.tup [.ref a, .int (s : Int)]) → H2 a = some (.lst ((rowQ ns b s).map V.int)) → Q (.ref p) H2
theorem RetO.mono {ns : List Int} {b : Int} {o : Option Nat} {H H' : Hp} {Q : VK} (k : RetO ns b o H Q) (e : Ex H H') : RetO ns b o H' Q := by
  cases o with
  | none => exact fun H2 e2 => k H2 (e.trans e2)
  | some s => exact fun p a H2 hp ha e2 g1 g2 => k p a H2 (fresh_back e hp) (fresh_back e ha) (e.trans e2) g1 g2
theorem s_retLV {σ : L2.St} {H : Hp} {D : Ends} {t1 t2 : TE} {xs : List V} {v : V} (h1 : EvL t1 σ H xs) (h2 : ∀ H1, Ex H H1 → Ev t2 σ H1 v) (k : ∀ p a H2, H p = none → H a = none → Ex H H2 → H2 p = some (.tup [.ref a, v]) → H2 a = some (.lst xs) → D.rt (.ref p) H2) : tRet (tTup (tCons t1 (tCons t2 tNil))) D σ H :=
  h1 H (Ex.refl H) _ fun a H1 ha e1 g1 => h2 H1 e1 H1 (Ex.refl _) _ fun H2 e2 => ⟨sz_of (show 2 ≤ 100000 by decide), fun p hp => k p a _ (fresh_back (e1.trans e2) hp) ha ((e1.trans e2).trans (Ex.new hp)) upd_same ((e2.trans (Ex.new hp)) _ _ g1)⟩
def SmallN (ns : List Int) : Prop := ∀ n ∈ ns, -(2 ^ 42) ≤ n ∧ n ≤ 2 ^ 42
def sp_quant (K : PySem.W.Frag) : Sp := fun vs H Q _ => ∃ (a : Addr) (ns : List Int) (b : Int) (p : Nat), vs = [.ref a, .int b, .int (p : Int)] ∧ SqL K H a (ns.map V.int) ∧ ns.length ≤ 1000 ∧ SmallN ns ∧ 0 < b ∧ b ≤ 2 ^ 50 ∧ 1 ≤ p ∧ p ≤ 1000 ∧ RetO ns b (pick (sizeF ns b) (2 ^ (p - 1) - 1) 16) H Q
theorem ok_quantize (T : TX K mg) : FnOk P w K mg base CX0 4 T.a_quantize T.d_quantize ["numerators", "denominator", "precision"] (sp_quant K) := by
  refine T.F_quantize.ok sc_quantize (fun vs H Q E h => by obtain ⟨a, ns, b, p, rfl, _⟩ := h; rfl) (fun cdv A outer s0 H vs Q E hr h => ?_)
  obtain ⟨a, ns, b, p, rfl, hS, hl, hsm, hb, hb2, hp1, hp2, k⟩ := h
  refine ⟨_, (pss_cons (ps_set (i := 3) sc_quantize.nd rfl (Or.inl rfl) (pe_op op_sub (pe_op op_shl pe_int (pe_op op_sub (pv 2) pe_int)) pe_int))
      (pss_cons (ps_set (i := 4) sc_quantize.nd rfl (Or.inl rfl) (pe_callBK (cr_maxDef (hu64 hr)) (by rfl) T.m_max PyProof.Rows.boot_max (pa_cons (pe_lc (own := [("numerator", 6)]) (g := gName 6) (tt := tYes) rfl sc_quantize.nd (pi_list (pv 0)) (blkOk_by (N := ["numerators", "denominator", "precision", "bound", "greatest", "shift", "numerator"]) (sc := defScope s_quantize) (by decide +kernel)) (fun _ _ _ _ _ => pg_name (i := 6) sc_quantize.nd rfl (Or.inl rfl)) (fun _ _ _ _ _ => pts_nil) (fun _ _ _ _ _ => (pe_callB call_abs (by rfl) T.m_abs PyProof.Rows.boot_abs (pa_cons (pv 6) pa_nil)))) pa_nil) (pk_cons pe_int pk_nil)))
      (pss_cons (ps_set (i := 5) sc_quantize.nd rfl (Or.inr rfl) (pe_glob (by rfl) T.c_MOST_SHIFT T.r_MOST_SHIFT))
      (pss_cons (ps_while PassesOwn.never (PW.pt (pw_and (pt_cmpR op_ge (pv 5) pe_int (nomark _)) (pw_and1 (pt_cmpR op_gt (pe_call (ok_rounded T) (hr.mono (by decide)) (by rfl) T.g_rounded T.F_rounded.kp T.b_rounded .nil pass0 (pa_cons (pe_op op_shl (pv 4) (pv 5)) (pa_cons (pv 1) pa_nil))) (pv 3) (nomark _))))) (pss_one (ps_aug (i := 5) sc_quantize.nd rfl (Or.inr rfl) pe_int ip_sub)))
      (pss_cons (ps_if (PW.pt (pw_or (pt_cmpR op_lt (pv 5) pe_int (nomark _)) (pw_or1 (pt_cmpR op_eq (pe_call (ok_rounded T) (hr.mono (by decide)) (by rfl) T.g_rounded T.F_rounded.kp T.b_rounded .nil pass0 (pa_cons (pe_op op_shl (pv 4) (pv 5)) (pa_cons (pv 1) pa_nil))) pe_int (nomark _))))) (pss_one (ps_ret pe_non)) pss_nil)
      (pss_one (ps_ret (pe_tup (pa_cons (pe_lc (own := [("numerator", 6)]) (g := gName 6) (tt := tYes) rfl sc_quantize.nd (pi_list (pv 0)) (blkOk_by (N := ["numerators", "denominator", "precision", "bound", "greatest", "shift", "numerator"]) (sc := defScope s_quantize) (by decide +kernel)) (fun _ _ _ _ _ => pg_name (i := 6) sc_quantize.nd rfl (Or.inl rfl)) (fun _ _ _ _ _ => pts_nil) (fun _ _ _ _ _ => (pe_call (ok_rounded T) (hr.mono (by decide)) (by rfl) T.g_rounded T.F_rounded.kp T.b_rounded .nil pass0 (pa_cons (pe_op op_shl (pv 6) (pv 5)) (pa_cons (pv 1) pa_nil))))) (pa_cons (pv 5) pa_nil)))))))))), ?_⟩
  refine q_asg (v := .int (2 ^ (p - 1) - 1)) (Ev.is (ev_I0 (ev_I ev_c (ev_I0 (ev_var rfl) ev_c) (show CPow 1 ((p : Int) - 1) from ⟨by omega, by omega, by decide⟩)) ev_c) (congrArg V.int (by rw [show ((p : Int) - 1).toNat = p - 1 by omega, Int.one_mul]))) fun H1 e1 => ?_
  generalize (2 : Int) ^ (p - 1) - 1 = bd at *
  refine q_asg (v := .int (topI ns)) (ev_maxD (ns := ns.map absI) (d := 0) (EvR.s (EvL.r (EvL.is (xs := ns.map fun n => V.int (absI n)) (el_lcS _ (Ev.s (ev_var rfl) (ex_l e1 hS)) (by rw [List.length_map, List.length_map]) (by rw [List.length_map]; omega) (fun _ => rfl) fun i x H2 e2 hx => ?_) (by rw [List.map_map]; rfl)))) ev_c) fun H2 e2 => ?_
  · obtain ⟨n, hn, hi, rfl⟩ := int_at hx
    exact ⟨.int (absI n), by rw [List.getElem?_map, hn]; rfl, ev_abs (ev_var rfl)⟩
  have htop := topI_nn ns
  have htop2 : topI ns ≤ 2 ^ 42 := topI_bd (by decide) hsm
  have evF : ∀ {σ : L2.St} {H' : Hp} {s : Nat} {E : XK}, σ[4]? = some (some (.int (topI ns))) → σ[5]? = some (some (.int (s : Int))) → σ[1]? = some (some (.int b)) → s ≤ 100 → Ev (tCall sp_rnd [] E (tCons (tOp (rI CPow fun i j => .int (i * 2 ^ j.toNat)) (tVar 4) (tVar 5)) (tCons (tVar 1) tNil))) σ H' (.int (sizeF ns b s)) := fun {σ H' s E} h1 h2 h3 hs =>
    ev_rnd (Ev.is (ev_I (ev_var h1) (ev_var h2) (show CPow (topI ns) (s : Int) from ⟨by omega, by omega, by omega⟩)) (congrArg V.int (by rw [Int.toNat_natCast]))) (ev_var h3) hb hb2
  refine q_asg ev_c fun H3 e3 => ?_
  refine q_while (fun s σ' H' => s ≤ 16 ∧ σ' = [some (.ref a), some (.int b), some (.int (p : Int)), some (.int bd), some (.int (topI ns)), some (.int ((s : Int) - 1)), none] ∧ Ex H H' ∧ pick (sizeF ns b) bd 16 = pick (sizeF ns b) bd s) 16 ⟨Nat.le_refl _, rfl, (e1.trans e2).trans e3, rfl⟩ ?_
  rintro s σ' H4 ⟨hs, rfl, ex, hpk⟩
  cases s with
  | zero =>
    refine ⟨false, et_is (et_and (a := false) (b := false) (et_is (et_test (ev_I0 (ev_var rfl) ev_c)) (decide_eq_false (by omega))) fun h => by cases h) rfl, fun h => by (cases h), fun _ H5 e5 => ?_⟩
    refine q_when (b := true) (et_is (et_or (a := true) (b := true) (et_is (et_test (ev_I0 (ev_var rfl) ev_c)) (decide_eq_true (by omega))) fun h => by cases h) rfl) (fun _ H6 e6 => ?_) (fun hb => by cases hb)
    rw [hpk] at k
    exact s_ret (v := .non) ev_c fun H7 e7 => (show RetV .non H Q from k).go ((ex.trans e5).trans (e6.trans e7))
  | succ s =>
    have hslot : (some (some (V.int (((s + 1 : Nat) : Int) - 1))) : Option (Option V)) = some (some (.int (s : Int))) := by congr 3; omega
    have hge : ∀ {H' : Hp}, EvT (tTest (tOp (rI0 fun i j => .bl (decide (j ≤ i))) (tVar 5) (tC (.int 0)))) [some (.ref a), some (.int b), some (.int (p : Int)), some (.int bd), some (.int (topI ns)), some (.int (((s + 1 : Nat) : Int) - 1)), none] H' true := fun {H'} => et_is (et_test (ev_I0 (ev_var rfl) ev_c)) (decide_eq_true (by omega))
    have eF : ∀ {H' : Hp} {E : XK} {z : Option V}, Ev (tCall sp_rnd [] E (tCons (tOp (rI CPow fun i j => .int (i * 2 ^ j.toNat)) (tVar 4) (tVar 5)) (tCons (tVar 1) tNil))) [some (.ref a), some (.int b), some (.int (p : Int)), some (.int bd), some (.int (topI ns)), some (.int (((s + 1 : Nat) : Int) - 1)), z] H' (.int (sizeF ns b s)) := fun {H' E z} => evF rfl hslot rfl (by omega)
    refine ⟨decide (bd < sizeF ns b s), et_is (et_and (a := true) (b := decide (bd < sizeF ns b s)) hge fun _ => et_test (ev_I0 eF (ev_var rfl))) rfl, fun hb' H5 e5 => ?_, fun hb' H5 e5 => ?_⟩
    · have hb' := of_decide_eq_true hb'
      refine ⟨fun σ2 H2 => σ2 = [some (.ref a), some (.int b), some (.int (p : Int)), some (.int bd), some (.int (topI ns)), some (.int ((s : Int) - 1)), none] ∧ Ex H H2, ?_, ?_⟩
      · rintro σ2 H6 ⟨rfl, e6⟩
        refine ⟨s, by omega, by omega, rfl, e6, ?_⟩
        rw [hpk]
        show (if sizeF ns b s ≤ bd then _ else pick (sizeF ns b) bd s) = _
        rw [if_neg (by omega)]
      · refine s_aug (a := ((s + 1 : Nat) : Int) - 1) rfl ev_c fun H6 e6 => ⟨?_, (ex.trans e5).trans e6⟩
        show [_, _, _, _, _, some (V.int (((s + 1 : Nat) : Int) - 1 - 1)), _] = _
        rw [show ((s + 1 : Nat) : Int) - 1 - 1 = (s : Int) - 1 by omega]
    · have hb' := of_decide_eq_false hb'
      have hpk2 : pick (sizeF ns b) bd 16 = if sizeF ns b s = 0 then none else some s := by
        rw [hpk]
        show (if sizeF ns b s ≤ bd then _ else pick (sizeF ns b) bd s) = _
        rw [if_pos (by omega)]
      rw [hpk2] at k
      have hlt : ∀ {H' : Hp}, EvT (tTest (tOp (rI0 fun i j => .bl (decide (i < j))) (tVar 5) (tC (.int 0)))) [some (.ref a), some (.int b), some (.int (p : Int)), some (.int bd), some (.int (topI ns)), some (.int (((s + 1 : Nat) : Int) - 1)), none] H' false := fun {H'} => et_is (et_test (ev_I0 (ev_var rfl) ev_c)) (decide_eq_false (by omega))
      refine q_when (b := decide (V.int (sizeF ns b s) = V.int 0)) (et_is (et_or (a := false) (b := decide (V.int (sizeF ns b s) = V.int 0)) hlt fun _ => et_test (ev_eq eF ev_c rfl)) rfl) (fun h0 H6 e6 => ?_) (fun h0 H6 e6 => ?_)
      · have h0 : sizeF ns b s = 0 := V.int.inj (of_decide_eq_true h0)
        rw [if_pos h0] at k
        exact s_ret (v := .non) ev_c fun H7 e7 => (show RetV .non H Q from k).go ((ex.trans e5).trans (e6.trans e7))
      · have h0 : ¬ sizeF ns b s = 0 := fun z => of_decide_eq_false h0 (congrArg V.int z)
        rw [if_neg h0] at k
        have e06 := (ex.trans e5).trans e6
        refine s_retLV (xs := (rowQ ns b s).map V.int) (v := .int (s : Int)) (el_lcS _ (Ev.s (ev_var rfl) (ex_l e06 hS)) (by unfold rowQ; rw [List.length_map, List.length_map, List.length_map]) (by unfold rowQ; rw [List.length_map, List.length_map]; omega) (fun _ => rfl) fun i x H7 e7 hx => ?_) (fun _ _ => ev_var hslot) fun t q H7 ht hq e7 g7 g8 => (show RetO ns b (some s) H Q from k) t q _ (fresh_back e06 ht) (fresh_back e06 hq) (e06.trans e7) g7 g8
        · obtain ⟨n, hn, hi, rfl⟩ := int_at hx
          have hn2 := hsm n (List.mem_of_getElem? hn)
          refine ⟨_, at_int (n := rnd (n * 2 ^ s) b) (by unfold rowQ; rw [List.getElem?_map, hn]; rfl), ev_rnd (Ev.is (ev_I (j := (s : Int)) (ev_var rfl) (ev_var hslot) (show CPow n (s : Int) from ⟨by omega, by omega, by omega⟩)) (congrArg V.int (by rw [Int.toNat_natCast]))) (ev_var rfl) hb hb2⟩

/-! ### the law's defs -/
theorem rndN_nn {a b : Int} (ha : 0 ≤ a) (hb : 0 < b) : 0 ≤ rndN a b := by
  unfold rndN
  exact Int.ediv_nonneg (by omega) (by omega)
theorem rndN_mono {a c b : Int} (h : a ≤ c) (hb : 0 < b) : rndN a b ≤ rndN c b := by
  unfold rndN
  exact Int.ediv_le_ediv (by omega) (by omega)
theorem mul_p2_neg {n : Int} (s : Nat) : n * 2 ^ s < 0 ↔ n < 0 := by
  have hp := p2pos s
  constructor
  · intro h
    by_cases hn : n < 0
    · exact hn
    · have := Int.mul_nonneg (show 0 ≤ n by omega) (Int.le_of_lt hp)
      omega
  · intro h
    exact Int.mul_neg_of_neg_of_pos h hp
theorem rnd_abs {n b : Int} (s : Nat) (hb : 0 < b) : absI (rnd (n * 2 ^ s) b) = rndN (absI n * 2 ^ s) b := by
  unfold rnd
  by_cases h : n < 0
  · rw [if_pos ((mul_p2_neg s).mpr h)]
    have e : -(n * 2 ^ s) = absI n * 2 ^ s := by unfold absI; rw [if_pos h, Int.neg_mul]
    rw [e]
    have := rndN_nn (a := absI n * 2 ^ s) (b := b) (Int.mul_nonneg (absI_nn n) (Int.le_of_lt (p2pos s))) hb
    generalize rndN (absI n * 2 ^ s) b = z at *
    unfold absI
    split <;> omega
  · rw [if_neg (fun z => h ((mul_p2_neg s).mp z))]
    have e : n * 2 ^ s = absI n * 2 ^ s := by unfold absI; rw [if_neg h]
    rw [e]
    have := rndN_nn (a := absI n * 2 ^ s) (b := b) (Int.mul_nonneg (absI_nn n) (Int.le_of_lt (p2pos s))) hb
    generalize rndN (absI n * 2 ^ s) b = z at *
    unfold absI
    split <;> omega
theorem size_top {ns : List Int} {b : Int} (s : Nat) (hb : 0 < b) (hne : 0 < ns.length) : sizeF ns b s ∈ (rowQ ns b s).map absI ∧ ∀ y ∈ (rowQ ns b s).map absI, y ≤ sizeF ns b s := by
  have hs0 : sizeF ns b s = rndN (topI ns * 2 ^ s) b := by
    unfold sizeF rnd
    rw [if_neg (fun z => by have := (mul_p2_neg s).mp z; have := topI_nn ns; omega)]
  obtain ⟨h0, h1, h2⟩ := maxI_nn (us := ns.map absI) fun u hu => by obtain ⟨n, _, rfl⟩ := List.mem_map.mp hu; exact absI_nn n
  have hmem : topI ns ∈ ns.map absI := by
    unfold topI
    rcases h1 with e | e
    · cases ns with
      | nil => cases hne
      | cons x r =>
        have hx := h2 (absI x) (List.mem_map_of_mem (List.mem_cons_self ..))
        have hx0 := absI_nn x
        rw [e] at hx ⊢
        have : absI x = 0 := by omega
        rw [← this]
        exact List.mem_map_of_mem (List.mem_cons_self ..)
    · exact e
  refine ⟨?_, fun y hy => ?_⟩
  · obtain ⟨n, hn, e⟩ := List.mem_map.mp hmem
    rw [hs0, ← e, ← rnd_abs s hb]
    exact List.mem_map_of_mem (by unfold rowQ; exact List.mem_map_of_mem hn)
  · obtain ⟨z, hz, rfl⟩ := List.mem_map.mp hy
    unfold rowQ at hz
    obtain ⟨n, hn, rfl⟩ := List.mem_map.mp hz
    rw [rnd_abs s hb, hs0]
    exact rndN_mono (Int.mul_le_mul_of_nonneg_right (h2 _ (List.mem_map_of_mem hn)) (Int.le_of_lt (p2pos s))) hb
theorem ev_max {σ : L2.St} {H : Hp} {te : TE} {ns : List Int} {m : Int} (h : EvS K te σ H (ns.map V.int)) (h1 : m ∈ ns) (h2 : ∀ y ∈ ns, y ≤ m) : Ev (tCB (rMax K) (tCons te tNil)) σ H (.int m) := fun H1 e Q q =>
  h H1 e _ fun p H2 e2 hp => ⟨p, ns, rfl, hp, List.length_pos_of_mem h1, fun y hy hall => by
    have a1 := h2 y hy
    have a2 := hall m h1
    have : y = m := by omega
    rw [this]
    exact q H2 e2⟩
def sp_lrnd : Sp := fun vs H Q _ => ∃ (n b : Int) (s : Nat), vs = [.int n, .int b, .int (s : Int)] ∧ -(2 ^ 42) ≤ n ∧ n ≤ 2 ^ 42 ∧ 0 < b ∧ b ≤ 2 ^ 50 ∧ s ≤ 100 ∧ RetV (.int (rnd (n * 2 ^ s) b)) H Q
theorem ok_law_rounded (T : TX K mg) : FnOk P w K mg base CX0 1 T.a_law_rounded T.d_law_rounded ["numerator", "denominator", "moved"] sp_lrnd := by
  refine T.F_law_rounded.ok sc_law_rounded (fun vs H Q E h => by obtain ⟨n, b, s, rfl, _⟩ := h; rfl) (fun cdv A outer s0 H vs Q E hr h => ?_)
  obtain ⟨n, b, s, rfl, hn1, hn2, hb, hb2, hs, k⟩ := h
  refine ⟨_, (pss_cons (ps_set (i := 3) sc_law_rounded.nd rfl (Or.inl rfl) (pe_op op_fdivW (pe_op op_add (pe_op op_mul (pe_op op_mul (pe_callB call_abs (by rfl) T.m_abs PyProof.Rows.boot_abs (pa_cons (pv 0) pa_nil)) (pe_op op_shl pe_int (pv 2))) pe_int) (pv 1)) (pe_op op_mul (pv 1) pe_int)))
      (pss_cons (ps_if (pt_cmpR op_lt (pv 0) pe_int (nomark _)) (pss_one (ps_ret (pe_un un_neg (pv 3)))) pss_nil)
      (pss_one (ps_ret (pv 3))))), ?_⟩
  have ha : absI n ≤ 2 ^ 42 := by unfold absI; split <;> omega
  have ha0 := absI_nn n
  refine q_asg (v := .int (rndN (absI n * 2 ^ s) b)) (Ev.is (ev_I (ev_I0 (ev_I (ev_I (i := absI n) (ev_abs (ev_var rfl)) (ev_I ev_c (ev_var rfl) (show CPow 1 (s : Int) from ⟨by omega, by omega, by decide⟩)) (.inl ⟨by omega, by omega⟩)) ev_c (.inr (by decide))) (ev_var rfl)) (ev_I (ev_var rfl) ev_c (.inr (by decide))) ⟨by omega, log_lt (by omega) (by omega)⟩) (congrArg V.int ?_)) fun H1 e1 => ?_
  · rw [Int.toNat_natCast, Int.one_mul, Int.mul_comm _ 2, Int.mul_comm b 2]
    rfl
  have hnn := rndN_nn (a := absI n * 2 ^ s) (b := b) (Int.mul_nonneg ha0 (Int.le_of_lt (p2pos s))) hb
  refine q_when (b := decide (n < 0)) (et_test (ev_I0 (ev_var rfl) ev_c)) (fun h H2 e2 => ?_) (fun h H2 e2 => ?_)
  · have h := of_decide_eq_true h
    have e : rnd (n * 2 ^ s) b = -rndN (absI n * 2 ^ s) b := by
      unfold rnd
      rw [if_pos ((mul_p2_neg s).mpr h)]
      unfold absI
      rw [if_pos h, Int.neg_mul]
    rw [e] at k
    exact s_ret (ev_negI (ev_var rfl)) fun H3 e3 => k.go (e1.trans (e2.trans e3))
  · have h := of_decide_eq_false h
    have e : rnd (n * 2 ^ s) b = rndN (absI n * 2 ^ s) b := by
      unfold rnd
      rw [if_neg (fun z => h ((mul_p2_neg s).mp z))]
      unfold absI
      rw [if_neg h]
    rw [e] at k
    exact s_ret (ev_var rfl) fun H3 e3 => k.go (e1.trans (e2.trans e3))
theorem ev_lrnd {σ : L2.St} {H : Hp} {t1 t2 t3 : TE} {E : XK} {n b : Int} {s : Nat} (h1 : Ev t1 σ H (.int n)) (h2 : Ev t2 σ H (.int b)) (h3 : Ev t3 σ H (.int (s : Int))) (hn : -(2 ^ 42) ≤ n ∧ n ≤ 2 ^ 42) (hb : 0 < b) (hb2 : b ≤ 2 ^ 50) (hs : s ≤ 100) : Ev (tCall sp_lrnd [] E (tCons t1 (tCons t2 (tCons t3 tNil)))) σ H (.int (rnd (n * 2 ^ s) b)) :=
  ev_call (ea_cons h1 (ea_cons h2 (ea_cons h3 ea_nil))) fun H1 _ Q q _ => ⟨n, b, s, rfl, hn.1, hn.2, hb, hb2, hs, q⟩
def sp_lexp (K : PySem.W.Frag) : Sp := fun vs H Q _ => ∃ (a : Addr) (ns : List Int) (b : Int) (p : Nat), vs = [.ref a, .int b, .int (p : Int)] ∧ SqL K H a (ns.map V.int) ∧ ns.length ≤ 1000 ∧ 0 < ns.length ∧ SmallN ns ∧ 0 < b ∧ b ≤ 2 ^ 50 ∧ 1 ≤ p ∧ p ≤ 1000 ∧ RetO ns b (pick (sizeF ns b) (2 ^ (p - 1) - 1) 16) H Q
theorem ok_law_expected (T : TX K mg) : FnOk P w K mg base CX0 2 T.a_law_expected T.d_law_expected ["numerators", "denominator", "digits"] (sp_lexp K) := by
  refine T.F_law_expected.ok sc_law_expected (fun vs H Q E h => by obtain ⟨a, ns, b, p, rfl, _⟩ := h; rfl) (fun cdv A outer s0 H vs Q E hr h => ?_)
  obtain ⟨a, ns, b, p, rfl, hS, hl, hne, hsm, hb, hb2, hp1, hp2, k⟩ := h
  refine ⟨_, (pss_cons (ps_set (i := 3) sc_law_expected.nd rfl (Or.inl rfl) (pe_op op_sub (pe_op op_shl pe_int (pe_op op_sub (pv 2) pe_int)) pe_int))
      (pss_cons (ps_for PassesOwn.never rfl (pi_list (pe_lst (pa_cons pe_int (pa_cons pe_int (pa_cons pe_int (pa_cons pe_int (pa_cons pe_int (pa_cons pe_int (pa_cons pe_int (pa_cons pe_int (pa_cons pe_int (pa_cons pe_int (pa_cons pe_int (pa_cons pe_int (pa_cons pe_int (pa_cons pe_int (pa_cons pe_int (pa_cons pe_int pa_nil)))))))))))))))))) (pg_name (i := 4) sc_law_expected.nd rfl (Or.inr rfl)) (pss_cons (ps_setLc (i := 5) (own := [("x", 7)]) (g := gName 7) (tt := tYes) rfl sc_law_expected.nd rfl rfl (sw_true rfl rfl rfl (by decide +kernel)) (pi_list (pv 0)) (blkOk_by (N := ["numerators", "denominator", "digits", "bound", "moved", "row", "largest", "x"]) (sc := defScope s_law_expected) (by decide +kernel)) (fun _ _ _ _ _ => pg_name (i := 7) sc_law_expected.nd rfl (Or.inl rfl)) (fun _ _ _ _ _ => pts_nil) (fun _ _ _ _ _ => (pe_call (ok_law_rounded T) (hr.mono (by decide)) (by rfl) T.g_law_rounded T.F_law_rounded.kp T.b_law_rounded .nil pass0 (pa_cons (pv 7) (pa_cons (pv 1) (pa_cons (pv 4) pa_nil))))))
        (pss_cons (ps_set (i := 6) sc_law_expected.nd rfl (Or.inl rfl) (pe_callB (r := rMax K) (cr_max rfl) (by rfl) T.m_max PyProof.Rows.boot_max (pa_cons (pe_lc (own := [("x", 7)]) (g := gName 7) (tt := tYes) rfl sc_law_expected.nd (pi_list (pv 5)) (blkOk_by (N := ["numerators", "denominator", "digits", "bound", "moved", "row", "largest", "x"]) (sc := defScope s_law_expected) (by decide +kernel)) (fun _ _ _ _ _ => pg_name (i := 7) sc_law_expected.nd rfl (Or.inl rfl)) (fun _ _ _ _ _ => pts_nil) (fun _ _ _ _ _ => (pe_callB call_abs (by rfl) T.m_abs PyProof.Rows.boot_abs (pa_cons (pv 7) pa_nil)))) pa_nil)))
        (pss_one (ps_if (pt_cmpR op_le (pv 6) (pv 3) (nomark _)) (pss_cons (ps_if (pt_cmpR op_eq (pv 6) pe_int (nomark _)) (pss_one (ps_ret pe_non)) pss_nil)
          (pss_one (ps_ret (pe_tup (pa_cons (pv 5) (pa_cons (pv 4) pa_nil)))))) pss_nil)))))
      (pss_one (ps_ret pe_non)))), ?_⟩
  refine q_asg (v := .int (2 ^ (p - 1) - 1)) (Ev.is (ev_I0 (ev_I ev_c (ev_I0 (ev_var rfl) ev_c) (show CPow 1 ((p : Int) - 1) from ⟨by omega, by omega, by decide⟩)) ev_c) (congrArg V.int (by rw [show ((p : Int) - 1).toNat = p - 1 by omega, Int.one_mul]))) fun H1 e1 => ?_
  generalize (2 : Int) ^ (p - 1) - 1 = bd at *
  have hlit : ∀ i : Nat, i < 16 → ([15, 14, 13, 12, 11, 10, 9, 8, 7, 6, 5, 4, 3, 2, 1, 0] : List Int)[i]? = some ((15 - i : Nat) : Int) := by decide
  refine q_forNLn (K := K) (xs := ([15, 14, 13, 12, 11, 10, 9, 8, 7, 6, 5, 4, 3, 2, 1, 0] : List Int).map V.int) (el_lst (ea_cons ev_c (ea_cons ev_c (ea_cons ev_c (ea_cons ev_c (ea_cons ev_c (ea_cons ev_c (ea_cons ev_c (ea_cons ev_c (ea_cons ev_c (ea_cons ev_c (ea_cons ev_c (ea_cons ev_c (ea_cons ev_c (ea_cons ev_c (ea_cons ev_c (ea_cons ev_c ea_nil)))))))))))))))) (by decide)) (fun q i σ' H' => ∃ z4 z5 z6, σ' = [some (.ref a), some (.int b), some (.int (p : Int)), some (.int bd), z4, z5, z6, none] ∧ Ex H H' ∧ H' q = some (.lst (([15, 14, 13, 12, 11, 10, 9, 8, 7, 6, 5, 4, 3, 2, 1, 0] : List Int).map V.int)) ∧ pick (sizeF ns b) bd 16 = pick (sizeF ns b) bd (16 - i)) (fun q H2 hq e2 g2 => ⟨none, none, none, rfl, e1.trans e2, g2, rfl⟩) (fun q i σ' H' _ h => by obtain ⟨_, _, _, _, _, g, _⟩ := h; exact sq_of g) ?_ ?_
  · rintro q i x σ' H2 hx ⟨z4, z5, z6, rfl, ex, gq, hpk⟩
    obtain ⟨v, hv, hi, rfl⟩ := int_at hx
    have hi : i < 16 := hi
    rw [hlit i hi] at hv
    obtain rfl := Option.some.inj hv
    obtain ⟨s, hs⟩ : ∃ s, 15 - i = s := ⟨_, rfl⟩
    rw [show 16 - i = s + 1 by omega] at hpk
    rw [hs]
    refine q_asgL (xs := (rowQ ns b s).map V.int) (el_lcS _ (Ev.s (ev_var rfl) (ex_l ex hS)) (by unfold rowQ; rw [List.length_map, List.length_map, List.length_map]) (by unfold rowQ; rw [List.length_map, List.length_map]; omega) (fun _ => rfl) fun j x H3 e3 hx => ?_) fun pr H3 hpr e3 g3 => ?_
    · obtain ⟨n, hn, hj, rfl⟩ := int_at hx
      exact ⟨_, at_int (n := rnd (n * 2 ^ s) b) (by unfold rowQ; rw [List.getElem?_map, hn]; rfl), ev_lrnd (ev_var rfl) (ev_var rfl) (ev_var rfl) (hsm n (List.mem_of_getElem? hn)) hb hb2 (by omega)⟩
    have hrl : (rowQ ns b s).length = ns.length := by unfold rowQ; rw [List.length_map]
    obtain ⟨t1, t2⟩ := size_top (ns := ns) s hb hne
    refine q_asg (v := .int (sizeF ns b s)) (ev_max (ns := (rowQ ns b s).map absI) (EvR.s (EvL.r (EvL.is (xs := (rowQ ns b s).map fun n => V.int (absI n)) (el_lcS _ (Ev.s (ev_var rfl) (sq_of g3)) (by rw [List.length_map, List.length_map]) (by rw [List.length_map]; omega) (fun _ => rfl) fun j x H4 e4 hx => ?_) (by rw [List.map_map]; rfl)))) t1 t2) fun H4 e4 => ?_
    · obtain ⟨n, hn, hj, rfl⟩ := int_at hx
      exact ⟨.int (absI n), by rw [List.getElem?_map, hn]; rfl, ev_abs (ev_var rfl)⟩
    have ex4 := ex.trans (e3.trans e4)
    have step : pick (sizeF ns b) bd 16 = if sizeF ns b s ≤ bd then (if sizeF ns b s = 0 then none else some s) else pick (sizeF ns b) bd s := hpk
    refine s_when (b := decide (sizeF ns b s ≤ bd)) (et_test (ev_I0 (ev_var rfl) (ev_var rfl))) (fun hle H5 e5 => ?_) (fun hle H5 e5 => ?_)
    · have hle := of_decide_eq_true hle
      rw [if_pos hle] at step
      rw [step] at k
      refine q_when (b := decide (V.int (sizeF ns b s) = V.int 0)) (et_test (ev_eq (ev_var rfl) ev_c rfl)) (fun h0 H6 e6 => ?_) (fun h0 H6 e6 => ?_)
      · have h0 : sizeF ns b s = 0 := V.int.inj (of_decide_eq_true h0)
        rw [if_pos h0] at k
        exact s_ret (v := .non) ev_c fun H7 e7 => (show RetV .non H Q from k).go (ex4.trans (e5.trans (e6.trans e7)))
      · have h0 : ¬ sizeF ns b s = 0 := fun z => of_decide_eq_false h0 (congrArg V.int z)
        rw [if_neg h0] at k
        have e06 := ex4.trans (e5.trans e6)
        refine s_retU (xs := [.ref pr, .int (s : Int)]) (eu_tup (ea_cons (ev_var rfl) (ea_cons (ev_var rfl) ea_nil)) (Nat.le_of_ble_eq_true rfl)) fun t H7 ht e7 g7 => ?_
        exact (show RetO ns b (some s) H Q from k) t pr H7 (fresh_back e06 ht) (fresh_back ex hpr) (e06.trans e7) g7 ((((e4.trans e5).trans e6).trans e7) _ _ g3)
    · have hle := of_decide_eq_false hle
      rw [if_neg hle] at step
      exact ⟨_, _, _, rfl, ex4.trans e5, ((e3.trans e4).trans e5) _ _ gq, by rw [step, show 16 - (i + 1) = s by omega]⟩
  · rintro q σ' H2 ⟨z4, z5, z6, rfl, ex, gq, hpk⟩
    have hpk : pick (sizeF ns b) bd 16 = none := hpk
    rw [hpk] at k
    exact s_ret (v := .non) ev_c fun H7 e7 => (show RetV .non H Q from k).go (ex.trans e7)
theorem shaped_lint (ns : List Int) (i : Int) : SeqAt.shaped (.tuple [.list (ns.map .int), .int i]) = true := by
  unfold SeqAt.shaped
  have h1 := canLay_ints ns
  have h2 := depth_ints ns
  rw [Bool.and_eq_true, decide_eq_true_iff]
  refine ⟨by simp only [PyData.canLay0, PyData.canLayAll0, h1, Bool.and_self], ?_⟩
  simp only [PyData.depth, PyData.depthAll]
  omega
theorem ev_isiT {σ : L2.St} {H : Hp} {ta : TE} {a : Addr} {xs : List V} (ha : Ev ta σ H (.ref a)) (h : H a = some (.tup xs)) : Ev (tCB (rIsi K) (tCons ta (tCons (tC (.ty "tuple")) tNil))) σ H (.bl true) := ev_isi ha (isi_tup h) kit_tt
theorem ev_lenT {σ : L2.St} {H : Hp} {ta : TE} {a : Addr} {xs : List V} (ha : Ev ta σ H (.ref a)) (h : H a = some (.tup xs)) : Ev (tCB (rLenS K) (tCons ta tNil)) σ H (.int (xs.length : Int)) := fun H1 e Q q =>
  ha H1 e _ fun H2 e2 => ⟨a, xs, rfl, .inr (st_of ((e.trans e2) _ _ h)), q H2 e2⟩
def sp_law (K : PySem.W.Frag) : Sp := fun vs H Q _ => ∃ (a : Addr) (ns : List Int), vs = [.ref a] ∧ SqL K H a (ns.map V.int) ∧ ns.length ≤ 63 ∧ ∀ H', Q (.bl true) H'
theorem ok_law (T : TX K mg) : FnOk P w K mg base CX0 5 T.a_law T.d_law ["script"] (sp_law K) := by
  refine T.F_law.ok sc_law (fun vs H Q E h => by obtain ⟨a, ns, rfl, _⟩ := h; rfl) (fun cdv A outer s H vs Q E hr h => ?_)
  obtain ⟨a, ns, rfl, hS, hlen, k⟩ := h
  refine ⟨_, (pss_cons (ps_set (i := 1) sc_law.nd rfl (Or.inl rfl) (pe_call (ok_law_cell T) (hr.mono (by decide)) (by rfl) T.g_law_cell T.F_law_cell.kp T.b_law_cell .nil pass0 (pa_cons (pv 0) (pa_cons pe_int pa_nil))))
      (pss_cons (ps_set (i := 2) sc_law.nd rfl (Or.inr rfl) (pe_ix (r := rIxL K) ix_list (pe_lst (pa_cons pe_int (pa_cons pe_int (pa_cons pe_int pa_nil)))) (pe_op op_mod (pe_op op_fdiv (pe_callTy call_int1 (by rfl) T.m_int PyProof.Rows.boot_int (pa_cons (pv 1) pa_nil)) pe_int) pe_int) (fun _ _ => rfl)))
      (pss_cons (ps_set (i := 3) sc_law.nd rfl (Or.inl rfl) (pe_op op_add (pe_op op_add pe_int (pe_op op_mod (pe_callTy call_int1 (by rfl) T.m_int PyProof.Rows.boot_int (pa_cons (pv 1) pa_nil)) pe_int)) (pe_op op_mul pe_int (pe_callTy call_int1 (by rfl) T.m_int PyProof.Rows.boot_int (pa_cons (pe_cmpR op_eq (pe_op op_mod (pe_op op_fdiv (pe_callTy call_int1 (by rfl) T.m_int PyProof.Rows.boot_int (pa_cons (pv 1) pa_nil)) pe_int) pe_int) pe_int (nomark _)) pa_nil)))))
      (pss_cons (ps_setLc (i := 4) (own := [("x", 10)]) (g := gName 10) (tt := tYes) rfl sc_law.nd rfl rfl (sw_true rfl rfl rfl (by decide +kernel)) (pi_list (pe_call (ok_law_row T) (hr.mono (by decide)) (by rfl) T.g_law_row T.F_law_row.kp T.b_law_row .nil pass0 (pa_cons (pe_call (ok_law_cell T) (hr.mono (by decide)) (by rfl) T.g_law_cell T.F_law_cell.kp T.b_law_cell .nil pass0 (pa_cons (pv 0) (pa_cons pe_int pa_nil))) (pa_cons (pv 3) (pa_cons (pe_op op_add (pe_op op_mul pe_int (pv 2)) pe_int) pa_nil))))) (blkOk_by (N := ["script", "first", "bound", "count", "numerators", "denominator", "digits", "given", "actual", "expected", "x"]) (sc := defScope s_law) (by decide +kernel)) (fun _ _ _ _ _ => pg_name (i := 10) sc_law.nd rfl (Or.inl rfl)) (fun _ _ _ _ _ => pts_nil) (fun _ _ _ _ _ => (pe_op op_sub (pv 10) (pv 2))))
      (pss_cons (ps_set (i := 5) sc_law.nd rfl (Or.inl rfl) (pe_op op_add pe_int (pe_op op_mod (pe_callTy call_int1 (by rfl) T.m_int PyProof.Rows.boot_int (pa_cons (pe_call (ok_law_cell T) (hr.mono (by decide)) (by rfl) T.g_law_cell T.F_law_cell.kp T.b_law_cell .nil pass0 (pa_cons (pv 0) (pa_cons pe_int pa_nil))) pa_nil)) pe_int)))
      (pss_cons (ps_if (pt_cmpR op_eq (pe_op op_mod (pe_op op_fdiv (pe_callTy call_int1 (by rfl) T.m_int PyProof.Rows.boot_int (pa_cons (pv 1) pa_nil)) pe_int) pe_int) pe_int (nomark _)) (pss_one (ps_set (i := 5) sc_law.nd rfl (Or.inl rfl) (pe_op op_add pe_int (pe_op op_mod (pe_callTy call_int1 (by rfl) T.m_int PyProof.Rows.boot_int (pa_cons (pe_call (ok_law_cell T) (hr.mono (by decide)) (by rfl) T.g_law_cell T.F_law_cell.kp T.b_law_cell .nil pass0 (pa_cons (pv 0) (pa_cons pe_int pa_nil))) pa_nil)) pe_int)))) pss_nil)
      (pss_cons (ps_set (i := 6) sc_law.nd rfl (Or.inl rfl) (pe_op op_add pe_int (pe_op op_mod (pe_callTy call_int1 (by rfl) T.m_int PyProof.Rows.boot_int (pa_cons (pe_call (ok_law_cell T) (hr.mono (by decide)) (by rfl) T.g_law_cell T.F_law_cell.kp T.b_law_cell .nil pass0 (pa_cons (pv 0) (pa_cons pe_int pa_nil))) pa_nil)) pe_int)))
      (pss_cons (ps_set (i := 7) sc_law.nd rfl (Or.inl rfl) (pe_callTy (r := rListS K) call_list_of (by rfl) T.m_list PyProof.Rows.boot_list (pa_cons (pv 4) pa_nil)))
      (pss_cons (ps_set (i := 8) sc_law.nd rfl (Or.inl rfl) (pe_call (ok_quantize T) (hr.mono (by decide)) (by rfl) T.g_quantize T.F_quantize.kp T.b_quantize .nil pass0 (pa_cons (pv 7) (pa_cons (pv 5) (pa_cons (pv 6) pa_nil)))))
      (pss_cons (ps_set (i := 9) sc_law.nd rfl (Or.inl rfl) (pe_call (ok_law_expected T) (hr.mono (by decide)) (by rfl) T.g_law_expected T.F_law_expected.kp T.b_law_expected .nil pass0 (pa_cons (pv 4) (pa_cons (pv 5) (pa_cons (pv 6) pa_nil)))))
      (pss_cons (ps_if (pt_cmpR (op_neD (hu64 hr)) (pv 7) (pv 4) (nomark _)) (pss_one (ps_ret pe_bl)) pss_nil)
      (pss_cons (ps_if (pt_cmpR op_isN1 (pv 9) pe_non (nomark _)) (pss_one (ps_ret (pe_cmpR op_isN1 (pv 8) pe_non (nomark _)))) pss_nil)
      (pss_cons (ps_if (PW.pt (pw_or (pt_not (pt_val (pe_callB (r := rIsi K) call_isi (by rfl) T.m_isinstance PyProof.Rows.boot_isinstance (pa_cons (pv 8) (pa_cons (pe_bltn (v := V.ty "tuple") (by rfl) T.m_tuple PyProof.Rows.boot_tuple rfl) pa_nil))))) (pw_or1 (pt_cmpR op_ne (pe_callB (r := rLenS K) call_len_seq (by rfl) T.m_len PySem.boot_len (pa_cons (pv 8) pa_nil)) pe_int (nomark _))))) (pss_one (ps_ret pe_bl)) pss_nil)
      (pss_one (ps_ret (pe_and (pe_call (ok_law_integers T) (hr.mono (by decide)) (by rfl) T.g_law_integers T.F_law_integers.kp T.b_law_integers .nil pass0 (pa_cons (pe_ix (r := rIxT K) ix_tup (pv 8) pe_int (fun _ _ => rfl)) pa_nil)) (pe_and (pe_call (ok_law_integer T) (hr.mono (by decide)) (by rfl) T.g_law_integer T.F_law_integer.kp T.b_law_integer .nil pass0 (pa_cons (pe_ix (r := rIxT K) ix_tup (pv 8) pe_int (fun _ _ => rfl)) pa_nil)) (pe_one (pe_cmpR (op_eqD (hu64 hr)) (pv 8) (pv 9) (nomark _)))))))))))))))))))), ?_⟩
  have cell : ∀ (H' : Hp) (σ : L2.St) (E : XK) (i : Int), σ[0]? = some (some (.ref a)) → Ex H H' → 0 ≤ i → Ev (tCall (sp_cell K) [] E (tCons (tVar 0) (tCons (tC (.int i)) tNil))) σ H' (.int (cellI ns i)) := fun H' σ E i hσ e hi => ev_cell (ev_var hσ) (ex_l e hS) ev_c hi
  refine q_asg (cell H _ _ 0 rfl (Ex.refl _) (by decide)) fun H1 e1 => ?_
  generalize cellI ns 0 = c0
  obtain ⟨bd, hbd9, hbd1⟩ : ∃ bd : Int, atI [V.int 3, V.int 1000, V.int 1000000000000] (c0 / 8 % 3) = some (V.int bd) ∧ 1 ≤ bd ∧ bd ≤ 1000000000000 := by
    have h3 : c0 / 8 % 3 = 0 ∨ c0 / 8 % 3 = 1 ∨ c0 / 8 % 3 = 2 := by omega
    rcases h3 with e | e | e <;> rw [e]
    · exact ⟨3, rfl, by decide⟩
    · exact ⟨1000, rfl, by decide⟩
    · exact ⟨1000000000000, rfl, by decide⟩
  refine q_asg (ev_ixS (i := 0) (n := c0 / 8 % 3) (EvR.s (EvL.r (el_lst (ea_cons ev_c (ea_cons ev_c (ea_cons ev_c ea_nil))) (by decide)))) (ev_I (ev_I (ev_int1 (ev_var rfl)) ev_c ⟨by decide, by decide⟩) ev_c (by decide)) hbd9) fun H2 e2 => ?_
  obtain ⟨cnt, hcnt⟩ : ∃ cnt : Nat, 1 + c0 % 8 + 24 * (if decide (V.int (c0 / 96 % 6) = V.int 1) = true then 1 else 0) = (cnt : Int) := ⟨(1 + c0 % 8 + 24 * (if decide (V.int (c0 / 96 % 6) = V.int 1) = true then 1 else 0)).toNat, by split <;> omega⟩
  have hcnt1 : 1 ≤ cnt ∧ cnt ≤ 32 := by split at hcnt <;> omega
  refine q_asg (v := .int (cnt : Int)) (Ev.is (ev_I0 (ev_I0 ev_c (ev_I (ev_int1 (ev_var rfl)) ev_c (by decide))) (ev_I ev_c (ev_intB (ev_eq (ev_I (ev_I (ev_int1 (ev_var rfl)) ev_c ⟨by decide, by decide⟩) ev_c (by decide)) ev_c rfl)) (.inl (by decide)))) (congrArg V.int hcnt)) fun H3 e3 => ?_
  have e13 := (e1.trans e2).trans e3
  refine q_asgLC (args := [.int (cellI ns 1), .int (cnt : Int), .int (2 * bd + 1)]) (ea_cons (cell H3 _ _ 1 rfl e13 (by decide)) (ea_cons (ev_var rfl) (ea_cons (ev_I0 (ev_I ev_c (ev_var rfl) (.inl (by decide))) ev_c) ea_nil))) fun H4 e4 => ⟨cellI ns 1, cnt, 2 * bd + 1, rfl, by omega, by omega, by omega, fun pr ds H5 hpr e5 g5 hdl hdb => ?_⟩
  have e15 := e13.trans (e4.trans e5)
  obtain ⟨ms, hms⟩ : ∃ ms : List Int, (ds.map fun x => x - bd) = ms := ⟨_, rfl⟩
  have hml : ms.length = cnt := by rw [← hms, List.length_map, hdl]
  have hmb : SmallN ms := fun n hn => by
    rw [← hms] at hn
    obtain ⟨x, hx, rfl⟩ := List.mem_map.mp hn
    have := hdb x hx
    omega
  refine q_asgL (xs := ms.map V.int) (el_lcS _ (Ev.s ev_c (sq_of g5)) (by rw [List.length_map, List.length_map]; omega) (by rw [List.length_map]; omega) (fun _ => rfl) fun i x H7 e7 hx => ?_) fun pn H6 hpn e6 g6 => ?_
  · obtain ⟨n, hn, hi, rfl⟩ := int_at hx
    exact ⟨_, at_int (n := n - bd) (by rw [← hms, List.getElem?_map, hn]; rfl), ev_I0 (ev_var rfl) (ev_var rfl)⟩
  have e16 := e15.trans e6
  refine q_asg (ev_I0 ev_c (ev_I (ev_int1 (cell H6 _ _ 2 rfl e16 (by decide))) ev_c (by decide))) fun H7 e7 => ?_
  obtain ⟨b, hb⟩ : ∃ b : Int, (if c0 / 24 % 4 = 1 then 1 + cellI ns 2 % 8 else 1 + cellI ns 2 % 1000000000) = b := ⟨_, rfl⟩
  have hb1 : 1 ≤ b ∧ b ≤ 1000000000 := by rw [← hb]; split <;> omega
  refine q_ifAsg (b := decide (V.int (c0 / 24 % 4) = V.int 1)) (v := .int b) (et_test (ev_eq (ev_I (ev_I (ev_int1 (ev_var rfl)) ev_c ⟨by decide, by decide⟩) ev_c (by decide)) ev_c rfl)) (fun h => Ev.is (ev_I0 ev_c (ev_I (ev_int1 (cell H7 _ _ 2 rfl (e16.trans e7) (by decide))) ev_c (by decide))) (congrArg V.int (by rw [← hb, if_pos (V.int.inj (of_decide_eq_true h))]))) (fun h => by rw [← hb, if_neg (fun z => of_decide_eq_false h (congrArg V.int z))]; rfl) fun H8 e8 => ?_
  obtain ⟨p, hp⟩ : ∃ p : Nat, 2 + cellI ns 3 % 14 = (p : Int) := ⟨(2 + cellI ns 3 % 14).toNat, by omega⟩
  have hp1 : 2 ≤ p ∧ p ≤ 15 := by omega
  refine q_asg (v := .int (p : Int)) (Ev.is (ev_I0 ev_c (ev_I (ev_int1 (cell H8 _ _ 3 rfl ((e16.trans e7).trans e8) (by decide))) ev_c (by decide))) (congrArg V.int hp)) fun H9 e9 => ?_
  have g9 := ((e7.trans e8).trans e9) _ _ g6
  clear e1 e2 e3 e4 e5 e6 e7 e8 e9 e13 e15 e16 cell
  refine q_asgL (xs := ms.map V.int) (el_of (Ev.s (ev_var rfl) (sq_of g9))) fun pg H10 hpg e10 g10 => ?_
  generalize ho : pick (sizeF ms b) (2 ^ (p - 1) - 1) 16 = o
  have e11 : Ex H9 H10 := e10
  refine q_asgC (vs := [.ref pg, .int b, .int (p : Int)]) (ea_cons (ev_var rfl) (ea_cons (ev_var rfl) (ea_cons (ev_var rfl) ea_nil))) fun H11 e11' => ⟨pg, ms, b, p, rfl, sq_of (e11' _ _ g10), by omega, hmb, by omega, by omega, by omega, by omega, ?_⟩
  rw [ho]
  have gn : ∀ H', Ex H10 H' → H' pn = some (.lst (ms.map V.int)) := fun H' e => e _ _ (e10 _ _ g9)
  cases o with
  | none =>
    intro H12 e12
    refine q_asgC (vs := [.ref pn, .int b, .int (p : Int)]) (ea_cons (ev_var rfl) (ea_cons (ev_var rfl) (ea_cons (ev_var rfl) ea_nil))) fun H13 e13 => ⟨pn, ms, b, p, rfl, sq_of (gn _ (e11'.trans (e12.trans e13))), by omega, by omega, hmb, by omega, by omega, by omega, by omega, ?_⟩
    rw [ho]
    intro H14 e14
    have e10_14 := e11'.trans (e12.trans (e13.trans e14))
    refine q_when (b := false) (et_is (et_test (ev_neI (ns := ms) (ms := ms) (Ev.s (ev_var rfl) (sq_of (e10_14 _ _ g10))) (Ev.s (ev_var rfl) (sq_of (gn _ e10_14))))) (by simp)) (fun h => by cases h) fun _ H15 e15 => ?_
    refine q_when (b := true) (et_is (et_test (ev_isN (ev_var rfl))) (by decide)) (fun _ H16 e16 => ?_) (fun h => by cases h)
    exact s_ret (v := .bl true) (Ev.is (ev_isN (ev_var rfl)) (by decide)) fun H17 e17 => k _
  | some t =>
    intro p1 a1 H12 hp1' ha1 e12 g1 g2
    refine q_asgC (vs := [.ref pn, .int b, .int (p : Int)]) (ea_cons (ev_var rfl) (ea_cons (ev_var rfl) (ea_cons (ev_var rfl) ea_nil))) fun H13 e13 => ⟨pn, ms, b, p, rfl, sq_of (gn _ (e11'.trans (e12.trans e13))), by omega, by omega, hmb, by omega, by omega, by omega, by omega, ?_⟩
    rw [ho]
    intro p2 a2 H14 hp2' ha2 e14 g3 g4
    have e10_14 := e11'.trans (e12.trans (e13.trans e14))
    refine q_when (b := false) (et_is (et_test (ev_neI (ns := ms) (ms := ms) (Ev.s (ev_var rfl) (sq_of (e10_14 _ _ g10))) (Ev.s (ev_var rfl) (sq_of (gn _ e10_14))))) (by simp)) (fun h => by cases h) fun _ H15 e15 => ?_
    refine q_when (b := false) (et_is (et_test (ev_isN (ev_var rfl))) (by simp)) (fun h => by cases h) fun _ H16 e16 => ?_
    have e12_16 := ((e13.trans e14).trans e15).trans e16
    have q1 := e12_16 _ _ g1
    have q2 := e12_16 _ _ g2
    refine q_when (b := false) (et_is (et_or (a := false) (b := false) (et_is (et_not (et_B (ev_isiT (ev_var rfl) q1))) rfl) fun _ => et_is (et_test (ev_ne (ev_lenT (ev_var rfl) q1) ev_c rfl)) rfl) rfl) (fun h => by cases h) fun _ H17 e17 => ?_
    have q1' := e17 _ _ q1
    have q2' := e17 _ _ q2
    have q3' := ((e15.trans e16).trans e17) _ _ g3
    have q4' := ((e15.trans e16).trans e17) _ _ g4
    exact s_ret (v := .bl true) (ev_is (ev_andV (ev_ints (ns := rowQ ms b t) (Ev.r (ev_atT (ev_var rfl) (st_of q1') ev_c (at_of (j := 0) rfl rfl)) q2') (by unfold rowQ; rw [List.length_map]; omega)) fun _ => ev_andV (ev_isint (n := (t : Int)) (ev_atT (ev_var rfl) (st_of q1') ev_c (at_of (j := 1) rfl rfl))) fun _ => ev_eqDD (d := .tuple [.list ((rowQ ms b t).map .int), .int (t : Int)]) (EvD.of (ev_var rfl) (.tup (st_of q1') (.cons (.lst (sq_of q2') (dp_ints _)) (.cons (.int _) .nil)))) (EvD.of (ev_var rfl) (.tup (st_of q3') (.cons (.lst (sq_of q4') (dp_ints _)) (.cons (.int _) .nil)))) (shaped_lint _ _)) rfl) fun H18 e18 => k _

end
theorem all_mk {l : PySem.W.OpenLaw} {w : World} {K : PySem.W.Frag} {h : Heap} {mg : Str → Option Value} {fa : Addr} {f1 f2 f3 f4 f5 f6 f7 f8 f9 : Addr} (X : K.In h) (G : h.Ns mainGlobals mg) (hfa : mg "law" = some (.ref fa))
    {od1 an1 : Option Addr} {sl1 : Array (Option Value)} {oc1 dc1 pm1 cd1 ct1 : Value} {kV1 : Value} {od2 an2 : Option Addr} {sl2 : Array (Option Value)} {oc2 dc2 pm2 cd2 ct2 : Value} {kV2 : Value} {od3 an3 : Option Addr} {sl3 : Array (Option Value)} {oc3 dc3 pm3 cd3 ct3 : Value} {kV3 : Value} {od4 an4 : Option Addr} {sl4 : Array (Option Value)} {oc4 dc4 pm4 cd4 ct4 : Value} {kV4 : Value} {od5 an5 : Option Addr} {sl5 : Array (Option Value)} {oc5 dc5 pm5 cd5 ct5 : Value} {kV5 : Value} {od6 an6 : Option Addr} {sl6 : Array (Option Value)} {oc6 dc6 pm6 cd6 ct6 : Value} {kV6 : Value} {od7 an7 : Option Addr} {sl7 : Array (Option Value)} {oc7 dc7 pm7 cd7 ct7 : Value} {kV7 : Value} {od8 an8 : Option Addr} {sl8 : Array (Option Value)} {oc8 dc8 pm8 cd8 ct8 : Value} {kV8 : Value} {od9 an9 : Option Addr} {sl9 : Array (Option Value)} {oc9 dc9 pm9 cd9 ct9 : Value} {kV9 : Value} {u_MOST_SHIFT : Value}
    (a1 : PySem.W.nsIn K mainGlobals "quantize" = some (some (.ref f1)))
    (l1 : K.lookup f1 = some ⟨oc1, od1, .func (PySem.W.fnOf "quantize" "quantize" (defArgs s_quantize) (defBody s_quantize) (defScope s_quantize) .none kV1 dc1 pm1 an1 cd1 ct1), sl1⟩) (c1 : PySem.W.codeIn K cd1 "quantize" = true) (k1 : PySem.W.keepIn K (.ref f1) = true)
    (a2 : PySem.W.nsIn K mainGlobals "_rounded" = some (some (.ref f2)))
    (l2 : K.lookup f2 = some ⟨oc2, od2, .func (PySem.W.fnOf "_rounded" "_rounded" (defArgs s_rounded) (defBody s_rounded) (defScope s_rounded) .none kV2 dc2 pm2 an2 cd2 ct2), sl2⟩) (c2 : PySem.W.codeIn K cd2 "_rounded" = true) (k2 : PySem.W.keepIn K (.ref f2) = true)
    (a3 : PySem.W.nsIn K mainGlobals "_law_cell" = some (some (.ref f3)))
    (l3 : K.lookup f3 = some ⟨oc3, od3, .func (PySem.W.fnOf "_law_cell" "_law_cell" (defArgs s_law_cell) (defBody s_law_cell) (defScope s_law_cell) .none kV3 dc3 pm3 an3 cd3 ct3), sl3⟩) (c3 : PySem.W.codeIn K cd3 "_law_cell" = true) (k3 : PySem.W.keepIn K (.ref f3) = true)
    (a4 : PySem.W.nsIn K mainGlobals "_law_integer" = some (some (.ref f4)))
    (l4 : K.lookup f4 = some ⟨oc4, od4, .func (PySem.W.fnOf "_law_integer" "_law_integer" (defArgs s_law_integer) (defBody s_law_integer) (defScope s_law_integer) .none kV4 dc4 pm4 an4 cd4 ct4), sl4⟩) (c4 : PySem.W.codeIn K cd4 "_law_integer" = true) (k4 : PySem.W.keepIn K (.ref f4) = true)
    (a5 : PySem.W.nsIn K mainGlobals "_law_integers" = some (some (.ref f5)))
    (l5 : K.lookup f5 = some ⟨oc5, od5, .func (PySem.W.fnOf "_law_integers" "_law_integers" (defArgs s_law_integers) (defBody s_law_integers) (defScope s_law_integers) .none kV5 dc5 pm5 an5 cd5 ct5), sl5⟩) (c5 : PySem.W.codeIn K cd5 "_law_integers" = true) (k5 : PySem.W.keepIn K (.ref f5) = true)
    (a6 : PySem.W.nsIn K mainGlobals "_law_row" = some (some (.ref f6)))
    (l6 : K.lookup f6 = some ⟨oc6, od6, .func (PySem.W.fnOf "_law_row" "_law_row" (defArgs s_law_row) (defBody s_law_row) (defScope s_law_row) .none kV6 dc6 pm6 an6 cd6 ct6), sl6⟩) (c6 : PySem.W.codeIn K cd6 "_law_row" = true) (k6 : PySem.W.keepIn K (.ref f6) = true)
    (a7 : PySem.W.nsIn K mainGlobals "_law_rounded" = some (some (.ref f7)))
    (l7 : K.lookup f7 = some ⟨oc7, od7, .func (PySem.W.fnOf "_law_rounded" "_law_rounded" (defArgs s_law_rounded) (defBody s_law_rounded) (defScope s_law_rounded) .none kV7 dc7 pm7 an7 cd7 ct7), sl7⟩) (c7 : PySem.W.codeIn K cd7 "_law_rounded" = true) (k7 : PySem.W.keepIn K (.ref f7) = true)
    (a8 : PySem.W.nsIn K mainGlobals "_law_expected" = some (some (.ref f8)))
    (l8 : K.lookup f8 = some ⟨oc8, od8, .func (PySem.W.fnOf "_law_expected" "_law_expected" (defArgs s_law_expected) (defBody s_law_expected) (defScope s_law_expected) .none kV8 dc8 pm8 an8 cd8 ct8), sl8⟩) (c8 : PySem.W.codeIn K cd8 "_law_expected" = true) (k8 : PySem.W.keepIn K (.ref f8) = true)
    (a9 : PySem.W.nsIn K mainGlobals "law" = some (some (.ref f9)))
    (l9 : K.lookup f9 = some ⟨oc9, od9, .func (PySem.W.fnOf "law" "law" (defArgs s_law) (defBody s_law) (defScope s_law) .none kV9 dc9 pm9 an9 cd9 ct9), sl9⟩) (c9 : PySem.W.codeIn K cd9 "law" = true) (k9 : PySem.W.keepIn K (.ref f9) = true)
    (z_max : PySem.W.nsIn K mainGlobals "max" = some none)
    (z_abs : PySem.W.nsIn K mainGlobals "abs" = some none)
    (z_len : PySem.W.nsIn K mainGlobals "len" = some none)
    (z_isinstance : PySem.W.nsIn K mainGlobals "isinstance" = some none)
    (z_int : PySem.W.nsIn K mainGlobals "int" = some none)
    (z_bool : PySem.W.nsIn K mainGlobals "bool" = some none)
    (z_list : PySem.W.nsIn K mainGlobals "list" = some none)
    (z_all : PySem.W.nsIn K mainGlobals "all" = some none)
    (z_range : PySem.W.nsIn K mainGlobals "range" = some none)
    (z_tuple : PySem.W.nsIn K mainGlobals "tuple" = some none)
    (q_MOST_SHIFT : PySem.W.nsIn K mainGlobals "_MOST_SHIFT" = some (some u_MOST_SHIFT)) (r_MOST_SHIFT : RelV (.int (15)) u_MOST_SHIFT)
    : ∃ fd : FuncData, (∀ (s : Shared) (v : Value), BindsTo s fd ⟨[v], []⟩ [("script", v)]) ∧ ∀ base : Heap, K.In base → base.Ns mainGlobals mg → FnOk l.prog w K mg base CX0 5 fa fd ["script"] (sp_law K) := by
  have e := hfa.symm.trans (PySem.W.mg_of X G a9)
  cases e
  have F1 := fun_mk (st := s_quantize) l1 c1 k1
  have b1 := F1.binds (ps := ["numerators", "denominator", "precision"]) fun _ _ _ _ _ _ us hl => match us, hl with | [_, _, _], _ => rfl
  have F2 := fun_mk (st := s_rounded) l2 c2 k2
  have b2 := F2.binds (ps := ["a", "b"]) fun _ _ _ _ _ _ us hl => match us, hl with | [_, _], _ => rfl
  have F3 := fun_mk (st := s_law_cell) l3 c3 k3
  have b3 := F3.binds (ps := ["script", "k"]) fun _ _ _ _ _ _ us hl => match us, hl with | [_, _], _ => rfl
  have F4 := fun_mk (st := s_law_integer) l4 c4 k4
  have b4 := F4.binds (ps := ["value"]) fun _ _ _ _ _ _ us hl => match us, hl with | [_], _ => rfl
  have F5 := fun_mk (st := s_law_integers) l5 c5 k5
  have b5 := F5.binds (ps := ["values"]) fun _ _ _ _ _ _ us hl => match us, hl with | [_], _ => rfl
  have F6 := fun_mk (st := s_law_row) l6 c6 k6
  have b6 := F6.binds (ps := ["cell", "count", "bound"]) fun _ _ _ _ _ _ us hl => match us, hl with | [_, _, _], _ => rfl
  have F7 := fun_mk (st := s_law_rounded) l7 c7 k7
  have b7 := F7.binds (ps := ["numerator", "denominator", "moved"]) fun _ _ _ _ _ _ us hl => match us, hl with | [_, _, _], _ => rfl
  have F8 := fun_mk (st := s_law_expected) l8 c8 k8
  have b8 := F8.binds (ps := ["numerators", "denominator", "digits"]) fun _ _ _ _ _ _ us hl => match us, hl with | [_, _, _], _ => rfl
  have F9 := fun_mk (st := s_law) l9 c9 k9
  have b9 := F9.binds (ps := ["script"]) fun _ _ _ _ _ _ us hl => match us, hl with | [_], _ => rfl
  let T : TX K mg := ⟨f1, _, F1, b1, (PySem.W.mg_of X G a1), f2, _, F2, b2, (PySem.W.mg_of X G a2), f3, _, F3, b3, (PySem.W.mg_of X G a3), f4, _, F4, b4, (PySem.W.mg_of X G a4), f5, _, F5, b5, (PySem.W.mg_of X G a5), f6, _, F6, b6, (PySem.W.mg_of X G a6), f7, _, F7, b7, (PySem.W.mg_of X G a7), f8, _, F8, b8, (PySem.W.mg_of X G a8), fa, _, F9, b9, (PySem.W.mg_of X G a9), (PySem.W.mg_none_of X G z_max), (PySem.W.mg_none_of X G z_abs), (PySem.W.mg_none_of X G z_len), (PySem.W.mg_none_of X G z_isinstance), (PySem.W.mg_none_of X G z_int), (PySem.W.mg_none_of X G z_bool), (PySem.W.mg_none_of X G z_list), (PySem.W.mg_none_of X G z_all), (PySem.W.mg_none_of X G z_range), (PySem.W.mg_none_of X G z_tuple), u_MOST_SHIFT, (PySem.W.mg_of X G q_MOST_SHIFT), r_MOST_SHIFT⟩
  exact ⟨_, fun s v => .of_eq rfl, fun base _ _ => ok_law T⟩
end K61
open PySem PySem.W PyProof.Rows
set_option maxRecDepth 100000 in
set_option maxHeartbeats 0 in
theorem PySem.Challenge.cw_monochord_k61_quantized_coefficients_holds : PySem.Challenge.rw_monochord_k61_quantized_coefficients.Holds := by
  w_on; o_law; k_head; (case hw => w_witness2)
  k_fill
  refine L2.walk_of (l := PySem.Challenge.rw_monochord_k61_quantized_coefficients) (n := 63) (k := 5) (x := "script") (CX := fun _ => L2.CX0) (sp := fun w => K61.sp_law _) rfl (by decide) rfl ⟨rfl, by decide, by decide⟩ (fun w h Y => PySem.W.kIn_of Y) ?F (fun _ _ a ns hl _ hS => ⟨a, ns, rfl, hS, hl, fun _ => rfl⟩) (fun _ _ _ _ _ h => h)
  case F =>
    intro w mg fa h KX G hmg
    refine' K61.all_mk KX G hmg ?a1 ?l1 ?c1 ?k1 ?a2 ?l2 ?c2 ?k2 ?a3 ?l3 ?c3 ?k3 ?a4 ?l4 ?c4 ?k4 ?a5 ?l5 ?c5 ?k5 ?a6 ?l6 ?c6 ?k6 ?a7 ?l7 ?c7 ?k7 ?a8 ?l8 ?c8 ?k8 ?a9 ?l9 ?c9 ?k9 ?z_max ?z_abs ?z_len ?z_isinstance ?z_int ?z_bool ?z_list ?z_all ?z_range ?z_tuple ?q_MOST_SHIFT ?r_MOST_SHIFT
    (case a1 => k_is)
    (case l1 => k_is)
    (case c1 => k_is)
    (case k1 => k_is)
    (case a2 => k_is)
    (case l2 => k_is)
    (case c2 => k_is)
    (case k2 => k_is)
    (case a3 => k_is)
    (case l3 => k_is)
    (case c3 => k_is)
    (case k3 => k_is)
    (case a4 => k_is)
    (case l4 => k_is)
    (case c4 => k_is)
    (case k4 => k_is)
    (case a5 => k_is)
    (case l5 => k_is)
    (case c5 => k_is)
    (case k5 => k_is)
    (case a6 => k_is)
    (case l6 => k_is)
    (case c6 => k_is)
    (case k6 => k_is)
    (case a7 => k_is)
    (case l7 => k_is)
    (case c7 => k_is)
    (case k7 => k_is)
    (case a8 => k_is)
    (case l8 => k_is)
    (case c8 => k_is)
    (case k8 => k_is)
    (case a9 => k_is)
    (case l9 => k_is)
    (case c9 => k_is)
    (case k9 => k_is)
    (case z_max => k_is)
    (case z_abs => k_is)
    (case z_len => k_is)
    (case z_isinstance => k_is)
    (case z_int => k_is)
    (case z_bool => k_is)
    (case z_list => k_is)
    (case z_all => k_is)
    (case z_range => k_is)
    (case z_tuple => k_is)
    (case q_MOST_SHIFT => k_is)
    (case r_MOST_SHIFT => first | rfl | exact ⟨_, rfl⟩)
