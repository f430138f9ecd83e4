import PyProof.Rows.All
import Wide.All
import OpenK.AllK
import Wide.FinOn
import HandS.ForMost
import HandS.Steps
import HandS.Evl
import HandS.IsInst
import HandS.Wide
import PySem.Challenge.RW_monochord_k59_window_and_autocorrelation
set_option Elab.async false
set_option linter.all false
set_option maxRecDepth 100000
set_option maxHeartbeats 4000000
namespace K59
open PySem PySem.Spec PyProof.Rows L2 Evl
def topS (i : Nat) : Stmt := PySem.Challenge.pw_monochord_k59_window_and_autocorrelation.main.body.getD i (.Pass ⟨0, 0, 0, 0⟩)
abbrev s_weighted : Stmt := topS 1
theorem sc_weighted : FnScope ["samples", "many", "at", "sample"] ["samples"] (defScope s_weighted) := ⟨rfl, rfl, rfl, by decide +kernel, rfl, by decide +kernel, by decide +kernel⟩
abbrev s_autocorrelation : Stmt := topS 2
theorem sc_autocorrelation : FnScope ["values", "most", "lag", "a", "b"] ["values", "most"] (defScope s_autocorrelation) := ⟨rfl, rfl, rfl, by decide +kernel, rfl, by decide +kernel, by decide +kernel⟩
abbrev s_law_cell : Stmt := topS 4
theorem sc_law_cell : FnScope ["script", "k"] ["script", "k"] (defScope s_law_cell) := ⟨rfl, rfl, rfl, by decide +kernel, rfl, by decide +kernel, by decide +kernel⟩
abbrev s_law_integer : Stmt := topS 5
theorem sc_law_integer : FnScope ["value"] ["value"] (defScope s_law_integer) := ⟨rfl, rfl, rfl, by decide +kernel, rfl, by decide +kernel, by decide +kernel⟩
abbrev s_law_integers : Stmt := topS 6
theorem sc_law_integers : FnScope ["values", "value"] ["values"] (defScope s_law_integers) := ⟨rfl, rfl, rfl, by decide +kernel, rfl, by decide +kernel, by decide +kernel⟩
abbrev s_law_row : Stmt := topS 7
theorem sc_law_row : FnScope ["cell", "count", "bound", "rest", "mixed", "row", "k"] ["cell", "count", "bound"] (defScope s_law_row) := ⟨rfl, rfl, rfl, by decide +kernel, rfl, by decide +kernel, by decide +kernel⟩
abbrev s_law_sums : Stmt := topS 8
theorem sc_law_sums : FnScope ["values", "most", "sums", "i", "j"] ["values", "most"] (defScope s_law_sums) := ⟨rfl, rfl, rfl, by decide +kernel, rfl, by decide +kernel, by decide +kernel⟩
abbrev s_law : Stmt := topS 9
theorem sc_law : FnScope ["script", "first", "scale", "count", "samples", "most", "expected", "k", "given", "actual", "plain", "sums", "x"] ["script"] (defScope s_law) := ⟨rfl, rfl, rfl, by decide +kernel, rfl, by decide +kernel, by decide +kernel⟩
theorem hu64 {A : Around} {k : Nat} (hr : Room k A) : A.units + 64 < cLine := hr.units
/-! ### short words for readings -/
theorem ret_eq {v w : V} {H H' : Hp} {Q : VK} (k : RetV v H Q) (ex : Ex H H') (e : w = v) : Q w H' := e ▸ k H' ex
/-- isinstance(x, T), T a built-in class -/
theorem ev_isi {K : PySem.W.Frag} {σ : L2.St} {H : Hp} {ta : TE} {x : V} {t : String} {T : String} {b : Bool} (ha : Ev ta σ H x) (ht : ∀ H1, Ex H H1 → TyX K H1 x (.type t)) (hk : kitB t T = some b) :
    Ev (tCB (rIsi K) (tCons ta (tCons (tC (.ty T)) tNil))) σ H (.bl b) :=
  ev_cb (ea_cons ha (ea_cons ev_c ea_nil)) fun H1 e Q q => ⟨x, .ty T, _, _, b, rfl, .ty T, ht H1 e, kit_ty hk, q H1 (Ex.refl H1)⟩
theorem isi_int {K : PySem.W.Frag} {H : Hp} {i : Int} : ∀ H1, Ex H H1 → TyX K H1 (V.int i) (.type "int") := fun _ _ => .base (.int _)
theorem isi_bl {K : PySem.W.Frag} {H : Hp} {b : Bool} : ∀ H1, Ex H H1 → TyX K H1 (V.bl b) (.type "bool") := fun _ _ => .base (.bl _)
theorem isi_non {K : PySem.W.Frag} {H : Hp} : ∀ H1, Ex H H1 → TyX K H1 V.non (.type "NoneType") := fun _ _ => .base .non
theorem isi_lst {K : PySem.W.Frag} {H : Hp} {a : Addr} {xs : List V} (h : H a = some (.lst xs)) : ∀ H1, Ex H H1 → TyX K H1 (V.ref a) (.type "list") := fun _ e => .base (.lst (e _ _ h))
theorem isi_tup {K : PySem.W.Frag} {H : Hp} {a : Addr} {xs : List V} (h : H a = some (.tup xs)) : ∀ H1, Ex H H1 → TyX K H1 (V.ref a) (.type "tuple") := fun _ e => .base (.tup (e _ _ h))
theorem kit_ii : kitB "int" "int" = some true := by decide +kernel
theorem kit_ib : kitB "int" "bool" = some false := by decide +kernel
theorem kit_bb : kitB "bool" "bool" = some true := by decide +kernel
theorem kit_bi : kitB "bool" "int" = some true := by decide +kernel
theorem kit_ll : kitB "list" "list" = some true := by decide +kernel
theorem kit_tt : kitB "tuple" "tuple" = some true := by decide +kernel
theorem ev_isiI {K : PySem.W.Frag} {σ : L2.St} {H : Hp} {ta : TE} {i : Int} (ha : Ev ta σ H (.int i)) : Ev (tCB (rIsi K) (tCons ta (tCons (tC (.ty "int")) tNil))) σ H (.bl true) := ev_isi ha isi_int kit_ii
theorem ev_isiB {K : PySem.W.Frag} {σ : L2.St} {H : Hp} {ta : TE} {i : Int} (ha : Ev ta σ H (.int i)) : Ev (tCB (rIsi K) (tCons ta (tCons (tC (.ty "bool")) tNil))) σ H (.bl false) := ev_isi ha isi_int kit_ib
theorem ev_isiL {K : PySem.W.Frag} {σ : L2.St} {H : Hp} {ta : TE} {a : Addr} {xs : List V} (ha : Ev ta σ H (.ref a)) (h : H a = some (.lst xs)) : Ev (tCB (rIsi K) (tCons ta (tCons (tC (.ty "list")) tNil))) σ H (.bl true) := ev_isi ha (isi_lst h) kit_ll
theorem ev_isiBB {K : PySem.W.Frag} {σ : L2.St} {H : Hp} {ta : TE} {b : Bool} (ha : Ev ta σ H (.bl b)) : Ev (tCB (rIsi K) (tCons ta (tCons (tC (.ty "bool")) tNil))) σ H (.bl true) := ev_isi ha isi_bl kit_bb
theorem ev_chain {σ : L2.St} {H : Hp} {ta tb tc : TE} {g g' : Int → Int → Bool} {a b c : Int} (ha : Ev ta σ H (.int a)) (hb : Ev tb σ H (.int b)) (hc : Ev tc σ H (.int c)) :
    Ev (tChain (rI0 fun i j => .bl (g i j)) (rI0 fun i j => .bl (g' i j)) ta tb tc) σ H (.bl (g a b && g' b c)) := fun H1 e Q q =>
  ha H1 e _ fun H2 e2 => hb H2 (e.trans e2) _ fun H3 e3 => ⟨a, b, rfl, rfl, g a b, rfl, by
    cases hg : g a b with
    | true =>
      rw [if_pos rfl]
      rw [hg, Bool.true_and] at q
      exact hc H3 ((e.trans e2).trans e3) _ fun H4 e4 => ⟨b, c, rfl, rfl, q H4 ((e2.trans e3).trans e4)⟩
    | false =>
      rw [if_neg (by decide)]
      rw [hg, Bool.false_and] at q
      exact q H3 (e2.trans e3)⟩
theorem ev_isN {σ : L2.St} {H : Hp} {ta : TE} {x : V} (ha : Ev ta σ H x) : Ev (tOp rIsN ta (tC .non)) σ H (.bl (decide (x = .non))) := fun H1 e Q q => ha H1 e _ fun H2 e2 => ⟨rfl, q H2 e2⟩
theorem ev_notN {σ : L2.St} {H : Hp} {ta : TE} {x : V} (ha : Ev ta σ H x) : Ev (tOp rNotN ta (tC .non)) σ H (.bl (!decide (x = .non))) := fun H1 e Q q => ha H1 e _ fun H2 e2 => ⟨rfl, q H2 e2⟩
theorem ev_min2 {σ : L2.St} {H : Hp} {ta tb : TE} {i j : Int} (ha : Ev ta σ H (.int i)) (hb : Ev tb σ H (.int j)) :
    Ev (tCB (fun xs H Q => ∃ i j, xs = [.int i, .int j] ∧ Q (.int (if j < i then j else i)) H) (tCons ta (tCons tb tNil))) σ H (.int (if j < i then j else i)) :=
  ev_cb (ea_cons ha (ea_cons hb ea_nil)) fun H1 _ _ q => ⟨i, j, rfl, q H1 (Ex.refl H1)⟩
theorem ev_negI {σ : L2.St} {H : Hp} {ta : TE} {i : Int} (ha : Ev ta σ H (.int i)) : Ev (tUn (rU fun i => .int (-i)) ta) σ H (.int (-i)) := ev_un ha ru_neg
theorem ev_I0 {σ : L2.St} {H : Hp} {ta tb : TE} {g : Int → Int → V} {i j : Int} (ha : Ev ta σ H (.int i)) (hb : Ev tb σ H (.int j)) : Ev (tOp (rI0 g) ta tb) σ H (g i j) := ev_op ha hb rv_I0
theorem ev_I {σ : L2.St} {H : Hp} {ta tb : TE} {C : Int → Int → Prop} {g : Int → Int → V} {i j : Int} (ha : Ev ta σ H (.int i)) (hb : Ev tb σ H (.int j)) (hc : C i j) : Ev (tOp (rI C g) ta tb) σ H (g i j) := ev_op ha hb (rv_I hc)
theorem ev_eq {σ : L2.St} {H : Hp} {ta tb : TE} {x y : V} (ha : Ev ta σ H x) (hb : Ev tb σ H y) (hs : scal x y = true) : Ev (tOp rEq ta tb) σ H (.bl (decide (x = y))) := ev_op ha hb (rv_eq hs)
theorem ev_ne {σ : L2.St} {H : Hp} {ta tb : TE} {x y : V} (ha : Ev ta σ H x) (hb : Ev tb σ H y) (hs : scal x y = true) : Ev (tOp rNe ta tb) σ H (.bl (!decide (x = y))) := ev_op ha hb (rv_ne hs)
theorem et_B' {σ : L2.St} {H : Hp} {te : TE} {x : V} {b : Bool} (h : Ev te σ H x) (e : x = .bl b) : EvT (tB te) σ H b := et_B (e ▸ h)
theorem dec_lt {a b : Nat} : decide ((a : Int) < (b : Int)) = decide (a < b) := by
  by_cases h : a < b
  · rw [decide_eq_true h, decide_eq_true (by omega)]
  · rw [decide_eq_false h, decide_eq_false (by omega)]
theorem int_at {ns : List Int} {i : Nat} {x : V} (hx : (ns.map V.int)[i]? = some x) : ∃ n, ns[i]? = some n ∧ i < ns.length ∧ x = V.int n := by
  rw [List.getElem?_map] at hx
  cases en : ns[i]? with
  | none => rw [en] at hx; cases hx
  | some n => rw [en] at hx; exact ⟨n, rfl, (List.getElem?_eq_some_iff.mp en).1, (Option.some.inj hx).symm⟩
theorem at_int {ns : List Int} {i : Nat} {n : Int} (h : ns[i]? = some n) : (ns.map V.int)[i]? = some (V.int n) := by rw [List.getElem?_map, h]; rfl
local macro_rules | `(tactic| walk_at "side") => `(tactic| first
  | omega | (show CMul _ _; unfold CMul; omega) | (show CDiv _ _; unfold CDiv; omega) | (show CPow _ _; unfold CPow; omega) | (show (_ : Int) < _; omega) | (show (_ : Int) ≤ _; omega) | decide)
local macro_rules | `(tactic| walk_at "ev") => `(tactic| first
  | exact ev_var rfl
  | exact ev_c
  | (refine' ev_I0 ?h1 ?h2; (case h1 => walk_at "ev"); (case h2 => walk_at "ev"))
  | (refine' ev_negI ?h1; (case h1 => walk_at "ev"))
  | (refine' ev_I ?h1 ?h2 ?hc; (case h1 => walk_at "ev"); (case h2 => walk_at "ev"); (case hc => walk_at "side"))
  | (refine' ev_eq ?h1 ?h2 ?hc; (case h1 => walk_at "ev"); (case h2 => walk_at "ev"); (case hc => rfl))
  | (refine' ev_ne ?h1 ?h2 ?hc; (case h1 => walk_at "ev"); (case h2 => walk_at "ev"); (case hc => rfl))
  | (refine' ev_max2 ?h1 ?h2; (case h1 => walk_at "ev"); (case h2 => walk_at "ev"))
  | (refine' ev_min2 ?h1 ?h2; (case h1 => walk_at "ev"); (case h2 => walk_at "ev"))
  | (refine' ev_chain ?h1 ?h2 ?h3; (case h1 => walk_at "ev"); (case h2 => walk_at "ev"); (case h3 => walk_at "ev"))
  | (refine' ev_isN ?h1; (case h1 => walk_at "ev"))
  | (refine' ev_notN ?h1; (case h1 => walk_at "ev"))
  | (refine' ev_isiI ?h1; (case h1 => walk_at "ev"))
  | (refine' ev_isiB ?h1; (case h1 => walk_at "ev"))
  | (refine' ev_isiBB ?h1; (case h1 => walk_at "ev"))
  | (refine' ev_andV ?h1 (fun _ => ?h2); (case h1 => walk_at "ev"); (case h2 => walk_at "ev"))
  | (refine' ev_orV ?h1 (fun _ => ?h2); (case h1 => walk_at "ev"); (case h2 => walk_at "ev"))
  | (refine' ev_notV ?h1; (case h1 => walk_at "ev"))
  | walk_at "evmore")
local macro_rules | `(tactic| walk_at "et") => `(tactic| first
  | (refine' et_test ?h1; (case h1 => walk_at "ev"))
  | (refine' et_B ?h1; (case h1 => walk_at "ev"))
  | (refine' et_not ?h1; (case h1 => walk_at "et"))
  | (refine' et_and ?h1 (fun _ => ?h2); (case h1 => walk_at "et"); (case h2 => walk_at "et"))
  | (refine' et_or ?h1 (fun _ => ?h2); (case h1 => walk_at "et"); (case h2 => walk_at "et")))
local macro_rules | `(tactic| walk_at "ea") => `(tactic| first
  | exact ea_nil
  | (refine' ea_cons ?h1 ?h2; (case h1 => walk_at "ev"); (case h2 => walk_at "ea")))
local macro_rules | `(tactic| walk_at "when") => `(tactic| (refine' q_when ?h ?h1 ?h2; (case h => walk_at "et")))
local macro_rules | `(tactic| walk_at "whenS") => `(tactic| (refine' s_when ?h ?h1 ?h2; (case h => walk_at "et")))
local macro_rules | `(tactic| walk_at "if") => `(tactic| (refine' q_if ?h ?h1 ?h2; (case h => walk_at "et")))
local macro_rules | `(tactic| walk_at "ifS") => `(tactic| (refine' s_if ?h ?h1 ?h2; (case h => walk_at "et")))
local macro_rules | `(tactic| walk_at "ret") => `(tactic| (refine' s_ret ?h ?h1; (case h => walk_at "ev")))
local macro_rules | `(tactic| walk_at "asg") => `(tactic| (refine' q_asg ?h ?h1; (case h => walk_at "ev")))
local macro_rules | `(tactic| walk_at "asgS") => `(tactic| (refine' s_asg ?h ?h1; (case h => walk_at "ev")))

/-! ### lists, existing or new -/
def EvR (te : TE) (σ : L2.St) (H : Hp) (xs : List V) : Prop := ∀ H1, Ex H H1 → ∀ Q : VK, (∀ p H2, Ex H1 H2 → H2 p = some (.lst xs) → Q (.ref p) H2) → te σ H1 Q
def EvS (K : PySem.W.Frag) (te : TE) (σ : L2.St) (H : Hp) (xs : List V) : Prop := ∀ H1, Ex H H1 → ∀ Q : VK, (∀ p H2, Ex H1 H2 → SqL K H2 p xs → Q (.ref p) H2) → te σ H1 Q
section
variable {K : PySem.W.Frag} {σ : L2.St} {H H' : Hp} {ta tb te : TE} {xs ys : List V} {a : Addr}
theorem EvL.r (h : EvL te σ H xs) : EvR te σ H xs := fun H1 e Q q => h H1 e Q fun p H2 _ e2 h2 => q p H2 e2 h2
theorem Ev.r (h : Ev te σ H (.ref a)) (hx : H a = some (.lst xs)) : EvR te σ H xs := fun H1 e Q q => h H1 e Q fun H2 e2 => q a H2 e2 (e2 _ _ (e _ _ hx))
theorem EvR.s (h : EvR te σ H xs) : EvS K te σ H xs := fun H1 e Q q => h H1 e Q fun p H2 e2 h2 => q p H2 e2 (sq_of h2)
theorem Ev.s (h : Ev te σ H (.ref a)) (hx : SqL K H a xs) : EvS K te σ H xs := fun H1 e Q q => h H1 e Q fun H2 e2 => q a H2 e2 (ex_l e2 (ex_l e hx))
theorem EvR.mono (e : Ex H H') (h : EvR te σ H xs) : EvR te σ H' xs := fun H1 a Q q => h H1 (e.trans a) Q q
theorem EvS.mono (e : Ex H H') (h : EvS K te σ H xs) : EvS K te σ H' xs := fun H1 a Q q => h H1 (e.trans a) Q q
theorem EvL.is (h : EvL te σ H xs) (e : xs = ys) : EvL te σ H ys := e ▸ h
theorem EvR.is (h : EvR te σ H xs) (e : xs = ys) : EvR te σ H ys := e ▸ h
theorem el_cat (ha : EvR ta σ H xs) (hb : EvR tb σ H ys) (hl : xs.length + ys.length ≤ 100000) : EvL (tOp rCat ta tb) σ H (xs ++ ys) := fun H1 e Q q =>
  ha H1 e _ fun p H2 e2 h2 => hb H2 (e.trans e2) _ fun r H3 e3 h3 => ⟨p, r, xs, ys, rfl, rfl, e3 _ _ h2, h3, sz_of hl, fun l hl => q l _ (fresh_back (e2.trans e3) hl) ((e2.trans e3).trans (Ex.new hl)) upd_same⟩
theorem el_rep {k : Int} (ha : EvR ta σ H xs) (hb : Ev tb σ H (.int k)) (hk : -(2 ^ 63) ≤ k ∧ k < 2 ^ 63) (hl : xs.length * k.toNat ≤ 100000) : EvL (tOp rRep ta tb) σ H (List.replicate k.toNat xs).flatten := fun H1 e Q q =>
  ha H1 e _ fun p H2 e2 h2 => hb H2 (e.trans e2) _ fun H3 e3 => ⟨p, k, xs, rfl, rfl, e3 _ _ h2, hk.1, hk.2, sz_of hl, fun l hl => q l _ (fresh_back (e2.trans e3) hl) ((e2.trans e3).trans (Ex.new hl)) upd_same⟩
theorem rep_one {x : V} (n : Nat) : (List.replicate n [x]).flatten = List.replicate n x := by
  induction n with
  | zero => rfl
  | succ n ih => rw [List.replicate_succ, List.replicate_succ, List.flatten_cons, ih]; rfl
theorem el_of {te : TE} (h : EvS K te σ H xs) : EvL (tCB (rListS K) (tCons te tNil)) σ H xs := fun H1 e Q q =>
  h H1 e _ fun p H2 e2 h2 => ⟨p, xs, rfl, .inl h2, fun l hl => q l _ (fresh_back e2 hl) (e2.trans (Ex.new hl)) upd_same⟩
theorem ev_lenS (h : EvS K te σ H xs) : Ev (tCB (rLenS K) (tCons te tNil)) σ H (.int (xs.length : Int)) := fun H1 e Q q =>
  h H1 e _ fun p H2 e2 h2 => ⟨p, xs, rfl, .inl h2, q H2 e2⟩
theorem ev_sum {ns : List Int} (h : EvS K te σ H (ns.map V.int)) : Ev (tCB (rSum K) (tCons te tNil)) σ H (.int ns.sum) := fun H1 e Q q =>
  h H1 e _ fun p H2 e2 h2 => ⟨p, ns, rfl, h2, q H2 e2⟩
theorem dp_ints {K : PySem.W.Frag} {H : Hp} : ∀ ns : List Int, DpAll K H (ns.map V.int) (ns.map PyData.int)
  | [] => .nil
  | n :: r => .cons (.int n) (dp_ints r)
theorem eqv_ints : ∀ ns ms : List Int, PyData.eqvAll (ns.map PyData.int) (ms.map PyData.int) = decide (ns = ms)
  | [], [] => by simp [PyData.eqvAll]
  | [], _ :: _ => by simp [PyData.eqvAll]
  | _ :: _, [] => by simp [PyData.eqvAll]
  | n :: r, m :: t => by
    show (PyData.eqv (.int n) (.int m) && PyData.eqvAll (r.map PyData.int) (t.map PyData.int)) = _
    rw [eqv_ints r t]
    show ((n == m) && decide (r = t)) = _
    by_cases h1 : n = m <;> by_cases h2 : r = t <;> simp [h1, h2]
theorem canLay_ints : ∀ ns : List Int, PyData.canLayAll0 (ns.map PyData.int) = true
  | [] => by simp [PyData.canLayAll0]
  | n :: r => by
    show PyData.canLayAll0 (PyData.int n :: r.map PyData.int) = true
    rw [PyData.canLayAll0, canLay_ints r]
    simp [PyData.canLay0]
theorem depth_ints : ∀ ns : List Int, PyData.depthAll (ns.map PyData.int) ≤ 1
  | [] => by simp [PyData.depthAll]
  | n :: r => by
    show PyData.depthAll (PyData.int n :: r.map PyData.int) ≤ 1
    have := depth_ints r
    simp only [PyData.depthAll, PyData.depth]
    omega
theorem shaped_ints (ns : List Int) : SeqAt.shaped (.list (ns.map PyData.int)) = true := by
  unfold SeqAt.shaped
  have h1 := canLay_ints ns
  have h2 := depth_ints ns
  have h3 : PyData.depth (.list (ns.map PyData.int)) ≤ 64 := by
    rw [PyData.depth]
    omega
  rw [decide_eq_true h3, Bool.and_true]
  simpa only [PyData.canLay0] using h1
theorem ev_eqI {ns ms : List Int} (ha : EvS K ta σ H (ns.map V.int)) (hb : EvS K tb σ H (ms.map V.int)) : Ev (tOp (rEqD K) ta tb) σ H (.bl (decide (ns = ms))) := fun H1 e Q q =>
  ha H1 e _ fun p H2 e2 h2 => hb H2 (e.trans e2) _ fun r H3 e3 h3 => ⟨.list (ns.map PyData.int), .list (ms.map PyData.int), .lst (ex_l e3 h2) (dp_ints ns), .lst h3 (dp_ints ms), shaped_ints ns, shaped_ints ms, by
    show Q (.bl (PyData.eqvAll (ns.map PyData.int) (ms.map PyData.int))) H3
    rw [eqv_ints]
    exact q H3 (e2.trans e3)⟩
theorem ev_neI {ns ms : List Int} (ha : EvS K ta σ H (ns.map V.int)) (hb : EvS K tb σ H (ms.map V.int)) : Ev (tOp (rNeD K) ta tb) σ H (.bl (!decide (ns = ms))) := fun H1 e Q q =>
  ha H1 e _ fun p H2 e2 h2 => hb H2 (e.trans e2) _ fun r H3 e3 h3 => ⟨.list (ns.map PyData.int), .list (ms.map PyData.int), .lst (ex_l e3 h2) (dp_ints ns), .lst h3 (dp_ints ms), shaped_ints ns, shaped_ints ms, by
    show Q (.bl (!PyData.eqvAll (ns.map PyData.int) (ms.map PyData.int))) H3
    rw [eqv_ints]
    exact q H3 (e2.trans e3)⟩
theorem ev_ixS {i : Nat} {n : Int} {tl ti : TE} {v : V} (h : EvS K tl σ H xs) (hi : Ev ti σ H (.int n)) (ha : atI xs n = some v) : Ev (tOp (rIxL K) tl ti) σ H v := fun H1 e Q q =>
  h H1 e _ fun p H2 e2 h2 => hi H2 (e.trans e2) _ fun H3 e3 => ⟨p, xs, n, v, rfl, rfl, ex_l e3 h2, ha, q H3 (e2.trans e3)⟩
theorem el_slS {tl th : TO} {lo hi : Option Int} (h : EvS K te σ H xs) (h1 : EvO tl σ H lo) (h2 : EvO th σ H hi) : EvL (tSl (rSlL K) te tl th) σ H (cutV xs lo hi) := fun H1 e _ q =>
  h H1 e _ fun a H2 e2 hs => h1 H2 (e.trans e2) _ fun H3 e3 => h2 H3 ((e.trans e2).trans e3) _ fun H4 e4 =>
    ⟨a, xs, rfl, ex_l (e3.trans e4) hs, fun p hp => q p _ (fresh_back ((e2.trans e3).trans e4) hp) (((e2.trans e3).trans e4).trans (Ex.new hp)) upd_same⟩
theorem ev_at {n : Int} {tl ti : TE} {v : V} (h : EvS K tl σ H xs) (hi : Ev ti σ H (.int n)) (ha : atI xs n = some v) : Ev (tOp (rIxL K) tl ti) σ H v := ev_ixS (i := 0) h hi ha
theorem cut_to (xs : List V) (i : Nat) : cutV xs none (some (i : Int)) = xs.take i := by
  unfold cutV
  rw [HT.sIx_none, HT.sIx_nat, List.drop_zero, Nat.sub_zero]
  by_cases h : i ≤ xs.length
  · rw [Nat.min_eq_left h]
  · rw [Nat.min_eq_right (by omega), List.take_of_length_le (Nat.le_refl _), List.take_of_length_le (by omega)]
theorem cut_from (xs : List V) (i : Nat) : cutV xs (some (i : Int)) none = xs.drop i := by
  unfold cutV
  rw [HT.sIx_none, HT.sIx_nat]
  by_cases h : i ≤ xs.length
  · rw [Nat.min_eq_left h, List.take_of_length_le (by rw [List.length_drop]; omega)]
  · rw [Nat.min_eq_right (by omega), List.drop_of_length_le (Nat.le_refl _), List.drop_of_length_le (show xs.length ≤ i by omega), List.take_nil]
theorem cut_mid (xs : List V) (i j : Nat) : cutV xs (some (i : Int)) (some (j : Int)) = (xs.drop i).take (j - i) := by
  unfold cutV
  rw [HT.sIx_nat, HT.sIx_nat]
  by_cases h : i ≤ xs.length
  · rw [Nat.min_eq_left h]
    by_cases h2 : j ≤ xs.length
    · rw [Nat.min_eq_left h2]
    · rw [Nat.min_eq_right (by omega), List.take_of_length_le (by rw [List.length_drop]; omega), List.take_of_length_le (by rw [List.length_drop]; omega)]
  · rw [Nat.min_eq_right (by omega : xs.length ≤ i), List.drop_of_length_le (Nat.le_refl _), List.drop_of_length_le (show xs.length ≤ i by omega)]
    simp
theorem el_to {th : TE} {ns : List Int} {i : Nat} (h : EvS K te σ H (ns.map V.int)) (h2 : Ev th σ H (.int i)) : EvL (tSl (rSlL K) te tNoPart (tPart th)) σ H ((ns.take i).map V.int) :=
  EvL.is (el_slS h eo_none (eo_some h2)) (by rw [List.map_take]; exact cut_to _ i)
theorem el_from {th : TE} {ns : List Int} {i : Nat} (h : EvS K te σ H (ns.map V.int)) (h2 : Ev th σ H (.int i)) : EvL (tSl (rSlL K) te (tPart th) tNoPart) σ H ((ns.drop i).map V.int) :=
  EvL.is (el_slS h (eo_some h2) eo_none) (by rw [List.map_drop]; exact cut_from _ i)
theorem el_mid {t1 t2 : TE} {ns : List Int} {i j : Nat} (h : EvS K te σ H (ns.map V.int)) (h1 : Ev t1 σ H (.int i)) (h2 : Ev t2 σ H (.int j)) : EvL (tSl (rSlL K) te (tPart t1) (tPart t2)) σ H (((ns.drop i).take (j - i)).map V.int) :=
  EvL.is (el_slS h (eo_some h1) (eo_some h2)) (by rw [List.map_take, List.map_drop]; exact cut_mid _ i j)
section
variable {D : Ends} {tz : TS} {sp : Sp} {dvs vs : List V} {E : XK} {tA : TA}
/-- x = f(..), whatever f promises -/
theorem q_asgC {i : Nat} (h : EvA tA σ H vs) (k : ∀ H1, Ex H H1 → sp (vs ++ dvs) H1 (fun x H2 => tz D (σ.set i (some x)) H2) E) : tSeq (tAsg (tCall sp dvs E tA) (gName i)) tz D σ H := h H (Ex.refl H) _ fun H1 e => k H1 e
theorem s_asgC {i : Nat} (h : EvA tA σ H vs) (k : ∀ H1, Ex H H1 → sp (vs ++ dvs) H1 (fun x H2 => D.nx (σ.set i (some x)) H2) E) : tAsg (tCall sp dvs E tA) (gName i) D σ H := h H (Ex.refl H) _ fun H1 e => k H1 e
theorem q_dropC (h : EvA tA σ H vs) (k : ∀ H1, Ex H H1 → sp (vs ++ dvs) H1 (fun _ H2 => tz D σ H2) E) : tSeq (tDrop (tCall sp dvs E tA)) tz D σ H := h H (Ex.refl H) _ fun H1 e => k H1 e
theorem s_retC (h : EvA tA σ H vs) (k : ∀ H1, Ex H H1 → sp (vs ++ dvs) H1 D.rt E) : tRet (tCall sp dvs E tA) D σ H := h H (Ex.refl H) _ fun H1 e => k H1 e
end
theorem gl_get {ns : List Int} {i : Nat} (h : i < ns.length) : ns[i]? = some (ns.getD i 0) := by
  rw [List.getD_eq_getElem?_getD, List.getElem?_eq_getElem h]
  rfl
theorem q_asgRaw {te : TE} {i : Nat} {D : Ends} {tz : TS} (P : V → Hp → Prop) (h : ∀ Q : VK, (∀ x H2, P x H2 → Q x H2) → te σ H Q) (k : ∀ x H2, P x H2 → tz D (σ.set i (some x)) H2) : tSeq (tAsg te (gName i)) tz D σ H := h _ k
/-- a, b = a pair -/
theorem q_asgT {te : TE} {i j : Nat} {D : Ends} {tz : TS} (P : V → V → Hp → Prop) (h : ∀ Q : VK, (∀ t x y H2, P x y H2 → SqT K H2 t [x, y] → Q (.ref t) H2) → te σ H Q) (k : ∀ x y H2, P x y H2 → tz D ((σ.set i (some x)).set j (some y)) H2) :
    tSeq (tAsg te (gTup K 2 (gCons (gName i) (gCons (gName j) gNil)))) tz D σ H := h _ fun t x y H2 hP hT => ⟨t, [x, y], rfl, hT, rfl, x, [y], rfl, y, [], rfl, rfl, k x y H2 hP⟩
/-- the law's cell -/
def cellI (ns : List Int) (k : Int) : Int := ns.getD k.toNat 0
theorem cellI_in {ns : List Int} {k : Int} (h0 : 0 ≤ k) (h : k < ns.length) : ns[k.toNat]? = some (cellI ns k) := by
  unfold cellI
  rw [List.getD_eq_getElem?_getD, List.getElem?_eq_getElem (by omega)]
  rfl
theorem cellI_out {ns : List Int} {k : Int} (h : ¬ k < ns.length) : cellI ns k = 0 := by
  unfold cellI
  rw [List.getD_eq_getElem?_getD, List.getElem?_eq_none (by omega)]
  rfl
end
theorem Ex.get {H H' : Hp} {a : Addr} {o : HO} (e : Ex H H') (h : H a = some o) : H' a = some o := e a o h
local macro_rules | `(tactic| walk_at "hp") => `(tactic| first
  | assumption
  | exact upd_same
  | (refine' Ex.get (by assumption) ?h1; (case h1 => walk_at "hp")))
local macro_rules | `(tactic| walk_at "ex") => `(tactic| first
  | assumption
  | exact Ex.refl _
  | (refine' Ex.trans ?h1 (by assumption); (case h1 => walk_at "ex")))
local macro_rules | `(tactic| walk_at "sq") => `(tactic| first
  | assumption
  | (refine' sq_of ?h1; (case h1 => walk_at "hp"))
  | (refine' ex_l (by assumption) ?h1; (case h1 => walk_at "sq")))
local macro_rules | `(tactic| walk_at "evs") => `(tactic| first
  | (refine' Ev.s ?h1 ?h2; (case h1 => exact ev_var rfl); (case h2 => walk_at "sq"))
  | (refine' EvR.s ?h1; (case h1 => walk_at "evr")))
local macro_rules | `(tactic| walk_at "evr") => `(tactic| first
  | (refine' Ev.r ?h1 ?h2; (case h1 => exact ev_var rfl); (case h2 => walk_at "hp"))
  | (refine' EvL.r ?h1; (case h1 => walk_at "el")))
local macro_rules | `(tactic| walk_at "eo") => `(tactic| first
  | exact eo_none
  | (refine' eo_some ?h1; (case h1 => walk_at "ev")))
local macro_rules | `(tactic| walk_at "el") => `(tactic| first
  | (refine' el_lst ?h1 ?h2; (case h1 => walk_at "ea"); (case h2 => exact Nat.le_of_ble_eq_true rfl))
  | (refine' el_cat ?h1 ?h2 ?h3; (case h1 => walk_at "evr"); (case h2 => walk_at "evr"); (case h3 => walk_at "len"))
  | (refine' el_rep ?h1 ?h2 ?h3 ?h4; (case h1 => walk_at "evr"); (case h2 => walk_at "ev"); (case h3 => walk_at "side2"); (case h4 => walk_at "len"))
  | (refine' el_of ?h1; (case h1 => walk_at "evs"))
  | (refine' el_to ?h1 ?h2; (case h1 => walk_at "evs"); (case h2 => walk_at "ev"))
  | (refine' el_from ?h1 ?h2; (case h1 => walk_at "evs"); (case h2 => walk_at "ev"))
  | (refine' el_mid ?h1 ?h2 ?h3; (case h1 => walk_at "evs"); (case h2 => walk_at "ev"); (case h3 => walk_at "ev"))
  | (refine' el_slS ?h1 ?h2 ?h3; (case h1 => walk_at "evs"); (case h2 => walk_at "eo"); (case h3 => walk_at "eo"))
  | walk_at "elmore")
local macro_rules | `(tactic| walk_at "evmore") => `(tactic| first
  | (refine' ev_lenS ?h1; (case h1 => walk_at "evs"))
  | (refine' ev_sum ?h1; (case h1 => walk_at "evs"))
  | (refine' ev_eqI ?h1 ?h2; (case h1 => walk_at "evs"); (case h2 => walk_at "evs"))
  | (refine' ev_neI ?h1 ?h2; (case h1 => walk_at "evs"); (case h2 => walk_at "evs"))
  | (refine' ev_at ?h1 ?h2 ?h3; (case h1 => walk_at "evs"); (case h2 => walk_at "ev"); (case h3 => walk_at "at"))
  | (refine' ev_isiL ?h1 ?h2; (case h1 => walk_at "ev"); (case h2 => walk_at "hp"))
  | walk_at "evown")
local macro_rules | `(tactic| walk_at "at") => `(tactic| first
  | exact at_of rfl (at_int (by assumption))
  | exact at_of rfl (by assumption))
local macro_rules | `(tactic| walk_at "asgL") => `(tactic| (refine' q_asgL ?h ?h1; (case h => walk_at "el")))
local macro_rules | `(tactic| walk_at "retL") => `(tactic| (refine' s_retL ?h ?h1; (case h => walk_at "el")))

/-- a walk's reading said in other words -/
theorem PI.k {X : Cx} {tg e : Expr} {wi wi' : TI} (h : PI X tg e wi) (q : wi = wi') : PI X tg e wi' := q ▸ h
/-! ### comprehensions whose items are said in a list -/
theorem et_yes {σ : L2.St} {H : Hp} : EvT tYes σ H true := fun H1 _ _ q => q H1 (Ex.refl H1)
section
variable {K : PySem.W.Frag} {σ : L2.St} {H : Hp} {t1 t2 te : TE} {xs ys zs : List V} {vs : List Nat}
theorem take_snoc {zs : List V} {i : Nat} {z : V} (h : zs[i]? = some z) : zs.take (i + 1) = zs.take i ++ [z] := by
  rw [List.take_add_one, h]
  rfl
theorem el_lcZ {j1 j2 : Nat} (zs : List V) (h1 : EvS K t1 σ H xs) (h2 : EvS K t2 σ H ys) (hz : zs.length = min xs.length ys.length) (hb : zs.length ≤ 50000)
    (hw : ∀ x y, wipe (((wipe σ vs).set j1 (some x)).set j2 (some y)) vs = wipe σ vs)
    (he : ∀ (i : Nat) (x y : V) H1, Ex H H1 → xs[i]? = some x → ys[i]? = some y → ∃ z, zs[i]? = some z ∧ Ev te (((wipe σ vs).set j1 (some x)).set j2 (some y)) H1 z) :
    EvL (tLc (iZip K (tCons t1 (tCons t2 tNil))) (gTup K 2 (gCons (gName j1) (gCons (gName j2) gNil))) tYes te vs) σ H zs := fun H0 e Q q =>
  h1 H0 e _ fun p H1 e1 hp => h2 H1 (e.trans e1) _ fun r H2 e2 hr => ⟨p, r, xs, ys, rfl, ex_l e2 hp, hr, fun D hD =>
    ⟨fun i m H' => m = zs.length - i ∧ i ≤ zs.length ∧ Ex H2 H' ∧ H' D = some (.lst (zs.take i)), ⟨zs.length, rfl, Nat.zero_le _, Ex.new hD, upd_same⟩, by
      rintro i m H' ⟨rfl, hi, ex, hd⟩
      have qx : SqL K H' p xs := ex_l (e2.trans ex) hp
      have qy : SqL K H' r ys := ex_l ex hr
      by_cases hlt : i < zs.length
      · have hx : xs[i]? = some xs[i] := List.getElem?_eq_getElem (by omega)
        have hy : ys[i]? = some ys[i] := List.getElem?_eq_getElem (by omega)
        refine .inr ⟨⟨xs, ys, _, _, qx, qy, hx, hy⟩, fun H3 => i + 1 ≤ zs.length ∧ Ex H2 H3 ∧ H3 D = some (.lst (zs.take (i + 1))), fun H3 h3 => ⟨zs.length - (i + 1), by omega, rfl, h3⟩, fun v H3 hv => ?_⟩
        obtain ⟨T, x, y, rfl, hT, rfl, f1, f2⟩ := hv
        have ex3 : Ex H' (upd H' T (.tup [x, y])) := Ex.new hT
        obtain ⟨z, hz1, hz2⟩ := he i x y (upd H' T (.tup [x, y])) ((((e.trans e1).trans e2).trans ex).trans ex3) (f1 _ qx) (f2 _ qy)
        refine ⟨T, [x, y], rfl, st_of upd_same, rfl, x, [y], rfl, y, [], rfl, rfl, hw x y, ?_⟩
        refine hz2 _ (Ex.refl _) _ fun H4 e4 => ⟨zs.take i, e4 _ _ (ex3 _ _ hd), sz_lt (by rw [List.length_take]; omega), hlt, ?_, ?_⟩
        · exact Ex.mut ((ex.trans ex3).trans e4) hD
        · rw [upd_same, take_snoc hz1]
      · have ei : i = zs.length := by omega
        refine .inl ⟨⟨xs, ys, qx, qy, by omega⟩, ?_⟩
        rw [ei, List.take_length] at hd
        exact q D H' (fresh_back (e1.trans e2) hD) ((e1.trans e2).trans ex) hd⟩⟩
/-- over a list, each item kept -/
theorem el_lcS {j : Nat} (zs : List V) (h1 : EvS K t1 σ H xs) (hz : zs.length = xs.length) (hb : zs.length ≤ 50000) (hw : ∀ x, wipe ((wipe σ vs).set j (some x)) vs = wipe σ vs)
    (he : ∀ (i : Nat) (x : V) H1, Ex H H1 → xs[i]? = some x → ∃ z, zs[i]? = some z ∧ Ev te ((wipe σ vs).set j (some x)) H1 z) :
    EvL (tLc (iList K t1) (gName j) tYes te vs) σ H zs := fun H0 e Q q =>
  h1 H0 e _ fun p H1 e1 hp => ⟨p, rfl, ⟨xs, hp⟩, fun D hD => lc_list (xs := xs) (fun i H' => Ex H1 H' ∧ H' D = some (.lst (zs.take i))) ⟨Ex.new hD, upd_same⟩ (fun i H' _ h => ex_l h.1 hp)
    (fun i x H' hi h => ⟨hw x, by
      obtain ⟨z, hz1, hz2⟩ := he i x H' ((e.trans e1).trans h.1) hi
      have hl : i < xs.length := (List.getElem?_eq_some_iff.mp hi).1
      refine hz2 H' (Ex.refl _) _ fun H4 e4 => ⟨zs.take i, e4 _ _ h.2, sz_lt (by rw [List.length_take]; omega), Ex.mut (h.1.trans e4) hD, ?_⟩
      rw [upd_same, take_snoc hz1]⟩)
    (fun H' h => q D H' (fresh_back e1 hD) (e1.trans h.1) (by rw [h.2, ← hz, List.take_length]))⟩
/-- over range(n) -/
theorem el_lcR {ta : TA} {n : Int} {j : Nat} (zs : List V) (h1 : EvA ta σ H [.int n]) (hn : -100000 ≤ n) (hz : zs.length = n.toNat) (hb : zs.length ≤ 50000) (hw : ∀ x, wipe ((wipe σ vs).set j (some x)) vs = wipe σ vs)
    (he : ∀ (i : Nat) H1, Ex H H1 → i < zs.length → ∃ z, zs[i]? = some z ∧ Ev te ((wipe σ vs).set j (some (.int (i : Int)))) H1 z) :
    EvL (tLc (iRng1 ta) (gName j) tYes te vs) σ H zs := fun H0 e Q q =>
  h1 H0 e _ fun H1 e1 => ⟨n, rfl, by omega, by omega, fun D hD => lc_range (lo := 0) (n := n.toNat) (fun i H' => Ex H1 H' ∧ H' D = some (.lst (zs.take i))) ⟨Ex.new hD, upd_same⟩
    (fun i H' hi h => by
      have e0 : (0 : Int) + (i : Int) = (i : Int) := Int.zero_add _
      rw [e0]
      obtain ⟨z, hz1, hz2⟩ := he i H' ((e.trans e1).trans h.1) (by omega)
      refine ⟨hw _, hz2 H' (Ex.refl _) _ fun H4 e4 => ⟨zs.take i, e4 _ _ h.2, sz_lt (by rw [List.length_take]; omega), Ex.mut (h.1.trans e4) hD, ?_⟩⟩
      rw [upd_same, take_snoc hz1])
    (fun H' h => q D H' (fresh_back e1 hD) (e1.trans h.1) (by rw [h.2, show n.toNat = zs.length by omega, List.take_length]))⟩
/-- y = [.. for x in f(..)], whatever f promises -/
theorem s_asgLC {sp : Sp} {dvs args : List V} {E : XK} {ta : TA} {g : TG} {tt : TT} {D : Ends} {i : Nat} (h : EvA ta σ H args) (k : ∀ H1, Ex H H1 → sp (args ++ dvs) H1 (fun x H2 => tAsg (tLc (iList K (tC x)) g tt te vs) (gName i) D σ H2) E) :
    tAsg (tLc (iList K (tCall sp dvs E ta)) g tt te vs) (gName i) D σ H := h H (Ex.refl H) _ fun H1 e => k H1 e
theorem q_asgLC {sp : Sp} {dvs args : List V} {E : XK} {ta : TA} {g : TG} {tt : TT} {D : Ends} {i : Nat} {tz : TS} (h : EvA ta σ H args) (k : ∀ H1, Ex H H1 → sp (args ++ dvs) H1 (fun x H2 => tSeq (tAsg (tLc (iList K (tC x)) g tt te vs) (gName i)) tz D σ H2) E) :
    tSeq (tAsg (tLc (iList K (tCall sp dvs E ta)) g tt te vs) (gName i)) tz D σ H := h H (Ex.refl H) _ fun H1 e => k H1 e
end

/-- [.. for i, x in enumerate(xs)] -/
theorem el_lcE {K : PySem.W.Frag} {σ : L2.St} {H : Hp} {t1 te : TE} {xs : List V} {vs : List Nat} {j1 j2 : Nat} (zs : List V) (h1 : EvS K t1 σ H xs) (hz : zs.length = xs.length) (hb : zs.length ≤ 50000)
    (hw : ∀ x y, wipe (((wipe σ vs).set j1 (some x)).set j2 (some y)) vs = wipe σ vs)
    (he : ∀ (i : Nat) (x : V) H1, Ex H H1 → xs[i]? = some x → ∃ z, zs[i]? = some z ∧ Ev te (((wipe σ vs).set j1 (some (.int (i : Int)))).set j2 (some x)) H1 z) :
    EvL (tLc (iEnum K (tCons t1 tNil)) (gTup K 2 (gCons (gName j1) (gCons (gName j2) gNil))) tYes te vs) σ H zs := fun H0 e Q q =>
  h1 H0 e _ fun p H1 e1 hp => ⟨p, xs, rfl, hp, fun D hD =>
    ⟨fun i m H' => m = zs.length - i ∧ i ≤ zs.length ∧ Ex H1 H' ∧ H' D = some (.lst (zs.take i)), ⟨zs.length, rfl, Nat.zero_le _, Ex.new hD, upd_same⟩, by
      rintro i m H' ⟨rfl, hi, ex, hd⟩
      have qx : SqL K H' p xs := ex_l ex hp
      by_cases hlt : i < zs.length
      · have hx : xs[i]? = some xs[i] := List.getElem?_eq_getElem (by omega)
        refine .inr ⟨⟨xs, _, qx, hx⟩, fun H3 => i + 1 ≤ zs.length ∧ Ex H1 H3 ∧ H3 D = some (.lst (zs.take (i + 1))), fun H3 h3 => ⟨zs.length - (i + 1), by omega, rfl, h3⟩, fun v H3 hv => ?_⟩
        obtain ⟨T, x, rfl, hT, rfl, f1⟩ := hv
        have ex3 : Ex H' (upd H' T (.tup [.int (i : Int), x])) := Ex.new hT
        obtain ⟨z, hz1, hz2⟩ := he i x (upd H' T (.tup [.int (i : Int), x])) (((e.trans e1).trans ex).trans ex3) (f1 _ qx)
        refine ⟨T, [.int (i : Int), x], rfl, st_of upd_same, rfl, .int (i : Int), [x], rfl, x, [], rfl, rfl, hw _ x, ?_⟩
        refine hz2 _ (Ex.refl _) _ fun H4 e4 => ⟨zs.take i, e4 _ _ (ex3 _ _ hd), sz_lt (by rw [List.length_take]; omega), hlt, ?_, ?_⟩
        · exact Ex.mut ((ex.trans ex3).trans e4) hD
        · rw [upd_same, take_snoc hz1]
      · have ei : i = zs.length := by omega
        refine .inl ⟨⟨xs, qx, by omega⟩, ?_⟩
        rw [ei, List.take_length] at hd
        exact q D H' (fresh_back e1 hD) (e1.trans ex) hd⟩⟩

/-- what the top has left -/
structure TX (K : PySem.W.Frag) (mg : Str → Option Value) where
  a_weighted : Addr
  d_weighted : FuncData
  F_weighted : Fun K "weighted" "weighted" s_weighted a_weighted d_weighted
  b_weighted : Binds K d_weighted ["samples"] []
  g_weighted : mg "weighted" = some (.ref a_weighted)
  a_autocorrelation : Addr
  d_autocorrelation : FuncData
  F_autocorrelation : Fun K "autocorrelation" "autocorrelation" s_autocorrelation a_autocorrelation d_autocorrelation
  b_autocorrelation : Binds K d_autocorrelation ["values", "most"] []
  g_autocorrelation : mg "autocorrelation" = some (.ref a_autocorrelation)
  a_law_cell : Addr
  d_law_cell : FuncData
  F_law_cell : Fun K "_law_cell" "_law_cell" s_law_cell a_law_cell d_law_cell
  b_law_cell : Binds K d_law_cell ["script", "k"] []
  g_law_cell : mg "_law_cell" = some (.ref a_law_cell)
  a_law_integer : Addr
  d_law_integer : FuncData
  F_law_integer : Fun K "_law_integer" "_law_integer" s_law_integer a_law_integer d_law_integer
  b_law_integer : Binds K d_law_integer ["value"] []
  g_law_integer : mg "_law_integer" = some (.ref a_law_integer)
  a_law_integers : Addr
  d_law_integers : FuncData
  F_law_integers : Fun K "_law_integers" "_law_integers" s_law_integers a_law_integers d_law_integers
  b_law_integers : Binds K d_law_integers ["values"] []
  g_law_integers : mg "_law_integers" = some (.ref a_law_integers)
  a_law_row : Addr
  d_law_row : FuncData
  F_law_row : Fun K "_law_row" "_law_row" s_law_row a_law_row d_law_row
  b_law_row : Binds K d_law_row ["cell", "count", "bound"] []
  g_law_row : mg "_law_row" = some (.ref a_law_row)
  a_law_sums : Addr
  d_law_sums : FuncData
  F_law_sums : Fun K "_law_sums" "_law_sums" s_law_sums a_law_sums d_law_sums
  b_law_sums : Binds K d_law_sums ["values", "most"] []
  g_law_sums : mg "_law_sums" = some (.ref a_law_sums)
  a_law : Addr
  d_law : FuncData
  F_law : Fun K "law" "law" s_law a_law d_law
  b_law : Binds K d_law ["script"] []
  g_law : mg "law" = some (.ref a_law)
  m_len : mg "len" = none
  m_enumerate : mg "enumerate" = none
  m_range : mg "range" = none
  m_sum : mg "sum" = none
  m_zip : mg "zip" = none
  m_isinstance : mg "isinstance" = none
  m_int : mg "int" = none
  m_bool : mg "bool" = none
  m_list : mg "list" = none
  m_all : mg "all" = none
  m_abs : mg "abs" = none
section
variable {P : Program} {w : World} {K : PySem.W.Frag} {mg : Str → Option Value} {base : Heap}
/-! ### int(x), bits of a number -/
theorem Ev.is {σ : L2.St} {H : Hp} {te : TE} {x y : V} (h : Ev te σ H x) (e : x = y) : Ev te σ H y := e ▸ h
theorem ev_int1 {σ : L2.St} {H : Hp} {te : TE} {i : Int} (h : Ev te σ H (.int i)) : Ev (tCB (fun xs H Q => (∃ i, xs = [V.int i] ∧ Q (V.int i) H) ∨ ∃ k, xs = [V.bl k] ∧ Q (V.int (if k = true then 1 else 0)) H) (tCons te tNil)) σ H (.int i) :=
  ev_cb (ea_cons h ea_nil) fun H1 _ Q q => .inl ⟨i, rfl, q H1 (Ex.refl H1)⟩
theorem q_augR {σ : L2.St} {H : Hp} {te : TE} {D : Ends} {tz : TS} {i : Nat} {g : Int → Int → V} {a b : Int} (h1 : σ[i]? = some (some (.int a))) (h : Ev te σ H (.int b)) (k : ∀ H1, Ex H H1 → tz D (σ.set i (some (g a b))) H1) : tSeq (tAug i te (rI0 g)) tz D σ H :=
  ⟨_, h1, h H (Ex.refl H) _ fun H1 e => ⟨a, b, rfl, rfl, k H1 e⟩⟩
theorem s_augR {σ : L2.St} {H : Hp} {te : TE} {D : Ends} {i : Nat} {g : Int → Int → V} {a b : Int} (h1 : σ[i]? = some (some (.int a))) (h : Ev te σ H (.int b)) (k : ∀ H1, Ex H H1 → D.nx (σ.set i (some (g a b))) H1) : tAug i te (rI0 g) D σ H :=
  ⟨_, h1, h H (Ex.refl H) _ fun H1 e => ⟨a, b, rfl, rfl, k H1 e⟩⟩
theorem ev_atT {K : PySem.W.Frag} {σ : L2.St} {H : Hp} {tl ti : TE} {t : Addr} {xs : List V} {n : Int} {v : V} (h : Ev tl σ H (.ref t)) (hT : SqT K H t xs) (hi : Ev ti σ H (.int n)) (ha : atI xs n = some v) : Ev (tOp (rIxT K) tl ti) σ H v := fun H1 e Q q =>
  h H1 e _ fun H2 e2 => hi H2 (e.trans e2) _ fun H3 e3 => ⟨t, xs, n, v, rfl, rfl, ex_t ((e.trans e2).trans e3) hT, ha, q H3 (e2.trans e3)⟩
local macro_rules | `(tactic| walk_at "side") => `(tactic| first
  | omega
  | (show CDivW _ _; exact ⟨by omega, by decide⟩)
  | (show CDivW _ _; exact wide_div (b := 80) (by omega) (by omega) (by decide) (by decide)))
local macro_rules | `(tactic| walk_at "evown") => `(tactic| (refine' ev_int1 ?h1; (case h1 => walk_at "ev")))
/-- numbers from 0 on, as such -/
def cs (ds : List Nat) : List Int := ds.map fun d : Nat => (d : Int)
theorem cs_of {ns : List Int} {b : Int} (h : ∀ n ∈ ns, 0 ≤ n ∧ n < b) : ∃ ds : List Nat, ns = cs ds ∧ ds.length = ns.length ∧ ∀ d ∈ ds, (d : Int) < b := by
  refine ⟨ns.map Int.toNat, ?_, List.length_map .., fun d hd => ?_⟩
  · unfold cs
    rw [List.map_map]
    conv => lhs; rw [← List.map_id ns]
    refine List.map_congr_left fun n hn => ?_
    have := (h n hn).1
    show n = ((n.toNat : Nat) : Int)
    omega
  · obtain ⟨n, hn, rfl⟩ := List.mem_map.mp hd
    have := h n hn
    omega
theorem cs_len (ds : List Nat) : (cs ds).length = ds.length := List.length_map ..
theorem cs_at {ds : List Nat} {i : Nat} {d : Nat} (h : ds[i]? = some d) : (cs ds)[i]? = some (d : Int) := by unfold cs; rw [List.getElem?_map, h]; rfl
theorem cs_take (ds : List Nat) (i : Nat) : (cs ds).take i = cs (ds.take i) := by unfold cs; rw [List.map_take]
theorem cs_drop (ds : List Nat) (i : Nat) : (cs ds).drop i = cs (ds.drop i) := by unfold cs; rw [List.map_drop]
theorem cs_append (ds es : List Nat) : cs (ds ++ es) = cs ds ++ cs es := List.map_append ..

theorem ev_all {σ : L2.St} {H : Hp} {te : TE} {bs : List Bool} {b : Bool} (h : EvS K te σ H (bs.map V.bl)) (hb : bs.all id = b) : Ev (tCB (rAll K) (tCons te tNil)) σ H (.bl b) := fun H1 e Q q => h H1 e _ fun p H2 e2 hp => ⟨p, bs, rfl, hp, by rw [hb]; exact q H2 e2⟩

def sp_cell (K : PySem.W.Frag) : Sp := fun vs H Q _ => ∃ (a : Addr) (ns : List Int) (k : Int), vs = [.ref a, .int k] ∧ SqL K H a (ns.map V.int) ∧ 0 ≤ k ∧ RetV (.int (cellI ns k)) H Q
theorem ok_law_cell (T : TX K mg) : FnOk P w K mg base CX0 1 T.a_law_cell T.d_law_cell ["script", "k"] (sp_cell K) := by
  refine T.F_law_cell.ok sc_law_cell (fun vs H Q E h => by obtain ⟨a, ns, k, rfl, _⟩ := h; rfl) (fun cdv A outer s H vs Q E hr h => ?_)
  obtain ⟨a, ns, k, rfl, hS, hk, q⟩ := h
  refine ⟨_, (pss_cons (ps_if (pt_cmpR op_lt (pv 1) (pe_callB (r := rLenS K) call_len_seq (by rfl) T.m_len PySem.boot_len (pa_cons (pv 0) pa_nil)) (nomark _)) (pss_one (ps_ret (pe_ix (r := rIxL K) ix_list (pv 0) (pv 1) (fun _ _ => rfl)))) pss_nil)
      (pss_one (ps_ret pe_int))), ?_⟩
  have hl := (ev_lenS (K := K) (Ev.s (te := tVar 0) (σ := start ["script", "k"] [.ref a, .int k]) (ev_var rfl) hS))
  refine q_when (et_test (ev_I0 (ev_var rfl) hl)) ?_ ?_
  · intro hb H1 e1
    have hb : k < ns.length := by
      have := of_decide_eq_true hb
      rwa [List.length_map] at this
    refine s_ret (v := .int (cellI ns k)) (ev_ixS (i := 0) (n := k) (Ev.s (ev_var rfl) (ex_l e1 hS)) (ev_var rfl) ?_) fun H2 e2 => q H2 (e1.trans e2)
    exact at_of (j := k.toNat) (by omega) (at_int (cellI_in hk hb))
  · intro hb H1 e1
    have hb : ¬ k < ns.length := by
      have := of_decide_eq_false hb
      rwa [List.length_map] at this
    walk_at "ret"
    intro H2 e2
    exact ret_eq q (e1.trans e2) (by rw [cellI_out hb])
theorem ev_cell {σ : L2.St} {H : Hp} {ta tk : TE} {E : XK} {ns : List Int} {k : Int} {a : Addr} (ha : Ev ta σ H (.ref a)) (hS : SqL K H a (ns.map V.int)) (hk : Ev tk σ H (.int k)) (h0 : 0 ≤ k) : Ev (tCall (sp_cell K) [] E (tCons ta (tCons tk tNil))) σ H (.int (cellI ns k)) :=
  ev_call (ea_cons ha (ea_cons hk ea_nil)) fun H1 e Q q _ => ⟨a, ns, k, rfl, ex_l e hS, h0, q⟩
local macro_rules | `(tactic| walk_at "evown") => `(tactic| (refine' ev_cell ?h1 ?h2 ?h3 ?h4; (case h1 => exact ev_var rfl); (case h2 => walk_at "sq"); (case h3 => walk_at "ev"); (case h4 => walk_at "side")))

/-! ### weights, autocorrelation -/
def wgt (ns : List Int) : List Int := (List.range ns.length).map fun i => ns.getD i 0 * ((i : Int) + 1) * ((ns.length : Int) - i)
theorem wgt_len (ns : List Int) : (wgt ns).length = ns.length := by unfold wgt; rw [List.length_map, List.length_range]
theorem wgt_at {ns : List Int} {i : Nat} {n : Int} (h : ns[i]? = some n) : (wgt ns)[i]? = some (n * ((i : Int) + 1) * ((ns.length : Int) - i)) := by
  have hi := (List.getElem?_eq_some_iff.mp h).1
  unfold wgt
  rw [List.getElem?_map, List.getElem?_range hi]
  show some (ns.getD i 0 * _ * _) = _
  rw [List.getD_eq_getElem?_getD, h]
  rfl
def sp_weighted (K : PySem.W.Frag) : Sp := fun vs H Q _ => ∃ (a : Addr) (ns : List Int), vs = [.ref a] ∧ SqL K H a (ns.map V.int) ∧ ns.length ≤ 1000 ∧ RetL ((wgt ns).map V.int) H Q
theorem ok_weighted (T : TX K mg) : FnOk P w K mg base CX0 1 T.a_weighted T.d_weighted ["samples"] (sp_weighted K) := by
  refine T.F_weighted.ok sc_weighted (fun vs H Q E h => by obtain ⟨a, ns, rfl, _⟩ := h; rfl) (fun cdv A outer s0 H vs Q E hr h => ?_)
  obtain ⟨a, ns, rfl, hS, hl, k⟩ := h
  refine ⟨_, (pss_cons (ps_set (i := 1) sc_weighted.nd rfl (Or.inr rfl) (pe_callB (r := rLenS K) call_len_seq (by rfl) T.m_len PySem.boot_len (pa_cons (pv 0) pa_nil)))
      (pss_one (ps_ret (pe_lc (own := [("at", 2), ("sample", 3)]) (g := (gTup K 2 (gCons (gName 2) (gCons (gName 3) gNil)))) (tt := tYes) rfl sc_weighted.nd (pi_enum (by rfl) T.m_enumerate (pa_cons (pv 0) pa_nil)) (blkOk_by (N := ["samples", "many", "at", "sample"]) (sc := defScope s_weighted) (by decide +kernel)) (fun _ _ _ _ _ => (pg_tup rfl (pgs_cons (pg_name (i := 2) sc_weighted.nd rfl (Or.inl rfl)) (pgs_cons (pg_name (i := 3) sc_weighted.nd rfl (Or.inl rfl)) pgs_nil)))) (fun _ _ _ _ _ => pts_nil) (fun _ _ _ _ _ => (pe_op op_mul (pe_op op_mul (pv 3) (pe_op op_add (pv 2) pe_int)) (pe_op op_sub (pv 1) (pv 2)))))))), ?_⟩
  refine q_asg (v := .int (ns.length : Int)) (Ev.is (ev_lenS (Ev.s (ev_var rfl) hS)) (by rw [List.length_map])) fun H1 e1 => ?_
  refine s_retL (el_lcE (xs := ns.map V.int) ((wgt ns).map V.int) (Ev.s (ev_var rfl) (ex_l e1 hS)) (by rw [List.length_map, List.length_map, wgt_len]) (by rw [List.length_map, wgt_len]; omega) (fun _ _ => rfl) fun i x H2 e2 hx => ?_) fun p H2 hp e2 g2 => k.go e1 hp e2 g2
  obtain ⟨n, hn, hi, rfl⟩ := int_at hx
  exact ⟨_, at_int (wgt_at hn), ev_I (ev_I (ev_var rfl) (ev_I0 (ev_var rfl) ev_c) (.inr ⟨by omega, by omega⟩)) (ev_I0 (ev_var rfl) (ev_var rfl)) (.inr ⟨by omega, by omega⟩)⟩
theorem el_weighted {σ : L2.St} {H : Hp} {te : TE} {E : XK} {ns : List Int} (h : EvS K te σ H (ns.map V.int)) (hl : ns.length ≤ 1000) : EvL (tCall (sp_weighted K) [] E (tCons te tNil)) σ H ((wgt ns).map V.int) := fun H1 e Q q =>
  h H1 e _ fun p H2 e2 hp => ⟨p, ns, rfl, hp, hl, fun r H3 hr e3 g3 => q r H3 (fresh_back e2 hr) (e2.trans e3) g3⟩
def lagS (ns : List Int) (d : Nat) : Int := (List.zipWith (fun x y => x * y) (ns.drop d) ns).sum
def acor (ns : List Int) (m : Nat) : List Int := (List.range (m + 1)).map (lagS ns)
theorem acor_len (ns : List Int) (m : Nat) : (acor ns m).length = m + 1 := by unfold acor; rw [List.length_map, List.length_range]
theorem acor_at {ns : List Int} {m i : Nat} (h : i < m + 1) : (acor ns m)[i]? = some (lagS ns i) := by unfold acor; rw [List.getElem?_map, List.getElem?_range h]; rfl
def BdA (ns : List Int) : Prop := ∀ n ∈ ns, -(2 ^ 60) < n ∧ n < 2 ^ 60
def sp_acor (K : PySem.W.Frag) : Sp := fun vs H Q _ => ∃ (a : Addr) (ns : List Int) (m : Nat), vs = [.ref a, .int (m : Int)] ∧ SqL K H a (ns.map V.int) ∧ ns.length ≤ 1000 ∧ m ≤ 1000 ∧ BdA ns ∧ RetL ((acor ns m).map V.int) H Q
theorem ok_autocorrelation (T : TX K mg) : FnOk P w K mg base CX0 1 T.a_autocorrelation T.d_autocorrelation ["values", "most"] (sp_acor K) := by
  refine T.F_autocorrelation.ok sc_autocorrelation (fun vs H Q E h => by obtain ⟨a, ns, m, rfl, _⟩ := h; rfl) (fun cdv A outer s0 H vs Q E hr h => ?_)
  obtain ⟨a, ns, m, rfl, hS, hl, hm, hbd, k⟩ := h
  refine ⟨_, (pss_one (ps_ret (pe_lc (own := [("lag", 2)]) (g := gName 2) (tt := tYes) rfl sc_autocorrelation.nd (pi_range1 (by rfl) T.m_range (pa_cons (pe_op op_add (pv 1) pe_int) pa_nil)) (blkOk_by (N := ["values", "most", "lag", "a", "b"]) (sc := defScope s_autocorrelation) (by decide +kernel)) (fun _ _ _ _ _ => pg_name (i := 2) sc_autocorrelation.nd rfl (Or.inl rfl)) (fun _ _ _ _ _ => pts_nil) (fun _ _ _ _ _ => (pe_callB (r := rSum K) (cr_sum rfl) (by rfl) T.m_sum PyProof.Rows.boot_sum (pa_cons (by exact pe_lc (own := [("a", 3), ("b", 4)]) (g := (gTup K 2 (gCons (gName 3) (gCons (gName 4) gNil)))) (tt := tYes) rfl sc_autocorrelation.nd (PI.k (wi' := iZip K _) (pi_zip (by rfl) T.m_zip (pa_cons (pe_slice (r := rSlL K) sl_list (pv 0) (po_some (pv 2)) po_none) (pa_cons (pv 0) pa_nil))) rfl) (blkOk_by (N := ["values", "most", "lag", "a", "b"]) (sc := relS _ (defScope s_autocorrelation)) (by decide +kernel)) (fun _ _ _ _ _ => (pg_tup rfl (pgs_cons (pg_name (i := 3) sc_autocorrelation.nd rfl (Or.inl rfl)) (pgs_cons (pg_name (i := 4) sc_autocorrelation.nd rfl (Or.inl rfl)) pgs_nil)))) (fun _ _ _ _ _ => pts_nil) (fun _ _ _ _ _ => (pe_op op_mul (pv 3) (pv 4)))) pa_nil)))))), ?_⟩
  refine s_retL (el_lcR (n := (m : Int) + 1) ((acor ns m).map V.int) (ea_cons (ev_I0 (ev_var rfl) ev_c) ea_nil) (by omega) (by rw [List.length_map, acor_len]; omega) (by rw [List.length_map, acor_len]; omega) (fun _ => rfl) fun i H1 e1 hi => ?_) fun p H2 hp e2 g2 => k p H2 hp e2 g2
  rw [List.length_map, acor_len] at hi
  refine ⟨_, at_int (acor_at hi), ?_⟩
  refine ev_sum (K := K) (ns := List.zipWith (fun x y => x * y) (ns.drop i) ns) (EvR.s (EvL.r (el_lcZ (K := K) (xs := (ns.drop i).map V.int) (ys := ns.map V.int) ((List.zipWith (fun x y => x * y) (ns.drop i) ns).map V.int) (EvR.s (EvL.r (el_from (Ev.s (ev_var rfl) (ex_l e1 hS)) (ev_var rfl)))) (Ev.s (ev_var rfl) (ex_l e1 hS)) (by rw [List.length_map, List.length_zipWith, List.length_map, List.length_map]) (by rw [List.length_map, List.length_zipWith]; omega) (fun x y => rfl) fun j x y H2 e2 hx hy => ?_)))
  obtain ⟨n, hn, hi, rfl⟩ := int_at hx
  obtain ⟨q, hq, hj, rfl⟩ := int_at hy
  have h1 := hbd q (List.mem_iff_getElem?.mpr ⟨j, hq⟩)
  exact ⟨.int (n * q), at_int (by rw [List.getElem?_zipWith, hn, hq]), ev_I (ev_var rfl) (ev_var rfl) (.inr ⟨by omega, by omega⟩)⟩
theorem el_acor {σ : L2.St} {H : Hp} {te tm : TE} {E : XK} {ns : List Int} {m : Nat} (h : EvS K te σ H (ns.map V.int)) (hM : Ev tm σ H (.int (m : Int))) (hl : ns.length ≤ 1000) (hm : m ≤ 1000) (hb : BdA ns) : EvL (tCall (sp_acor K) [] E (tCons te (tCons tm tNil))) σ H ((acor ns m).map V.int) := fun H1 e Q q =>
  h H1 e _ fun p H2 e2 hp => hM H2 (e.trans e2) _ fun H3 e3 => ⟨p, ns, m, rfl, ex_l e3 hp, hl, hm, hb, fun r H4 hr e4 g4 => q r H4 (fresh_back (e2.trans e3) hr) ((e2.trans e3).trans e4) g4⟩

def sp_isint : Sp := fun vs H Q _ => ∃ n : Int, vs = [.int n] ∧ RetV (.bl true) H Q
theorem ok_law_integer (T : TX K mg) : FnOk P w K mg base CX0 1 T.a_law_integer T.d_law_integer ["value"] sp_isint := by
  refine T.F_law_integer.ok sc_law_integer (fun vs H Q E h => by obtain ⟨n, rfl, _⟩ := h; rfl) (fun cdv A outer s H vs Q E hr h => ?_)
  obtain ⟨n, rfl, k⟩ := h
  refine ⟨_, (pss_one (ps_ret (pe_and (pe_callB (r := rIsi K) call_isi (by rfl) T.m_isinstance PyProof.Rows.boot_isinstance (pa_cons (pv 0) (pa_cons (pe_bltn (v := V.ty "int") (by rfl) T.m_int PyProof.Rows.boot_int rfl) pa_nil))) (pe_one (pe_not (pe_callB (r := rIsi K) call_isi (by rfl) T.m_isinstance PyProof.Rows.boot_isinstance (pa_cons (pv 0) (pa_cons (pe_bltn (v := V.ty "bool") (by rfl) T.m_bool PyProof.Rows.boot_bool rfl) pa_nil)))))))), ?_⟩
  walk_at "ret"
  intro H2 e2
  exact ret_eq k e2 rfl
theorem ev_isint {σ : L2.St} {H : Hp} {te : TE} {E : XK} {n : Int} (h : Ev te σ H (.int n)) : Ev (tCall sp_isint [] E (tCons te tNil)) σ H (.bl true) := ev_call (ea_cons h ea_nil) fun H1 _ Q q _ => ⟨n, rfl, q⟩

def sp_ints : Sp := fun vs H Q _ => ∃ (a : Addr) (ns : List Int), vs = [.ref a] ∧ H a = some (.lst (ns.map V.int)) ∧ ns.length ≤ 10000 ∧ RetV (.bl true) H Q
theorem ok_law_integers (T : TX K mg) : FnOk P w K mg base CX0 2 T.a_law_integers T.d_law_integers ["values"] sp_ints := by
  refine T.F_law_integers.ok sc_law_integers (fun vs H Q E h => by obtain ⟨a, ns, rfl, _⟩ := h; rfl) (fun cdv A outer s0 H vs Q E hr h => ?_)
  obtain ⟨a, ns, rfl, hA, hl, k⟩ := h
  refine ⟨_, (pss_cons (ps_if (pt_not (pt_val (pe_callB (r := rIsi K) call_isi (by rfl) T.m_isinstance PyProof.Rows.boot_isinstance (pa_cons (pv 0) (pa_cons (pe_bltn (v := V.ty "list") (by rfl) T.m_list PyProof.Rows.boot_list rfl) pa_nil))))) (pss_one (ps_ret pe_bl)) pss_nil)
      (pss_one (ps_ret (pe_callB (r := rAll K) (cr_all rfl) (by rfl) T.m_all PyProof.Rows.boot_all (pa_cons (pe_lc (own := [("value", 1)]) (g := gName 1) (tt := tYes) rfl sc_law_integers.nd (pi_list (pv 0)) (blkOk_by (N := ["values", "value"]) (sc := defScope s_law_integers) (by decide +kernel)) (fun _ _ _ _ _ => pg_name (i := 1) sc_law_integers.nd rfl (Or.inl rfl)) (fun _ _ _ _ _ => pts_nil) (fun _ _ _ _ _ => (pe_call (ok_law_integer T) (hr.mono (by decide)) (by rfl) T.g_law_integer T.F_law_integer.kp T.b_law_integer .nil pass0 (pa_cons (pv 1) pa_nil)))) pa_nil))))), ?_⟩
  walk_at "when"
  · intro hb
    exact absurd hb (by simp)
  intro _ H1 e1
  refine s_ret (v := .bl true) (ev_all (bs := ns.map fun _ => true) (EvR.s (EvL.r (EvL.is (xs := ns.map fun _ => V.bl true) (el_lcS _ (Ev.s (ev_var rfl) (sq_of (e1 _ _ hA))) (by rw [List.length_map, List.length_map]) (by rw [List.length_map]; omega) (fun _ => rfl) fun i x H2 e2 hx => ?_) (by rw [List.map_map]; rfl)))) (by simp)) fun H2 e2 => k.go (e1.trans e2)
  obtain ⟨n, hn, hi, rfl⟩ := int_at hx
  exact ⟨.bl true, by rw [List.getElem?_map, hn]; rfl, ev_isint (ev_var rfl)⟩
theorem ev_ints {σ : L2.St} {H : Hp} {te : TE} {E : XK} {ns : List Int} (h : EvR te σ H (ns.map V.int)) (hl : ns.length ≤ 10000) : Ev (tCall sp_ints [] E (tCons te tNil)) σ H (.bl true) := fun H1 e Q q =>
  h H1 e _ fun p H2 e2 hp => ⟨p, ns, rfl, hp, hl, fun H3 e3 => q H3 (e2.trans e3)⟩

/-! ### abs, int of a bool, the law's rows -/
theorem ev_abs {σ : L2.St} {H : Hp} {te : TE} {i : Int} (h : Ev te σ H (.int i)) : Ev (tCB (fun xs H Q => ∃ i, xs = [V.int i] ∧ Q (V.int (if i < 0 then -i else i)) H) (tCons te tNil)) σ H (.int (if i < 0 then -i else i)) :=
  ev_cb (ea_cons h ea_nil) fun H1 _ Q q => ⟨i, rfl, q H1 (Ex.refl H1)⟩
theorem ev_intB {σ : L2.St} {H : Hp} {te : TE} {b : Bool} (h : Ev te σ H (.bl b)) : Ev (tCB (fun xs H Q => (∃ i, xs = [V.int i] ∧ Q (V.int i) H) ∨ ∃ k, xs = [V.bl k] ∧ Q (V.int (if k = true then 1 else 0)) H) (tCons te tNil)) σ H (.int (if b = true then 1 else 0)) :=
  ev_cb (ea_cons h ea_nil) fun H1 _ Q q => .inr ⟨b, rfl, q H1 (Ex.refl H1)⟩
def sp_lrow : Sp := fun vs H Q _ => ∃ (c : Int) (n : Nat) (b : Int), vs = [.int c, .int (n : Int), .int b] ∧ n ≤ 1000 ∧ 0 < b ∧ b ≤ 2 ^ 50 ∧ ∀ p (ns : List Int) H', H p = none → Ex H H' → H' p = some (.lst (ns.map V.int)) → ns.length = n → (∀ x ∈ ns, 0 ≤ x ∧ x < b) → Q (.ref p) H'
theorem ok_law_row (T : TX K mg) : FnOk P w K mg base CX0 1 T.a_law_row T.d_law_row ["cell", "count", "bound"] sp_lrow := by
  refine T.F_law_row.ok sc_law_row (fun vs H Q E h => by obtain ⟨c, n, b, rfl, _⟩ := h; rfl) (fun cdv A outer s0 H vs Q E hr h => ?_)
  obtain ⟨c, n, b, rfl, hn, hb0, hb1, k⟩ := h
  refine ⟨_, (pss_cons (ps_set (i := 3) sc_law_row.nd rfl (Or.inl rfl) (pe_callB call_abs (by rfl) T.m_abs PyProof.Rows.boot_abs (pa_cons (pe_callTy call_int1 (by rfl) T.m_int PyProof.Rows.boot_int (pa_cons (pv 0) pa_nil)) pa_nil)))
      (pss_cons (ps_set (i := 4) sc_law_row.nd rfl (Or.inl rfl) (pe_op op_add (pe_op op_mod (pe_callTy call_int1 (by rfl) T.m_int PyProof.Rows.boot_int (pa_cons (pv 0) pa_nil)) pe_int) pe_int))
      (pss_cons (ps_set (i := 5) sc_law_row.nd rfl (Or.inl rfl) (pe_lst pa_nil))
      (pss_cons (ps_for PassesOwn.never rfl (pi_range1 (by rfl) T.m_range (pa_cons (pv 1) pa_nil)) (pg_name (i := 6) sc_law_row.nd rfl (Or.inl rfl)) (pss_one (ps_if (pt_cmpR op_ge (pv 3) (pv 2) (nomark _)) (pss_cons (ps_expr (pe_bm PySem.F.plainAttrs_list PySem.F.slot_list_append PySem.F.type_list_append mt_append (pv 5) (pa_cons (pe_op op_mod (pe_callTy call_int1 (by rfl) T.m_int PyProof.Rows.boot_int (pa_cons (pv 3) pa_nil)) (pv 2)) pa_nil)))
          (pss_one (ps_set (i := 3) sc_law_row.nd rfl (Or.inl rfl) (pe_op op_fdivW (pv 3) (pv 2))))) (pss_cons (ps_set (i := 4) sc_law_row.nd rfl (Or.inl rfl) (pe_op op_mod (pe_callTy call_int1 (by rfl) T.m_int PyProof.Rows.boot_int (pa_cons (pe_op op_add (pe_op op_add (pe_op op_mul (pv 4) pe_int) (pe_op op_mul pe_int (pv 6))) pe_int) pa_nil)) pe_int))
          (pss_one (ps_expr (pe_bm PySem.F.plainAttrs_list PySem.F.slot_list_append PySem.F.type_list_append mt_append (pv 5) (pa_cons (pe_op op_mod (pe_callTy call_int1 (by rfl) T.m_int PyProof.Rows.boot_int (pa_cons (pe_op op_fdivW (pe_op op_mul (pv 4) pe_int) pe_int) pa_nil)) (pv 2)) pa_nil))))))))
      (pss_one (ps_ret (pv 5))))))), ?_⟩
  have hlog : b.natAbs.log2 < 9000 := by
    have : b.natAbs < 2 ^ 51 := by omega
    have := (Nat.log2_lt (n := b.natAbs) (k := 51) (by omega)).mpr this
    omega
  refine q_asg (ev_abs (ev_int1 (ev_var rfl))) fun H1 e1 => ?_
  refine q_asg (ev_I0 (ev_I (ev_int1 (ev_var rfl)) ev_c (by decide)) ev_c) fun H2 e2 => ?_
  refine q_asgL (xs := []) (el_lst ea_nil (by decide)) fun p H3 hp3 e3 g3 => ?_
  have hp := fresh_back (e1.trans e2) hp3
  have e13 := (e1.trans e2).trans e3
  generalize (if c < 0 then -c else c) = re0
  generalize c % 1000003 + 1 = mx0
  refine q_forR1 (n := (n : Int)) (ea_cons (ev_var rfl) ea_nil) (by omega) (fun i σ' H' => ∃ (re mx : Int) (ns : List Int) (z6 : Option V), σ' = [some (.int c), some (.int (n : Int)), some (.int b), some (.int re), some (.int mx), some (.ref p), z6] ∧ Ex H H' ∧ H' p = some (.lst (ns.map V.int)) ∧ ns.length = i ∧ (∀ x ∈ ns, 0 ≤ x ∧ x < b)) (fun H4 e4 => ⟨re0, mx0, [], none, rfl, e13.trans e4, e4 _ _ g3, rfl, fun x hx => by cases hx⟩) ?_ ?_
  · rintro i σ' H4 hi ⟨re, mx, ns, z6, rfl, ex, gp, hnl, hns⟩
    have snoc : ∀ x : Int, 0 ≤ x → x < b → ∀ y ∈ ns ++ [x], 0 ≤ y ∧ y < b := fun x h0 h1 y hy => by
      rcases List.mem_append.mp hy with h | h
      · exact hns y h
      · rw [List.mem_singleton.mp h]
        exact ⟨h0, h1⟩
    have big : ns.length < 100000 := by omega
    refine s_if (et_test (ev_I0 (ev_var rfl) (ev_var rfl))) (fun _ H5 e5 => ?_) (fun _ H5 e5 => ?_)
    · refine q_app (v := .int (re % b)) (e5 _ _ gp) (ev_var rfl) (ev_I (ev_int1 (ev_var rfl)) (ev_var rfl) hb0) (by rw [List.length_map]; exact big) fun H6 e6 => ?_
      refine s_asg (v := .int (re / b)) (ev_I (ev_var rfl) (ev_var rfl) ⟨hb0, hlog⟩) fun H7 e7 => ⟨re / b, mx, ns ++ [re % b], _, rfl, (Ex.mut (ex.trans (e5.trans e6)) hp).trans e7, e7 _ _ (by rw [upd_same, List.map_append]; rfl), by rw [List.length_append, hnl]; rfl, snoc _ (Int.emod_nonneg _ (by omega)) (Int.emod_lt_of_pos _ hb0)⟩
    · obtain ⟨mx1, hmx⟩ : ∃ mx1, (mx * 48271 + 11 * (i : Int) + 7) % 2147483647 = mx1 := ⟨_, rfl⟩
      refine q_asg (v := .int mx1) (Ev.is (ev_I (ev_int1 (ev_I0 (ev_I0 (ev_I (ev_var rfl) ev_c (.inr (by decide))) (ev_I ev_c (ev_var rfl) (.inl (by decide)))) ev_c)) ev_c (by decide)) (congrArg V.int hmx)) fun H6 e6 => ?_
      refine s_app (v := .int ((mx1 * 2862933555777941757 / 1024) % b)) ((e5.trans e6) _ _ gp) (ev_var rfl) (ev_I (ev_int1 (ev_I (ev_I (ev_var rfl) ev_c (.inr (by decide))) ev_c ⟨by decide, by decide⟩)) (ev_var rfl) hb0) (by rw [List.length_map]; exact big) fun H7 e7 => ⟨re, mx1, ns ++ [(mx1 * 2862933555777941757 / 1024) % b], _, rfl, Ex.mut (ex.trans ((e5.trans e6).trans e7)) hp, by rw [upd_same, List.map_append]; rfl, by rw [List.length_append, hnl]; rfl, snoc _ (Int.emod_nonneg _ (by omega)) (Int.emod_lt_of_pos _ hb0)⟩
  · rintro σ' H4 ⟨re, mx, ns, z6, rfl, ex, gp, hnl, hns⟩
    rw [Int.toNat_natCast] at hnl
    exact s_ret (v := .ref p) (ev_var rfl) fun H5 e5 => k p ns H5 hp (ex.trans e5) (e5 _ _ gp) hnl hns

theorem takeG {α : Type} {zs : List α} {i : Nat} {z : α} (h : zs[i]? = some z) : zs.take (i + 1) = zs.take i ++ [z] := by
  rw [List.take_add_one, h]
  rfl
/-! ### the law's sums -/
def lagN (ns : List Int) (d : Nat) (i : Nat) : Int := ((List.range (i - d)).map fun t => ns.getD (t + d) 0 * ns.getD t 0).sum
theorem lagN_step (ns : List Int) (d i : Nat) : lagN ns d (i + 1) = lagN ns d i + if d ≤ i then ns.getD i 0 * ns.getD (i - d) 0 else 0 := by
  unfold lagN
  by_cases h : d ≤ i
  · rw [if_pos h, show i + 1 - d = (i - d) + 1 by omega, List.range_succ, List.map_append, List.sum_append]
    show _ + (ns.getD (i - d + d) 0 * ns.getD (i - d) 0 + 0) = _
    rw [show i - d + d = i by omega, Int.add_zero]
  · rw [if_neg h, show i + 1 - d = 0 by omega, show i - d = 0 by omega, Int.add_zero]
theorem lagN_zero (ns : List Int) (d : Nat) : lagN ns d 0 = 0 := by
  unfold lagN
  rw [Nat.zero_sub]
  rfl
theorem lagS_N (ns : List Int) (d : Nat) : lagS ns d = lagN ns d ns.length := by
  unfold lagS lagN
  congr 1
  apply List.ext_getElem?
  intro t
  rw [List.getElem?_zipWith, List.getElem?_drop, List.getElem?_map]
  by_cases h : t < ns.length - d
  · rw [List.getElem?_range h, gl_get (ns := ns) (i := d + t) (by omega), gl_get (ns := ns) (i := t) (by omega)]
    show some (ns.getD (d + t) 0 * ns.getD t 0) = some (ns.getD (t + d) 0 * ns.getD t 0)
    rw [Nat.add_comm]
  · rw [List.getElem?_eq_none (l := ns) (i := d + t) (by omega), List.getElem?_eq_none (l := List.range (ns.length - d)) (by rw [List.length_range]; omega)]
    rfl
theorem set_range {m d0 : Nat} {f g : Nat → Int} (h0 : ∀ d, d < m → d ≠ d0 → g d = f d) : ((List.range m).map fun d => V.int (f d)).set d0 (V.int (g d0)) = (List.range m).map fun d => V.int (g d) := by
  apply List.ext_getElem?
  intro t
  rw [List.getElem?_set, List.length_map, List.length_range]
  by_cases ht : t < m
  · rw [List.getElem?_map, List.getElem?_map, List.getElem?_range ht]
    by_cases hd : d0 = t
    · subst hd
      rw [if_pos rfl, if_pos ht]
      rfl
    · rw [if_neg hd]
      show some (V.int (f t)) = some (V.int (g t))
      rw [h0 t ht (fun e => hd e.symm)]
  · rw [List.getElem?_eq_none (l := (List.range m).map fun d => V.int (f d)) (by rw [List.length_map, List.length_range]; omega), List.getElem?_eq_none (l := (List.range m).map fun d => V.int (g d)) (by rw [List.length_map, List.length_range]; omega)]
    split
    · rw [if_neg (by omega)]
    · rfl
def sp_lsums (K : PySem.W.Frag) : Sp := fun vs H Q _ => ∃ (a : Addr) (ns : List Int) (m : Nat), vs = [.ref a, .int (m : Int)] ∧ SqL K H a (ns.map V.int) ∧ ns.length ≤ 1000 ∧ m ≤ 1000 ∧ BdA ns ∧ RetL ((acor ns m).map V.int) H Q
theorem ok_law_sums (T : TX K mg) : FnOk P w K mg base CX0 1 T.a_law_sums T.d_law_sums ["values", "most"] (sp_lsums K) := by
  refine T.F_law_sums.ok sc_law_sums (fun vs H Q E h => by obtain ⟨a, ns, m, rfl, _⟩ := h; rfl) (fun cdv A outer s0 H vs Q E hr h => ?_)
  obtain ⟨a, ns, m, rfl, hS, hl, hm, hbd, k⟩ := h
  refine ⟨_, (pss_cons (ps_set (i := 2) sc_law_sums.nd rfl (Or.inl rfl) (pe_op op_rep (pe_lst (pa_cons pe_int pa_nil)) (pe_op op_add (pv 1) pe_int)))
      (pss_cons (ps_for PassesOwn.never rfl (pi_range1 (by rfl) T.m_range (pa_cons (pe_callB (r := rLenS K) call_len_seq (by rfl) T.m_len PySem.boot_len (pa_cons (pv 0) pa_nil)) pa_nil)) (pg_name (i := 3) sc_law_sums.nd rfl (Or.inl rfl)) (pss_one (ps_for PassesOwn.never rfl (pi_range1 (by rfl) T.m_range (pa_cons (pe_op op_add (pv 3) pe_int) pa_nil)) (pg_name (i := 4) sc_law_sums.nd rfl (Or.inl rfl)) (pss_one (ps_if (pt_cmpR op_le (pe_op op_sub (pv 3) (pv 4)) (pv 1) (nomark _)) (pss_one (ps_asg (pe_op op_add (pe_ix (r := rIxL K) ix_list (pv 2) (pe_op op_sub (pv 3) (pv 4)) (fun _ _ => rfl)) (pe_op op_mul (pe_ix (r := rIxL K) ix_list (pv 0) (pv 3) (fun _ _ => rfl)) (pe_ix (r := rIxL K) ix_list (pv 0) (pv 4) (fun _ _ => rfl)))) (pg_sub (pv 2) (pe_op op_sub (pv 3) (pv 4)) set_list))) pss_nil)))))
      (pss_one (ps_ret (pv 2))))), ?_⟩
  refine q_asgL (xs := (List.range (m + 1)).map fun d => V.int (lagN ns d 0)) (EvL.is (el_rep (xs := [V.int 0]) (k := (m : Int) + 1) (EvL.r (el_lst (ea_cons ev_c ea_nil) (by decide))) (ev_I0 (ev_var rfl) ev_c) (by omega) (by show 1 * _ ≤ _; omega)) ?_) fun p H1 hp e1 g1 => ?_
  · rw [show ((m : Int) + 1).toNat = m + 1 by omega, rep_one]
    symm
    rw [List.eq_replicate_iff]
    refine ⟨by rw [List.length_map, List.length_range], fun b hb => ?_⟩
    obtain ⟨d, _, rfl⟩ := List.mem_map.mp hb
    rw [lagN_zero]
  have hlen : (ns.map V.int).length = ns.length := List.length_map ..
  refine q_forR1 (n := (ns.length : Int)) (ea_cons (Ev.is (ev_lenS (Ev.s (ev_var rfl) (ex_l e1 hS))) (by rw [hlen])) ea_nil) (by omega) (fun i σ' H' => ∃ z3 z4, σ' = [some (.ref a), some (.int (m : Int)), some (.ref p), z3, z4] ∧ Ex H H' ∧ H' p = some (.lst ((List.range (m + 1)).map fun d => V.int (lagN ns d i)))) (fun H2 e2 => ⟨none, none, rfl, e1.trans e2, e2 _ _ g1⟩) ?_ ?_
  · rintro i σ' H2 hi ⟨z3, z4, rfl, ex, gp⟩
    have hi : i < ns.length := by omega
    refine s_forR1 (n := (i : Int) + 1) (ea_cons (ev_I0 (ev_var rfl) ev_c) ea_nil) (by omega) (fun j σ2 H3 => ∃ z4, σ2 = [some (.ref a), some (.int (m : Int)), some (.ref p), some (.int (i : Int)), z4] ∧ Ex H H3 ∧ H3 p = some (.lst ((List.range (m + 1)).map fun d => V.int (lagN ns d i + if i < d + j ∧ d ≤ i then ns.getD i 0 * ns.getD (i - d) 0 else 0)))) (fun H3 e3 => ⟨z4, rfl, ex.trans e3, ?_⟩) ?_ ?_
    · rw [e3 _ _ gp]
      congr 2
      refine List.map_congr_left fun d _ => ?_
      rw [if_neg (by omega), Int.add_zero]
    · rintro j σ2 H3 hj ⟨y4, rfl, ex3, gp3⟩
      have hj : j ≤ i := by omega
      refine s_when (b := decide (i - j ≤ m)) (et_is (et_test (ev_I0 (ev_I0 (ev_var rfl) (ev_var rfl)) (ev_var rfl))) (decide_eq_decide.mpr (by omega))) (fun hb H4 e4 => ?_) (fun hb H4 e4 => ?_)
      · have hb := of_decide_eq_true hb
        have h1 := gl_get (ns := ns) (i := i) hi
        have h2 := gl_get (ns := ns) (i := j) (by omega)
        have hx : ((List.range (m + 1)).map fun d => V.int (lagN ns d i + if i < d + j ∧ d ≤ i then ns.getD i 0 * ns.getD (i - d) 0 else 0))[i - j]? = some (V.int (lagN ns (i - j) i)) := by
          rw [List.getElem?_map, List.getElem?_range (by omega)]
          show some (V.int (_ + if i < i - j + j ∧ _ then _ else _)) = _
          rw [if_neg (by omega), Int.add_zero]
        have hbi := hbd _ (List.mem_iff_getElem?.mpr ⟨i, h1⟩)
        have idx : ∀ H', Ev (tOp (rI0 fun i j => V.int (i - j)) (tVar 3) (tVar 4)) [some (.ref a), some (.int (m : Int)), some (.ref p), some (.int (i : Int)), some (.int (j : Int))] H' (.int ((i - j : Nat) : Int)) := fun H' => Ev.is (ev_I0 (ev_var rfl) (ev_var rfl)) (congrArg V.int (by omega))
        refine s_setL (j := i - j) (v := .int (lagN ns (i - j) i + ns.getD i 0 * ns.getD j 0)) (e4 _ _ gp3) (ev_I0 (ev_ixS (i := 0) (n := ((i - j : Nat) : Int)) (Ev.s (ev_var rfl) (sq_of (e4 _ _ gp3))) (idx _) (at_of (j := i - j) rfl hx)) (ev_I (ev_ixS (i := 0) (n := (i : Int)) (Ev.s (ev_var rfl) (ex_l (ex3.trans e4) hS)) (ev_var rfl) (at_of (j := i) rfl (at_int h1))) (ev_ixS (i := 0) (n := (j : Int)) (Ev.s (ev_var rfl) (ex_l (ex3.trans e4) hS)) (ev_var rfl) (at_of (j := j) rfl (at_int h2))) (.inl ⟨by omega, by omega⟩))) (ev_var rfl) (idx _) (by rw [List.length_map, List.length_range]; omega) fun H5 e5 => ⟨_, rfl, Ex.mut ((ex3.trans e4).trans e5) hp, ?_⟩
        rw [upd_same]
        congr 2
        have e0 : lagN ns (i - j) i + ns.getD i 0 * ns.getD j 0 = (fun d => lagN ns d i + if i < d + (j + 1) ∧ d ≤ i then ns.getD i 0 * ns.getD (i - d) 0 else 0) (i - j) := by
          show _ = lagN ns (i - j) i + if i < i - j + (j + 1) ∧ i - j ≤ i then ns.getD i 0 * ns.getD (i - (i - j)) 0 else 0
          rw [if_pos (by omega), show i - (i - j) = j by omega]
        rw [e0]
        refine set_range (m := m + 1) (d0 := i - j) (f := fun d => lagN ns d i + if i < d + j ∧ d ≤ i then ns.getD i 0 * ns.getD (i - d) 0 else 0) (g := fun d => lagN ns d i + if i < d + (j + 1) ∧ d ≤ i then ns.getD i 0 * ns.getD (i - d) 0 else 0) fun d hd hne => ?_
        show _ + _ = _ + _
        congr 1
        by_cases h : i < d + j ∧ d ≤ i
        · rw [if_pos h, if_pos (by omega)]
        · rw [if_neg h, if_neg (by omega)]
      · have hb := of_decide_eq_false hb
        refine ⟨_, rfl, ex3.trans e4, ?_⟩
        rw [e4 _ _ gp3]
        congr 2
        refine List.map_congr_left fun d hd => ?_
        have hd := List.mem_range.mp hd
        congr 2
        by_cases h : i < d + j ∧ d ≤ i
        · rw [if_pos h, if_pos (by omega)]
        · rw [if_neg h, if_neg (by omega)]
    · rintro σ2 H3 ⟨y4, rfl, ex3, gp3⟩
      refine ⟨_, _, rfl, ex3, ?_⟩
      rw [gp3]
      congr 2
      refine List.map_congr_left fun d hd => ?_
      rw [lagN_step, show ((i : Int) + 1).toNat = i + 1 by omega]
      congr 2
      by_cases h : d ≤ i
      · rw [if_pos h, if_pos (by omega)]
      · rw [if_neg h, if_neg (by omega)]
  · rintro σ' H2 ⟨z3, z4, rfl, ex, gp⟩
    refine s_ret (v := .ref p) (ev_var rfl) fun H3 e3 => k p H3 hp (ex.trans e3) ?_
    rw [e3 _ _ gp, Int.toNat_natCast]
    unfold acor
    rw [List.map_map]
    congr 2
    refine List.map_congr_left fun d _ => ?_
    show V.int (lagN ns d ns.length) = V.int (lagS ns d)
    rw [lagS_N]
theorem el_lsums {σ : L2.St} {H : Hp} {te tm : TE} {E : XK} {ns : List Int} {m : Nat} (h : EvS K te σ H (ns.map V.int)) (hM : Ev tm σ H (.int (m : Int))) (hl : ns.length ≤ 1000) (hm : m ≤ 1000) (hb : BdA ns) : EvL (tCall (sp_lsums K) [] E (tCons te (tCons tm tNil))) σ H ((acor ns m).map V.int) := fun H1 e Q q =>
  h H1 e _ fun p H2 e2 hp => hM H2 (e.trans e2) _ fun H3 e3 => ⟨p, ns, m, rfl, ex_l e3 hp, hl, hm, hb, fun r H4 hr e4 g4 => q r H4 (fresh_back (e2.trans e3) hr) ((e2.trans e3).trans e4) g4⟩

/-! ### the law -/
theorem bd_small {ns : List Int} {B : Int} (hB : B ≤ 2 ^ 40) (h : ∀ n ∈ ns, -B ≤ n ∧ n ≤ B) : BdA ns := fun n hn => by have := h n hn; omega
theorem mul_bd {n a b : Int} {B : Int} (hn : -B ≤ n ∧ n ≤ B) (hB : 0 ≤ B) (ha : 0 ≤ a ∧ a ≤ 1024) (hb : 0 ≤ b ∧ b ≤ 1024) : -(B * 1048576) ≤ n * a * b ∧ n * a * b ≤ B * 1048576 := by
  have h1 : n * a ≤ B * 1024 := Int.le_trans (Int.mul_le_mul_of_nonneg_right hn.2 ha.1) (Int.mul_le_mul_of_nonneg_left ha.2 hB)
  have h2 : -(B * 1024) ≤ n * a := by
    have : (-B) * a ≤ n * a := Int.mul_le_mul_of_nonneg_right hn.1 ha.1
    have h3 : B * a ≤ B * 1024 := Int.mul_le_mul_of_nonneg_left ha.2 hB
    rw [Int.neg_mul] at this
    omega
  have h4 : n * a * b ≤ B * 1024 * 1024 := Int.le_trans (Int.mul_le_mul_of_nonneg_right h1 hb.1) (Int.mul_le_mul_of_nonneg_left hb.2 (by omega))
  have h5 : -(B * 1024 * 1024) ≤ n * a * b := by
    have : (-(B * 1024)) * b ≤ n * a * b := Int.mul_le_mul_of_nonneg_right h2 hb.1
    have h3 : B * 1024 * b ≤ B * 1024 * 1024 := Int.mul_le_mul_of_nonneg_left hb.2 (by omega)
    rw [Int.neg_mul] at this
    omega
  omega
def sp_law (K : PySem.W.Frag) : Sp := fun vs H Q _ => ∃ (a : Addr) (ns : List Int), vs = [.ref a] ∧ SqL K H a (ns.map V.int) ∧ ns.length ≤ 63 ∧ ∀ H', Q (.bl true) H'
theorem ok_law (T : TX K mg) : FnOk P w K mg base CX0 3 T.a_law T.d_law ["script"] (sp_law K) := by
  refine T.F_law.ok sc_law (fun vs H Q E h => by obtain ⟨a, ns, rfl, _⟩ := h; rfl) (fun cdv A outer s H vs Q E hr h => ?_)
  obtain ⟨a, ns, rfl, hS, hlen, k⟩ := h
  refine ⟨_, (pss_cons (ps_set (i := 1) sc_law.nd rfl (Or.inl rfl) (pe_call (ok_law_cell T) (hr.mono (by decide)) (by rfl) T.g_law_cell T.F_law_cell.kp T.b_law_cell .nil pass0 (pa_cons (pv 0) (pa_cons pe_int pa_nil))))
      (pss_cons (ps_set (i := 2) sc_law.nd rfl (Or.inr rfl) pe_int)
      (pss_cons (ps_if (pt_cmpR op_eq (pe_op op_mod (pe_op op_fdiv (pe_callTy call_int1 (by rfl) T.m_int PyProof.Rows.boot_int (pa_cons (pv 1) pa_nil)) pe_int) pe_int) pe_int (nomark _)) (pss_one (ps_set (i := 2) sc_law.nd rfl (Or.inr rfl) pe_int)) pss_nil)
      (pss_cons (ps_set (i := 3) sc_law.nd rfl (Or.inl rfl) (pe_op op_add (pe_op op_add pe_int (pe_op op_mod (pe_callTy call_int1 (by rfl) T.m_int PyProof.Rows.boot_int (pa_cons (pv 1) pa_nil)) pe_int)) (pe_op op_mul pe_int (pe_callTy call_int1 (by rfl) T.m_int PyProof.Rows.boot_int (pa_cons (pe_cmpR op_eq (pe_op op_mod (pe_op op_fdiv (pe_callTy call_int1 (by rfl) T.m_int PyProof.Rows.boot_int (pa_cons (pv 1) pa_nil)) pe_int) pe_int) pe_int (nomark _)) pa_nil)))))
      (pss_cons (ps_setLc (i := 4) (own := [("x", 12)]) (g := gName 12) (tt := tYes) rfl sc_law.nd rfl rfl (sw_true rfl rfl rfl (by decide +kernel)) (pi_list (pe_call (ok_law_row T) (hr.mono (by decide)) (by rfl) T.g_law_row T.F_law_row.kp T.b_law_row .nil pass0 (pa_cons (pe_call (ok_law_cell T) (hr.mono (by decide)) (by rfl) T.g_law_cell T.F_law_cell.kp T.b_law_cell .nil pass0 (pa_cons (pv 0) (pa_cons pe_int pa_nil))) (pa_cons (pv 3) (pa_cons pe_int pa_nil))))) (blkOk_by (N := ["script", "first", "scale", "count", "samples", "most", "expected", "k", "given", "actual", "plain", "sums", "x"]) (sc := defScope s_law) (by decide +kernel)) (fun _ _ _ _ _ => pg_name (i := 12) sc_law.nd rfl (Or.inl rfl)) (fun _ _ _ _ _ => pts_nil) (fun _ _ _ _ _ => (pe_op op_mul (pv 2) (pe_op op_sub (pv 12) pe_int))))
      (pss_cons (ps_set (i := 5) sc_law.nd rfl (Or.inl rfl) (pe_op op_mod (pe_callTy call_int1 (by rfl) T.m_int PyProof.Rows.boot_int (pa_cons (pe_call (ok_law_cell T) (hr.mono (by decide)) (by rfl) T.g_law_cell T.F_law_cell.kp T.b_law_cell .nil pass0 (pa_cons (pv 0) (pa_cons pe_int pa_nil))) pa_nil)) pe_int))
      (pss_cons (ps_set (i := 6) sc_law.nd rfl (Or.inl rfl) (pe_lst pa_nil))
      (pss_cons (ps_for PassesOwn.never rfl (pi_range1 (by rfl) T.m_range (pa_cons (pe_callB (r := rLenS K) call_len_seq (by rfl) T.m_len PySem.boot_len (pa_cons (pv 4) pa_nil)) pa_nil)) (pg_name (i := 7) sc_law.nd rfl (Or.inl rfl)) (pss_one (ps_expr (pe_bm PySem.F.plainAttrs_list PySem.F.slot_list_append PySem.F.type_list_append mt_append (pv 6) (pa_cons (pe_op op_mul (pe_op op_mul (pe_ix (r := rIxL K) ix_list (pv 4) (pv 7) (fun _ _ => rfl)) (pe_op op_add (pv 7) pe_int)) (pe_op op_sub (pe_callB (r := rLenS K) call_len_seq (by rfl) T.m_len PySem.boot_len (pa_cons (pv 4) pa_nil)) (pv 7))) pa_nil)))))
      (pss_cons (ps_set (i := 8) sc_law.nd rfl (Or.inl rfl) (pe_callTy (r := rListS K) call_list_of (by rfl) T.m_list PyProof.Rows.boot_list (pa_cons (pv 4) pa_nil)))
      (pss_cons (ps_set (i := 9) sc_law.nd rfl (Or.inl rfl) (pe_call (ok_weighted T) (hr.mono (by decide)) (by rfl) T.g_weighted T.F_weighted.kp T.b_weighted .nil pass0 (pa_cons (pv 8) pa_nil)))
      (pss_cons (ps_if (PW.pt (pw_or (pt_not (pt_val (pe_call (ok_law_integers T) (hr.mono (by decide)) (by rfl) T.g_law_integers T.F_law_integers.kp T.b_law_integers .nil pass0 (pa_cons (pv 9) pa_nil)))) (pw_or (pt_cmpR (op_neD (hu64 hr)) (pv 9) (pv 6) (nomark _)) (pw_or1 (pt_cmpR (op_neD (hu64 hr)) (pv 8) (pv 4) (nomark _)))))) (pss_one (ps_ret pe_bl)) pss_nil)
      (pss_cons (ps_set (i := 10) sc_law.nd rfl (Or.inl rfl) (pe_call (ok_autocorrelation T) (hr.mono (by decide)) (by rfl) T.g_autocorrelation T.F_autocorrelation.kp T.b_autocorrelation .nil pass0 (pa_cons (pv 8) (pa_cons (pv 5) pa_nil))))
      (pss_cons (ps_if (PW.pt (pw_or (pt_not (pt_val (pe_call (ok_law_integers T) (hr.mono (by decide)) (by rfl) T.g_law_integers T.F_law_integers.kp T.b_law_integers .nil pass0 (pa_cons (pv 10) pa_nil)))) (pw_or (pt_cmpR (op_neD (hu64 hr)) (pv 10) (pe_call (ok_law_sums T) (hr.mono (by decide)) (by rfl) T.g_law_sums T.F_law_sums.kp T.b_law_sums .nil pass0 (pa_cons (pv 4) (pa_cons (pv 5) pa_nil))) (nomark _)) (pw_or1 (pt_cmpR (op_neD (hu64 hr)) (pv 8) (pv 4) (nomark _)))))) (pss_one (ps_ret pe_bl)) pss_nil)
      (pss_cons (ps_set (i := 8) sc_law.nd rfl (Or.inl rfl) (pe_callTy (r := rListS K) call_list_of (by rfl) T.m_list PyProof.Rows.boot_list (pa_cons (pv 6) pa_nil)))
      (pss_cons (ps_set (i := 11) sc_law.nd rfl (Or.inl rfl) (pe_call (ok_autocorrelation T) (hr.mono (by decide)) (by rfl) T.g_autocorrelation T.F_autocorrelation.kp T.b_autocorrelation .nil pass0 (pa_cons (pv 8) (pa_cons (pv 5) pa_nil))))
      (pss_one (ps_ret (pe_and (pe_call (ok_law_integers T) (hr.mono (by decide)) (by rfl) T.g_law_integers T.F_law_integers.kp T.b_law_integers .nil pass0 (pa_cons (pv 11) pa_nil)) (pe_and (pe_cmpR (op_eqD (hu64 hr)) (pv 11) (pe_call (ok_law_sums T) (hr.mono (by decide)) (by rfl) T.g_law_sums T.F_law_sums.kp T.b_law_sums .nil pass0 (pa_cons (pv 6) (pa_cons (pv 5) pa_nil))) (nomark _)) (pe_one (pe_cmpR (op_eqD (hu64 hr)) (pv 8) (pv 6) (nomark _)))))))))))))))))))))), ?_⟩
  have cell : ∀ (H' : Hp) (σ : L2.St) (E : XK) (i : Int), σ[0]? = some (some (.ref a)) → Ex H H' → 0 ≤ i → Ev (tCall (sp_cell K) [] E (tCons (tVar 0) (tCons (tC (.int i)) tNil))) σ H' (.int (cellI ns i)) := fun H' σ E i hσ e hi => ev_cell (ev_var hσ) (ex_l e hS) ev_c hi
  refine q_asg (cell H _ _ 0 rfl (Ex.refl _) (by decide)) fun H1 e1 => ?_
  generalize cellI ns 0 = c0
  refine q_asg ev_c fun H2 e2 => ?_
  obtain ⟨sc, hsc⟩ : ∃ sc : Int, (if c0 / 20 % 3 = 1 then (2097152 : Int) else 1) = sc := ⟨_, rfl⟩
  have hsc1 : 1 ≤ sc ∧ sc ≤ 2097152 := by rw [← hsc]; split <;> omega
  refine q_ifAsg (b := decide (V.int (c0 / 20 % 3) = V.int 1)) (v := .int sc) (et_test (ev_eq (ev_I (ev_I (ev_int1 (ev_var rfl)) ev_c ⟨by decide, by decide⟩) ev_c (by decide)) ev_c rfl)) (fun hb => Ev.is ev_c (congrArg V.int (by rw [← hsc, if_pos (V.int.inj (of_decide_eq_true hb))]))) (fun hb => by rw [← hsc, if_neg (fun z => of_decide_eq_false hb (congrArg V.int z))]; rfl) fun H3 e3 => ?_
  obtain ⟨cnt, hcnt⟩ : ∃ cnt : Nat, 1 + c0 % 20 + 50 * (if decide (V.int (c0 / 60 % 8) = V.int 1) = true then 1 else 0) = (cnt : Int) := ⟨(1 + c0 % 20 + 50 * (if decide (V.int (c0 / 60 % 8) = V.int 1) = true then 1 else 0)).toNat, by split <;> omega⟩
  have hcnt1 : 1 ≤ cnt ∧ cnt ≤ 70 := by split at hcnt <;> omega
  refine q_asg (v := .int (cnt : Int)) (Ev.is (ev_I0 (ev_I0 ev_c (ev_I (ev_int1 (ev_var rfl)) ev_c (by decide))) (ev_I ev_c (ev_intB (ev_eq (ev_I (ev_I (ev_int1 (ev_var rfl)) ev_c ⟨by decide, by decide⟩) ev_c (by decide)) ev_c rfl)) (.inl (by decide)))) (congrArg V.int hcnt)) fun H4 e4 => ?_
  have e14 := ((e1.trans e2).trans e3).trans e4
  refine q_asgLC (args := [.int (cellI ns 1), .int (cnt : Int), .int 2001]) (ea_cons (cell H4 _ _ 1 rfl e14 (by decide)) (ea_cons (ev_var rfl) (ea_cons ev_c ea_nil))) fun H5 e5 => ⟨cellI ns 1, cnt, 2001, rfl, by omega, by decide, by decide, fun pr ds H6 hpr e6 g6 hdl hdb => ?_⟩
  have e16 := e14.trans (e5.trans e6)
  obtain ⟨ms, hms⟩ : ∃ ms : List Int, (ds.map fun x => sc * (x - 1000)) = ms := ⟨_, rfl⟩
  have hml : ms.length = cnt := by rw [← hms, List.length_map, hdl]
  have hmb : ∀ n ∈ ms, -(2097152 * 1001) ≤ n ∧ n ≤ 2097152 * 1001 := fun n hn => by
    rw [← hms] at hn
    obtain ⟨x, hx, rfl⟩ := List.mem_map.mp hn
    have hx := hdb x hx
    have hB : -1001 ≤ x - 1000 ∧ x - 1000 ≤ 1001 := by omega
    generalize x - 1000 = y at *
    have h1 : sc * y ≤ sc * 1001 := Int.mul_le_mul_of_nonneg_left hB.2 (by omega)
    have h2 : sc * (-1001) ≤ sc * y := Int.mul_le_mul_of_nonneg_left hB.1 (by omega)
    omega
  refine q_asgL (xs := ms.map V.int) (el_lcS _ (Ev.s ev_c (sq_of g6)) (by rw [List.length_map, List.length_map]; omega) (by rw [List.length_map]; omega) (fun _ => rfl) fun i x H7 e7 hx => ?_) fun ps H7 hps e7 g7 => ?_
  · obtain ⟨n, hn, hi, rfl⟩ := int_at hx
    exact ⟨_, at_int (n := sc * (n - 1000)) (by rw [← hms, List.getElem?_map, hn]; rfl), ev_I (ev_var rfl) (ev_I0 (ev_var rfl) ev_c) (.inl ⟨by omega, by omega⟩)⟩
  have e17 := e16.trans e7
  obtain ⟨m, hm⟩ : ∃ m : Nat, cellI ns 2 % 33 = (m : Int) := ⟨(cellI ns 2 % 33).toNat, by omega⟩
  have hm32 : m ≤ 32 := by omega
  refine q_asg (v := .int (m : Int)) (Ev.is (ev_I (ev_int1 (cell H7 _ _ 2 rfl e17 (by decide))) ev_c (by decide)) (congrArg V.int hm)) fun H8 e8 => ?_
  refine q_asgL (xs := []) (el_lst ea_nil (by decide)) fun pe H9 hpe e9 g9 => ?_
  have gs9 : H9 ps = some (.lst (ms.map V.int)) := (e8.trans e9) _ _ g7
  have hmsl : (ms.map V.int).length = ms.length := List.length_map ..
  refine q_forR1 (n := (ms.length : Int)) (ea_cons (Ev.is (ev_lenS (Ev.s (ev_var rfl) (sq_of gs9))) (by rw [hmsl])) ea_nil) (by omega) (fun i σ' H' => ∃ z7, σ' = [some (.ref a), some (.int c0), some (.int sc), some (.int (cnt : Int)), some (.ref ps), some (.int (m : Int)), some (.ref pe), z7, none, none, none, none, none] ∧ Ex H8 H' ∧ H' pe = some (.lst (((wgt ms).take i).map V.int))) (fun H10 e10 => ⟨none, rfl, e9.trans e10, e10 _ _ g9⟩) ?_ ?_
  · rintro i σ' H10 hi ⟨z7, rfl, ex, gp⟩
    have hi : i < ms.length := by omega
    have hn := gl_get (ns := ms) (i := i) hi
    have qs := sq_of (K := K) (ex _ _ (e8 _ _ g7))
    have hw := wgt_at hn
    refine s_app (v := .int (ms.getD i 0 * ((i : Int) + 1) * ((ms.length : Int) - i))) gp (ev_var rfl) (ev_I (ev_I (ev_ixS (i := 0) (n := (i : Int)) (Ev.s (ev_var rfl) qs) (ev_var rfl) (at_of (j := i) rfl (at_int hn))) (ev_I0 (ev_var rfl) ev_c) (.inr ⟨by omega, by omega⟩)) (ev_I0 (Ev.is (ev_lenS (Ev.s (ev_var rfl) qs)) (by rw [hmsl])) (ev_var rfl)) (.inr ⟨by omega, by omega⟩)) (by rw [List.length_map, List.length_take]; omega) fun H11 e11 => ⟨_, rfl, Ex.mut (ex.trans e11) hpe, ?_⟩
    rw [upd_same, takeG hw, List.map_append]
    rfl
  rintro σ' H10 ⟨z7, rfl, ex, gp⟩
  rw [Int.toNat_natCast, List.take_of_length_le (by rw [wgt_len]; exact Nat.le_refl _)] at gp
  have gs10 := ex _ _ (e8 _ _ g7)
  have hwb : ∀ n ∈ wgt ms, -(2097152 * 1001 * 1048576) ≤ n ∧ n ≤ 2097152 * 1001 * 1048576 := fun n hn => by
    unfold wgt at hn
    obtain ⟨i, hi, rfl⟩ := List.mem_map.mp hn
    have hi := List.mem_range.mp hi
    exact mul_bd (hmb _ (List.mem_iff_getElem?.mpr ⟨i, gl_get hi⟩)) (by decide) (by omega) (by omega)
  have bd1 : BdA ms := fun n hn => by have := hmb n hn; omega
  have bd2 : BdA (wgt ms) := fun n hn => by have := hwb n hn; omega
  clear hmb hwb
  refine q_asgL (xs := ms.map V.int) (el_of (Ev.s (ev_var rfl) (sq_of gs10))) fun pg H11 hpg e11 g11 => ?_
  refine q_asgL (xs := (wgt ms).map V.int) (el_weighted (Ev.s (ev_var rfl) (sq_of g11)) (by omega)) fun pa H12 hpa e12 g12 => ?_
  have cmp : ∀ {σ : L2.St} {H' : Hp} {i j : Nat} {p q : Addr} {ns : List Int}, σ[i]? = some (some (.ref p)) → σ[j]? = some (some (.ref q)) → H' p = some (.lst (ns.map V.int)) → H' q = some (.lst (ns.map V.int)) → EvT (tTest (tOp (rNeD K) (tVar i) (tVar j))) σ H' false := fun h1 h2 h3 h4 => et_is (et_test (ev_neI (Ev.s (ev_var h1) (sq_of h3)) (Ev.s (ev_var h2) (sq_of h4)))) (by simp)
  refine q_when (b := false) (et_is (et_or (a := false) (et_is (et_not (et_B (ev_ints (ns := wgt ms) (Ev.r (ev_var rfl) g12) (by rw [wgt_len]; omega)))) rfl) fun _ => et_or (a := false) (b := false) (cmp rfl rfl g12 ((e11.trans e12) _ _ gp)) fun _ => cmp rfl rfl (e12 _ _ g11) ((e11.trans e12) _ _ gs10)) rfl) (fun hb => by cases hb) fun _ H13 e13 => ?_
  refine q_asgL (xs := (acor ms m).map V.int) (el_acor (Ev.s (ev_var rfl) (sq_of ((e12.trans e13) _ _ g11))) (ev_var rfl) (by omega) (by omega) bd1) fun pl H14 hpl e14' g14 => ?_
  have e12_14 := (e12.trans e13).trans e14'
  have gs14 : H14 ps = some (.lst (ms.map V.int)) := (e11.trans e12_14) _ _ gs10
  refine q_when (b := false) (et_is (et_or (a := false) (et_is (et_not (et_B (ev_ints (ns := acor ms m) (Ev.r (ev_var rfl) g14) (by rw [acor_len]; omega)))) rfl) fun _ => et_or (a := false) (b := false) (et_is (et_test (ev_neI (ns := acor ms m) (ms := acor ms m) (Ev.s (ev_var rfl) (sq_of g14)) (EvR.s (EvL.r (el_lsums (Ev.s (ev_var rfl) (sq_of gs14)) (ev_var rfl) (by omega) (by omega) bd1))))) (by simp)) fun _ => cmp rfl rfl (e12_14 _ _ g11) gs14) rfl) (fun hb => by cases hb) fun _ H15 e15 => ?_
  have gp15 : H15 pe = some (.lst ((wgt ms).map V.int)) := ((e11.trans e12_14).trans e15) _ _ gp
  refine q_asgL (xs := (wgt ms).map V.int) (el_of (Ev.s (ev_var rfl) (sq_of gp15))) fun ph H16 hph e16' g16 => ?_
  refine q_asgL (xs := (acor (wgt ms) m).map V.int) (el_acor (Ev.s (ev_var rfl) (sq_of g16)) (ev_var rfl) (by rw [wgt_len]; omega) (by omega) bd2) fun pz H17 hpz e17' g17 => ?_
  have gp17 := (e16'.trans e17') _ _ gp15
  refine s_ret (v := .bl true) (ev_is (ev_andV (ev_ints (ns := acor (wgt ms) m) (Ev.r (ev_var rfl) g17) (by rw [acor_len]; omega)) fun _ => ev_andV (ev_eqI (ns := acor (wgt ms) m) (ms := acor (wgt ms) m) (Ev.s (ev_var rfl) (sq_of g17)) (EvR.s (EvL.r (el_lsums (Ev.s (ev_var rfl) (sq_of gp17)) (ev_var rfl) (by rw [wgt_len]; omega) (by omega) bd2)))) fun _ => ev_eqI (ns := wgt ms) (ms := wgt ms) (Ev.s (ev_var rfl) (sq_of (e17' _ _ g16))) (Ev.s (ev_var rfl) (sq_of gp17))) (by simp)) fun H18 e18 => k _

end
theorem all_mk {l : PySem.W.OpenLaw} {w : World} {K : PySem.W.Frag} {h : Heap} {mg : Str → Option Value} {fa : Addr} {f1 f2 f3 f4 f5 f6 f7 f8 : Addr} (X : K.In h) (G : h.Ns mainGlobals mg) (hfa : mg "law" = some (.ref fa))
    {od1 an1 : Option Addr} {sl1 : Array (Option Value)} {oc1 dc1 pm1 cd1 ct1 : Value} {kV1 : Value} {od2 an2 : Option Addr} {sl2 : Array (Option Value)} {oc2 dc2 pm2 cd2 ct2 : Value} {kV2 : Value} {od3 an3 : Option Addr} {sl3 : Array (Option Value)} {oc3 dc3 pm3 cd3 ct3 : Value} {kV3 : Value} {od4 an4 : Option Addr} {sl4 : Array (Option Value)} {oc4 dc4 pm4 cd4 ct4 : Value} {kV4 : Value} {od5 an5 : Option Addr} {sl5 : Array (Option Value)} {oc5 dc5 pm5 cd5 ct5 : Value} {kV5 : Value} {od6 an6 : Option Addr} {sl6 : Array (Option Value)} {oc6 dc6 pm6 cd6 ct6 : Value} {kV6 : Value} {od7 an7 : Option Addr} {sl7 : Array (Option Value)} {oc7 dc7 pm7 cd7 ct7 : Value} {kV7 : Value} {od8 an8 : Option Addr} {sl8 : Array (Option Value)} {oc8 dc8 pm8 cd8 ct8 : Value} {kV8 : Value}
    (a1 : PySem.W.nsIn K mainGlobals "weighted" = some (some (.ref f1)))
    (l1 : K.lookup f1 = some ⟨oc1, od1, .func (PySem.W.fnOf "weighted" "weighted" (defArgs s_weighted) (defBody s_weighted) (defScope s_weighted) .none kV1 dc1 pm1 an1 cd1 ct1), sl1⟩) (c1 : PySem.W.codeIn K cd1 "weighted" = true) (k1 : PySem.W.keepIn K (.ref f1) = true)
    (a2 : PySem.W.nsIn K mainGlobals "autocorrelation" = some (some (.ref f2)))
    (l2 : K.lookup f2 = some ⟨oc2, od2, .func (PySem.W.fnOf "autocorrelation" "autocorrelation" (defArgs s_autocorrelation) (defBody s_autocorrelation) (defScope s_autocorrelation) .none kV2 dc2 pm2 an2 cd2 ct2), sl2⟩) (c2 : PySem.W.codeIn K cd2 "autocorrelation" = true) (k2 : PySem.W.keepIn K (.ref f2) = true)
    (a3 : PySem.W.nsIn K mainGlobals "_law_cell" = some (some (.ref f3)))
    (l3 : K.lookup f3 = some ⟨oc3, od3, .func (PySem.W.fnOf "_law_cell" "_law_cell" (defArgs s_law_cell) (defBody s_law_cell) (defScope s_law_cell) .none kV3 dc3 pm3 an3 cd3 ct3), sl3⟩) (c3 : PySem.W.codeIn K cd3 "_law_cell" = true) (k3 : PySem.W.keepIn K (.ref f3) = true)
    (a4 : PySem.W.nsIn K mainGlobals "_law_integer" = some (some (.ref f4)))
    (l4 : K.lookup f4 = some ⟨oc4, od4, .func (PySem.W.fnOf "_law_integer" "_law_integer" (defArgs s_law_integer) (defBody s_law_integer) (defScope s_law_integer) .none kV4 dc4 pm4 an4 cd4 ct4), sl4⟩) (c4 : PySem.W.codeIn K cd4 "_law_integer" = true) (k4 : PySem.W.keepIn K (.ref f4) = true)
    (a5 : PySem.W.nsIn K mainGlobals "_law_integers" = some (some (.ref f5)))
    (l5 : K.lookup f5 = some ⟨oc5, od5, .func (PySem.W.fnOf "_law_integers" "_law_integers" (defArgs s_law_integers) (defBody s_law_integers) (defScope s_law_integers) .none kV5 dc5 pm5 an5 cd5 ct5), sl5⟩) (c5 : PySem.W.codeIn K cd5 "_law_integers" = true) (k5 : PySem.W.keepIn K (.ref f5) = true)
    (a6 : PySem.W.nsIn K mainGlobals "_law_row" = some (some (.ref f6)))
    (l6 : K.lookup f6 = some ⟨oc6, od6, .func (PySem.W.fnOf "_law_row" "_law_row" (defArgs s_law_row) (defBody s_law_row) (defScope s_law_row) .none kV6 dc6 pm6 an6 cd6 ct6), sl6⟩) (c6 : PySem.W.codeIn K cd6 "_law_row" = true) (k6 : PySem.W.keepIn K (.ref f6) = true)
    (a7 : PySem.W.nsIn K mainGlobals "_law_sums" = some (some (.ref f7)))
    (l7 : K.lookup f7 = some ⟨oc7, od7, .func (PySem.W.fnOf "_law_sums" "_law_sums" (defArgs s_law_sums) (defBody s_law_sums) (defScope s_law_sums) .none kV7 dc7 pm7 an7 cd7 ct7), sl7⟩) (c7 : PySem.W.codeIn K cd7 "_law_sums" = true) (k7 : PySem.W.keepIn K (.ref f7) = true)
    (a8 : PySem.W.nsIn K mainGlobals "law" = some (some (.ref f8)))
    (l8 : K.lookup f8 = some ⟨oc8, od8, .func (PySem.W.fnOf "law" "law" (defArgs s_law) (defBody s_law) (defScope s_law) .none kV8 dc8 pm8 an8 cd8 ct8), sl8⟩) (c8 : PySem.W.codeIn K cd8 "law" = true) (k8 : PySem.W.keepIn K (.ref f8) = true)
    (z_len : PySem.W.nsIn K mainGlobals "len" = some none)
    (z_enumerate : PySem.W.nsIn K mainGlobals "enumerate" = some none)
    (z_range : PySem.W.nsIn K mainGlobals "range" = some none)
    (z_sum : PySem.W.nsIn K mainGlobals "sum" = some none)
    (z_zip : PySem.W.nsIn K mainGlobals "zip" = some none)
    (z_isinstance : PySem.W.nsIn K mainGlobals "isinstance" = some none)
    (z_int : PySem.W.nsIn K mainGlobals "int" = some none)
    (z_bool : PySem.W.nsIn K mainGlobals "bool" = some none)
    (z_list : PySem.W.nsIn K mainGlobals "list" = some none)
    (z_all : PySem.W.nsIn K mainGlobals "all" = some none)
    (z_abs : PySem.W.nsIn K mainGlobals "abs" = some none)
    : ∃ fd : FuncData, (∀ (s : Shared) (v : Value), BindsTo s fd ⟨[v], []⟩ [("script", v)]) ∧ ∀ base : Heap, K.In base → base.Ns mainGlobals mg → FnOk l.prog w K mg base CX0 3 fa fd ["script"] (sp_law K) := by
  have e := hfa.symm.trans (PySem.W.mg_of X G a8)
  cases e
  have F1 := fun_mk (st := s_weighted) l1 c1 k1
  have b1 := F1.binds (ps := ["samples"]) fun _ _ _ _ _ _ us hl => match us, hl with | [_], _ => rfl
  have F2 := fun_mk (st := s_autocorrelation) l2 c2 k2
  have b2 := F2.binds (ps := ["values", "most"]) fun _ _ _ _ _ _ us hl => match us, hl with | [_, _], _ => rfl
  have F3 := fun_mk (st := s_law_cell) l3 c3 k3
  have b3 := F3.binds (ps := ["script", "k"]) fun _ _ _ _ _ _ us hl => match us, hl with | [_, _], _ => rfl
  have F4 := fun_mk (st := s_law_integer) l4 c4 k4
  have b4 := F4.binds (ps := ["value"]) fun _ _ _ _ _ _ us hl => match us, hl with | [_], _ => rfl
  have F5 := fun_mk (st := s_law_integers) l5 c5 k5
  have b5 := F5.binds (ps := ["values"]) fun _ _ _ _ _ _ us hl => match us, hl with | [_], _ => rfl
  have F6 := fun_mk (st := s_law_row) l6 c6 k6
  have b6 := F6.binds (ps := ["cell", "count", "bound"]) fun _ _ _ _ _ _ us hl => match us, hl with | [_, _, _], _ => rfl
  have F7 := fun_mk (st := s_law_sums) l7 c7 k7
  have b7 := F7.binds (ps := ["values", "most"]) fun _ _ _ _ _ _ us hl => match us, hl with | [_, _], _ => rfl
  have F8 := fun_mk (st := s_law) l8 c8 k8
  have b8 := F8.binds (ps := ["script"]) fun _ _ _ _ _ _ us hl => match us, hl with | [_], _ => rfl
  let T : TX K mg := ⟨f1, _, F1, b1, (PySem.W.mg_of X G a1), f2, _, F2, b2, (PySem.W.mg_of X G a2), f3, _, F3, b3, (PySem.W.mg_of X G a3), f4, _, F4, b4, (PySem.W.mg_of X G a4), f5, _, F5, b5, (PySem.W.mg_of X G a5), f6, _, F6, b6, (PySem.W.mg_of X G a6), f7, _, F7, b7, (PySem.W.mg_of X G a7), fa, _, F8, b8, (PySem.W.mg_of X G a8), (PySem.W.mg_none_of X G z_len), (PySem.W.mg_none_of X G z_enumerate), (PySem.W.mg_none_of X G z_range), (PySem.W.mg_none_of X G z_sum), (PySem.W.mg_none_of X G z_zip), (PySem.W.mg_none_of X G z_isinstance), (PySem.W.mg_none_of X G z_int), (PySem.W.mg_none_of X G z_bool), (PySem.W.mg_none_of X G z_list), (PySem.W.mg_none_of X G z_all), (PySem.W.mg_none_of X G z_abs)⟩
  exact ⟨_, fun s v => .of_eq rfl, fun base _ _ => ok_law T⟩
end K59
open PySem PySem.W PyProof.Rows
set_option maxRecDepth 100000 in
set_option maxHeartbeats 0 in
theorem PySem.Challenge.cw_monochord_k59_window_and_autocorrelation_holds : PySem.Challenge.rw_monochord_k59_window_and_autocorrelation.Holds := by
  w_on; o_law; k_head; (case hw => w_witness2)
  k_fill
  refine L2.walk_of (l := PySem.Challenge.rw_monochord_k59_window_and_autocorrelation) (n := 63) (k := 3) (x := "script") (CX := fun _ => L2.CX0) (sp := fun w => K59.sp_law _) rfl (by decide) rfl ⟨rfl, by decide, by decide⟩ (fun w h Y => PySem.W.kIn_of Y) ?F (fun _ _ a ns hl _ hS => ⟨a, ns, rfl, hS, hl, fun _ => rfl⟩) (fun _ _ _ _ _ h => h)
  case F =>
    intro w mg fa h KX G hmg
    refine' K59.all_mk KX G hmg ?a1 ?l1 ?c1 ?k1 ?a2 ?l2 ?c2 ?k2 ?a3 ?l3 ?c3 ?k3 ?a4 ?l4 ?c4 ?k4 ?a5 ?l5 ?c5 ?k5 ?a6 ?l6 ?c6 ?k6 ?a7 ?l7 ?c7 ?k7 ?a8 ?l8 ?c8 ?k8 ?z_len ?z_enumerate ?z_range ?z_sum ?z_zip ?z_isinstance ?z_int ?z_bool ?z_list ?z_all ?z_abs
    (case a1 => k_is)
    (case l1 => k_is)
    (case c1 => k_is)
    (case k1 => k_is)
    (case a2 => k_is)
    (case l2 => k_is)
    (case c2 => k_is)
    (case k2 => k_is)
    (case a3 => k_is)
    (case l3 => k_is)
    (case c3 => k_is)
    (case k3 => k_is)
    (case a4 => k_is)
    (case l4 => k_is)
    (case c4 => k_is)
    (case k4 => k_is)
    (case a5 => k_is)
    (case l5 => k_is)
    (case c5 => k_is)
    (case k5 => k_is)
    (case a6 => k_is)
    (case l6 => k_is)
    (case c6 => k_is)
    (case k6 => k_is)
    (case a7 => k_is)
    (case l7 => k_is)
    (case c7 => k_is)
    (case k7 => k_is)
    (case a8 => k_is)
    (case l8 => k_is)
    (case c8 => k_is)
    (case k8 => k_is)
    (case z_len => k_is)
    (case z_enumerate => k_is)
    (case z_range => k_is)
    (case z_sum => k_is)
    (case z_zip => k_is)
    (case z_isinstance => k_is)
    (case z_int => k_is)
    (case z_bool => k_is)
    (case z_list => k_is)
    (case z_all => k_is)
    (case z_abs => k_is)
