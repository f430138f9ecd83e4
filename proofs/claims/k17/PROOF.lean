import PyProof.Rows.All
import Wide.All
import OpenK.AllK
import Wide.FinOn
import HandS.ForMost
import HandS.Evl
import HandS.IsInst
import PySem.Challenge.RW_monochord_k17_partition_orders
set_option Elab.async false
set_option linter.all false
set_option maxRecDepth 100000
set_option maxHeartbeats 4000000
namespace K17
open PySem PySem.Spec PyProof.Rows L2 Evl
def topS (i : Nat) : Stmt := PySem.Challenge.pw_monochord_k17_partition_orders.main.body.getD i (.Pass ⟨0, 0, 0, 0⟩)
abbrev s_legal_partition_order : Stmt := topS 1
theorem sc_legal_partition_order : FnScope ["size", "order", "partition_order", "count"] ["size", "order", "partition_order"] (defScope s_legal_partition_order) := ⟨rfl, rfl, rfl, by decide +kernel, rfl, by decide +kernel, by decide +kernel⟩
abbrev s_partition_sizes : Stmt := topS 2
theorem sc_partition_sizes : FnScope ["size", "order", "partition_order", "whole"] ["size", "order", "partition_order"] (defScope s_partition_sizes) := ⟨rfl, rfl, rfl, by decide +kernel, rfl, by decide +kernel, by decide +kernel⟩
abbrev s_law_cell : Stmt := topS 4
theorem sc_law_cell : FnScope ["script", "k"] ["script", "k"] (defScope s_law_cell) := ⟨rfl, rfl, rfl, by decide +kernel, rfl, by decide +kernel, by decide +kernel⟩
abbrev s_law_part : Stmt := topS 5
theorem sc_law_part : FnScope ["size", "order", "p", "k"] ["size", "order", "p"] (defScope s_law_part) := ⟨rfl, rfl, rfl, by decide +kernel, rfl, by decide +kernel, by decide +kernel⟩
abbrev s_law_sizes_hold : Stmt := topS 6
theorem sc_law_sizes_hold : FnScope ["size", "order", "p", "part", "sizes", "due", "many", "kept"] ["size", "order", "p", "part"] (defScope s_law_sizes_hold) := ⟨rfl, rfl, rfl, by decide +kernel, rfl, by decide +kernel, by decide +kernel⟩
abbrev s_law : Stmt := topS 7
theorem sc_law : FnScope ["script", "k", "cell", "size", "order", "p", "part", "actual"] ["script"] (defScope s_law) := ⟨rfl, rfl, rfl, by decide +kernel, rfl, by decide +kernel, by decide +kernel⟩
theorem hu64 {A : Around} {k : Nat} (hr : Room k A) : A.units + 64 < cLine := hr.units
/-! ### short words for readings -/
theorem ret_eq {v w : V} {H H' : Hp} {Q : VK} (k : RetV v H Q) (ex : Ex H H') (e : w = v) : Q w H' := e ▸ k H' ex
/-- isinstance(x, T), T a built-in class -/
theorem ev_isi {K : PySem.W.Frag} {σ : L2.St} {H : Hp} {ta : TE} {x : V} {t : String} {T : String} {b : Bool} (ha : Ev ta σ H x) (ht : ∀ H1, Ex H H1 → TyX K H1 x (.type t)) (hk : kitB t T = some b) :
    Ev (tCB (rIsi K) (tCons ta (tCons (tC (.ty T)) tNil))) σ H (.bl b) :=
  ev_cb (ea_cons ha (ea_cons ev_c ea_nil)) fun H1 e Q q => ⟨x, .ty T, _, _, b, rfl, .ty T, ht H1 e, kit_ty hk, q H1 (Ex.refl H1)⟩
theorem isi_int {K : PySem.W.Frag} {H : Hp} {i : Int} : ∀ H1, Ex H H1 → TyX K H1 (V.int i) (.type "int") := fun _ _ => .base (.int _)
theorem isi_bl {K : PySem.W.Frag} {H : Hp} {b : Bool} : ∀ H1, Ex H H1 → TyX K H1 (V.bl b) (.type "bool") := fun _ _ => .base (.bl _)
theorem isi_non {K : PySem.W.Frag} {H : Hp} : ∀ H1, Ex H H1 → TyX K H1 V.non (.type "NoneType") := fun _ _ => .base .non
theorem isi_lst {K : PySem.W.Frag} {H : Hp} {a : Addr} {xs : List V} (h : H a = some (.lst xs)) : ∀ H1, Ex H H1 → TyX K H1 (V.ref a) (.type "list") := fun _ e => .base (.lst (e _ _ h))
theorem isi_tup {K : PySem.W.Frag} {H : Hp} {a : Addr} {xs : List V} (h : H a = some (.tup xs)) : ∀ H1, Ex H H1 → TyX K H1 (V.ref a) (.type "tuple") := fun _ e => .base (.tup (e _ _ h))
theorem kit_ii : kitB "int" "int" = some true := by decide +kernel
theorem kit_ib : kitB "int" "bool" = some false := by decide +kernel
theorem kit_bb : kitB "bool" "bool" = some true := by decide +kernel
theorem kit_bi : kitB "bool" "int" = some true := by decide +kernel
theorem kit_ll : kitB "list" "list" = some true := by decide +kernel
theorem kit_tt : kitB "tuple" "tuple" = some true := by decide +kernel
theorem ev_isiI {K : PySem.W.Frag} {σ : L2.St} {H : Hp} {ta : TE} {i : Int} (ha : Ev ta σ H (.int i)) : Ev (tCB (rIsi K) (tCons ta (tCons (tC (.ty "int")) tNil))) σ H (.bl true) := ev_isi ha isi_int kit_ii
theorem ev_isiB {K : PySem.W.Frag} {σ : L2.St} {H : Hp} {ta : TE} {i : Int} (ha : Ev ta σ H (.int i)) : Ev (tCB (rIsi K) (tCons ta (tCons (tC (.ty "bool")) tNil))) σ H (.bl false) := ev_isi ha isi_int kit_ib
theorem ev_isiL {K : PySem.W.Frag} {σ : L2.St} {H : Hp} {ta : TE} {a : Addr} {xs : List V} (ha : Ev ta σ H (.ref a)) (h : H a = some (.lst xs)) : Ev (tCB (rIsi K) (tCons ta (tCons (tC (.ty "list")) tNil))) σ H (.bl true) := ev_isi ha (isi_lst h) kit_ll
theorem ev_isiBB {K : PySem.W.Frag} {σ : L2.St} {H : Hp} {ta : TE} {b : Bool} (ha : Ev ta σ H (.bl b)) : Ev (tCB (rIsi K) (tCons ta (tCons (tC (.ty "bool")) tNil))) σ H (.bl true) := ev_isi ha isi_bl kit_bb
theorem ev_min2 {σ : L2.St} {H : Hp} {ta tb : TE} {i j : Int} (ha : Ev ta σ H (.int i)) (hb : Ev tb σ H (.int j)) :
    Ev (tCB (fun xs H Q => ∃ i j, xs = [.int i, .int j] ∧ Q (.int (if j < i then j else i)) H) (tCons ta (tCons tb tNil))) σ H (.int (if j < i then j else i)) :=
  ev_cb (ea_cons ha (ea_cons hb ea_nil)) fun H1 _ _ q => ⟨i, j, rfl, q H1 (Ex.refl H1)⟩
theorem ev_negI {σ : L2.St} {H : Hp} {ta : TE} {i : Int} (ha : Ev ta σ H (.int i)) : Ev (tUn (rU fun i => .int (-i)) ta) σ H (.int (-i)) := ev_un ha ru_neg
theorem ev_I0 {σ : L2.St} {H : Hp} {ta tb : TE} {g : Int → Int → V} {i j : Int} (ha : Ev ta σ H (.int i)) (hb : Ev tb σ H (.int j)) : Ev (tOp (rI0 g) ta tb) σ H (g i j) := ev_op ha hb rv_I0
theorem ev_I {σ : L2.St} {H : Hp} {ta tb : TE} {C : Int → Int → Prop} {g : Int → Int → V} {i j : Int} (ha : Ev ta σ H (.int i)) (hb : Ev tb σ H (.int j)) (hc : C i j) : Ev (tOp (rI C g) ta tb) σ H (g i j) := ev_op ha hb (rv_I hc)
theorem ev_eq {σ : L2.St} {H : Hp} {ta tb : TE} {x y : V} (ha : Ev ta σ H x) (hb : Ev tb σ H y) (hs : scal x y = true) : Ev (tOp rEq ta tb) σ H (.bl (decide (x = y))) := ev_op ha hb (rv_eq hs)
theorem ev_ne {σ : L2.St} {H : Hp} {ta tb : TE} {x y : V} (ha : Ev ta σ H x) (hb : Ev tb σ H y) (hs : scal x y = true) : Ev (tOp rNe ta tb) σ H (.bl (!decide (x = y))) := ev_op ha hb (rv_ne hs)
theorem et_B' {σ : L2.St} {H : Hp} {te : TE} {x : V} {b : Bool} (h : Ev te σ H x) (e : x = .bl b) : EvT (tB te) σ H b := et_B (e ▸ h)
theorem int_at {ns : List Int} {i : Nat} {x : V} (hx : (ns.map V.int)[i]? = some x) : ∃ n, ns[i]? = some n ∧ i < ns.length ∧ x = V.int n := by
  rw [List.getElem?_map] at hx
  cases en : ns[i]? with
  | none => rw [en] at hx; cases hx
  | some n => rw [en] at hx; exact ⟨n, rfl, (List.getElem?_eq_some_iff.mp en).1, (Option.some.inj hx).symm⟩
theorem at_int {ns : List Int} {i : Nat} {n : Int} (h : ns[i]? = some n) : (ns.map V.int)[i]? = some (V.int n) := by rw [List.getElem?_map, h]; rfl
local macro_rules | `(tactic| walk_at "side") => `(tactic| first
  | omega | (show CMul _ _; unfold CMul; omega) | (show CDiv _ _; unfold CDiv; omega) | (show CPow _ _; unfold CPow; omega) | (show (_ : Int) < _; omega) | (show (_ : Int) ≤ _; omega) | decide)
local macro_rules | `(tactic| walk_at "ev") => `(tactic| first
  | exact ev_var rfl
  | exact ev_c
  | (refine' ev_I0 ?h1 ?h2; (case h1 => walk_at "ev"); (case h2 => walk_at "ev"))
  | (refine' ev_negI ?h1; (case h1 => walk_at "ev"))
  | (refine' ev_I ?h1 ?h2 ?hc; (case h1 => walk_at "ev"); (case h2 => walk_at "ev"); (case hc => walk_at "side"))
  | (refine' ev_eq ?h1 ?h2 ?hc; (case h1 => walk_at "ev"); (case h2 => walk_at "ev"); (case hc => rfl))
  | (refine' ev_ne ?h1 ?h2 ?hc; (case h1 => walk_at "ev"); (case h2 => walk_at "ev"); (case hc => rfl))
  | (refine' ev_max2 ?h1 ?h2; (case h1 => walk_at "ev"); (case h2 => walk_at "ev"))
  | (refine' ev_min2 ?h1 ?h2; (case h1 => walk_at "ev"); (case h2 => walk_at "ev"))
  | (refine' ev_isiI ?h1; (case h1 => walk_at "ev"))
  | (refine' ev_isiB ?h1; (case h1 => walk_at "ev"))
  | (refine' ev_isiBB ?h1; (case h1 => walk_at "ev"))
  | (refine' ev_andV ?h1 (fun _ => ?h2); (case h1 => walk_at "ev"); (case h2 => walk_at "ev"))
  | (refine' ev_orV ?h1 (fun _ => ?h2); (case h1 => walk_at "ev"); (case h2 => walk_at "ev"))
  | (refine' ev_notV ?h1; (case h1 => walk_at "ev"))
  | walk_at "evmore")
local macro_rules | `(tactic| walk_at "et") => `(tactic| first
  | (refine' et_test ?h1; (case h1 => walk_at "ev"))
  | (refine' et_B ?h1; (case h1 => walk_at "ev"))
  | (refine' et_not ?h1; (case h1 => walk_at "et"))
  | (refine' et_and ?h1 (fun _ => ?h2); (case h1 => walk_at "et"); (case h2 => walk_at "et"))
  | (refine' et_or ?h1 (fun _ => ?h2); (case h1 => walk_at "et"); (case h2 => walk_at "et")))
local macro_rules | `(tactic| walk_at "ea") => `(tactic| first
  | exact ea_nil
  | (refine' ea_cons ?h1 ?h2; (case h1 => walk_at "ev"); (case h2 => walk_at "ea")))
local macro_rules | `(tactic| walk_at "when") => `(tactic| (refine' q_when ?h ?h1 ?h2; (case h => walk_at "et")))
local macro_rules | `(tactic| walk_at "whenS") => `(tactic| (refine' s_when ?h ?h1 ?h2; (case h => walk_at "et")))
local macro_rules | `(tactic| walk_at "if") => `(tactic| (refine' q_if ?h ?h1 ?h2; (case h => walk_at "et")))
local macro_rules | `(tactic| walk_at "ifS") => `(tactic| (refine' s_if ?h ?h1 ?h2; (case h => walk_at "et")))
local macro_rules | `(tactic| walk_at "ret") => `(tactic| (refine' s_ret ?h ?h1; (case h => walk_at "ev")))
local macro_rules | `(tactic| walk_at "asg") => `(tactic| (refine' q_asg ?h ?h1; (case h => walk_at "ev")))
local macro_rules | `(tactic| walk_at "asgS") => `(tactic| (refine' s_asg ?h ?h1; (case h => walk_at "ev")))

/-! ### lists, existing or new -/
def EvR (te : TE) (σ : L2.St) (H : Hp) (xs : List V) : Prop := ∀ H1, Ex H H1 → ∀ Q : VK, (∀ p H2, Ex H1 H2 → H2 p = some (.lst xs) → Q (.ref p) H2) → te σ H1 Q
def EvS (K : PySem.W.Frag) (te : TE) (σ : L2.St) (H : Hp) (xs : List V) : Prop := ∀ H1, Ex H H1 → ∀ Q : VK, (∀ p H2, Ex H1 H2 → SqL K H2 p xs → Q (.ref p) H2) → te σ H1 Q
section
variable {K : PySem.W.Frag} {σ : L2.St} {H H' : Hp} {ta tb te : TE} {xs ys : List V} {a : Addr}
theorem EvL.r (h : EvL te σ H xs) : EvR te σ H xs := fun H1 e Q q => h H1 e Q fun p H2 _ e2 h2 => q p H2 e2 h2
theorem Ev.r (h : Ev te σ H (.ref a)) (hx : H a = some (.lst xs)) : EvR te σ H xs := fun H1 e Q q => h H1 e Q fun H2 e2 => q a H2 e2 (e2 _ _ (e _ _ hx))
theorem EvR.s (h : EvR te σ H xs) : EvS K te σ H xs := fun H1 e Q q => h H1 e Q fun p H2 e2 h2 => q p H2 e2 (sq_of h2)
theorem Ev.s (h : Ev te σ H (.ref a)) (hx : SqL K H a xs) : EvS K te σ H xs := fun H1 e Q q => h H1 e Q fun H2 e2 => q a H2 e2 (ex_l e2 (ex_l e hx))
theorem EvR.mono (e : Ex H H') (h : EvR te σ H xs) : EvR te σ H' xs := fun H1 a Q q => h H1 (e.trans a) Q q
theorem EvS.mono (e : Ex H H') (h : EvS K te σ H xs) : EvS K te σ H' xs := fun H1 a Q q => h H1 (e.trans a) Q q
theorem EvL.is (h : EvL te σ H xs) (e : xs = ys) : EvL te σ H ys := e ▸ h
theorem EvR.is (h : EvR te σ H xs) (e : xs = ys) : EvR te σ H ys := e ▸ h
theorem el_cat (ha : EvR ta σ H xs) (hb : EvR tb σ H ys) (hl : xs.length + ys.length ≤ 100000) : EvL (tOp rCat ta tb) σ H (xs ++ ys) := fun H1 e Q q =>
  ha H1 e _ fun p H2 e2 h2 => hb H2 (e.trans e2) _ fun r H3 e3 h3 => ⟨p, r, xs, ys, rfl, rfl, e3 _ _ h2, h3, sz_of hl, fun l hl => q l _ (fresh_back (e2.trans e3) hl) ((e2.trans e3).trans (Ex.new hl)) upd_same⟩
theorem el_rep {k : Int} (ha : EvR ta σ H xs) (hb : Ev tb σ H (.int k)) (hk : -(2 ^ 63) ≤ k ∧ k < 2 ^ 63) (hl : xs.length * k.toNat ≤ 100000) : EvL (tOp rRep ta tb) σ H (List.replicate k.toNat xs).flatten := fun H1 e Q q =>
  ha H1 e _ fun p H2 e2 h2 => hb H2 (e.trans e2) _ fun H3 e3 => ⟨p, k, xs, rfl, rfl, e3 _ _ h2, hk.1, hk.2, sz_of hl, fun l hl => q l _ (fresh_back (e2.trans e3) hl) ((e2.trans e3).trans (Ex.new hl)) upd_same⟩
theorem rep_one {x : V} (n : Nat) : (List.replicate n [x]).flatten = List.replicate n x := by
  induction n with
  | zero => rfl
  | succ n ih => rw [List.replicate_succ, List.replicate_succ, List.flatten_cons, ih]; rfl
theorem el_of {te : TE} (h : EvS K te σ H xs) : EvL (tCB (fun xs H Q => ∃ p ys, xs = [.ref p] ∧ (SqL K H p ys ∨ SqT K H p ys) ∧ ∀ l, H l = none → Q (.ref l) (upd H l (.lst ys))) (tCons te tNil)) σ H xs := fun H1 e Q q =>
  h H1 e _ fun p H2 e2 h2 => ⟨p, xs, rfl, .inl h2, fun l hl => q l _ (fresh_back e2 hl) (e2.trans (Ex.new hl)) upd_same⟩
theorem ev_lenS (h : EvS K te σ H xs) : Ev (tCB (fun xs H Q => ∃ p ys, xs = [.ref p] ∧ (SqL K H p ys ∨ SqT K H p ys) ∧ Q (.int ys.length) H) (tCons te tNil)) σ H (.int (xs.length : Int)) := fun H1 e Q q =>
  h H1 e _ fun p H2 e2 h2 => ⟨p, xs, rfl, .inl h2, q H2 e2⟩
theorem ev_sum {ns : List Int} (h : EvS K te σ H (ns.map V.int)) : Ev (tCB (rSum K) (tCons te tNil)) σ H (.int ns.sum) := fun H1 e Q q =>
  h H1 e _ fun p H2 e2 h2 => ⟨p, ns, rfl, h2, q H2 e2⟩
theorem dp_ints {K : PySem.W.Frag} {H : Hp} : ∀ ns : List Int, DpAll K H (ns.map V.int) (ns.map PyData.int)
  | [] => .nil
  | n :: r => .cons (.int n) (dp_ints r)
theorem eqv_ints : ∀ ns ms : List Int, PyData.eqvAll (ns.map PyData.int) (ms.map PyData.int) = decide (ns = ms)
  | [], [] => by simp [PyData.eqvAll]
  | [], _ :: _ => by simp [PyData.eqvAll]
  | _ :: _, [] => by simp [PyData.eqvAll]
  | n :: r, m :: t => by
    show (PyData.eqv (.int n) (.int m) && PyData.eqvAll (r.map PyData.int) (t.map PyData.int)) = _
    rw [eqv_ints r t]
    show ((n == m) && decide (r = t)) = _
    by_cases h1 : n = m <;> by_cases h2 : r = t <;> simp [h1, h2]
theorem canLay_ints : ∀ ns : List Int, PyData.canLayAll0 (ns.map PyData.int) = true
  | [] => by simp [PyData.canLayAll0]
  | n :: r => by
    show PyData.canLayAll0 (PyData.int n :: r.map PyData.int) = true
    rw [PyData.canLayAll0, canLay_ints r]
    simp [PyData.canLay0]
theorem depth_ints : ∀ ns : List Int, PyData.depthAll (ns.map PyData.int) ≤ 1
  | [] => by simp [PyData.depthAll]
  | n :: r => by
    show PyData.depthAll (PyData.int n :: r.map PyData.int) ≤ 1
    have := depth_ints r
    simp only [PyData.depthAll, PyData.depth]
    omega
theorem shaped_ints (ns : List Int) : SeqAt.shaped (.list (ns.map PyData.int)) = true := by
  unfold SeqAt.shaped
  have h1 := canLay_ints ns
  have h2 := depth_ints ns
  have h3 : PyData.depth (.list (ns.map PyData.int)) ≤ 64 := by
    rw [PyData.depth]
    omega
  rw [decide_eq_true h3, Bool.and_true]
  simpa only [PyData.canLay0] using h1
theorem ev_eqI {ns ms : List Int} (ha : EvS K ta σ H (ns.map V.int)) (hb : EvS K tb σ H (ms.map V.int)) : Ev (tOp (rEqD K) ta tb) σ H (.bl (decide (ns = ms))) := fun H1 e Q q =>
  ha H1 e _ fun p H2 e2 h2 => hb H2 (e.trans e2) _ fun r H3 e3 h3 => ⟨.list (ns.map PyData.int), .list (ms.map PyData.int), .lst (ex_l e3 h2) (dp_ints ns), .lst h3 (dp_ints ms), shaped_ints ns, shaped_ints ms, by
    show Q (.bl (PyData.eqvAll (ns.map PyData.int) (ms.map PyData.int))) H3
    rw [eqv_ints]
    exact q H3 (e2.trans e3)⟩
theorem ev_neI {ns ms : List Int} (ha : EvS K ta σ H (ns.map V.int)) (hb : EvS K tb σ H (ms.map V.int)) : Ev (tOp (rNeD K) ta tb) σ H (.bl (!decide (ns = ms))) := fun H1 e Q q =>
  ha H1 e _ fun p H2 e2 h2 => hb H2 (e.trans e2) _ fun r H3 e3 h3 => ⟨.list (ns.map PyData.int), .list (ms.map PyData.int), .lst (ex_l e3 h2) (dp_ints ns), .lst h3 (dp_ints ms), shaped_ints ns, shaped_ints ms, by
    show Q (.bl (!PyData.eqvAll (ns.map PyData.int) (ms.map PyData.int))) H3
    rw [eqv_ints]
    exact q H3 (e2.trans e3)⟩
theorem ev_ixS {i : Nat} {n : Int} {tl ti : TE} {v : V} (h : EvS K tl σ H xs) (hi : Ev ti σ H (.int n)) (ha : atI xs n = some v) : Ev (tOp (rIxL K) tl ti) σ H v := fun H1 e Q q =>
  h H1 e _ fun p H2 e2 h2 => hi H2 (e.trans e2) _ fun H3 e3 => ⟨p, xs, n, v, rfl, rfl, ex_l e3 h2, ha, q H3 (e2.trans e3)⟩
theorem el_slS {tl th : TO} {lo hi : Option Int} (h : EvS K te σ H xs) (h1 : EvO tl σ H lo) (h2 : EvO th σ H hi) : EvL (tSl (rSlL K) te tl th) σ H (cutV xs lo hi) := fun H1 e _ q =>
  h H1 e _ fun a H2 e2 hs => h1 H2 (e.trans e2) _ fun H3 e3 => h2 H3 ((e.trans e2).trans e3) _ fun H4 e4 =>
    ⟨a, xs, rfl, ex_l (e3.trans e4) hs, fun p hp => q p _ (fresh_back ((e2.trans e3).trans e4) hp) (((e2.trans e3).trans e4).trans (Ex.new hp)) upd_same⟩
/-- the law's cell -/
def cellI (ns : List Int) (k : Int) : Int := ns.getD k.toNat 0
theorem cellI_in {ns : List Int} {k : Int} (h0 : 0 ≤ k) (h : k < ns.length) : ns[k.toNat]? = some (cellI ns k) := by
  unfold cellI
  rw [List.getD_eq_getElem?_getD, List.getElem?_eq_getElem (by omega)]
  rfl
theorem cellI_out {ns : List Int} {k : Int} (h : ¬ k < ns.length) : cellI ns k = 0 := by
  unfold cellI
  rw [List.getD_eq_getElem?_getD, List.getElem?_eq_none (by omega)]
  rfl
end
theorem Ex.get {H H' : Hp} {a : Addr} {o : HO} (e : Ex H H') (h : H a = some o) : H' a = some o := e a o h
local macro_rules | `(tactic| walk_at "hp") => `(tactic| first
  | assumption
  | exact upd_same
  | (refine Ex.get (by assumption) ?_; walk_at "hp"))
local macro_rules | `(tactic| walk_at "sq") => `(tactic| first
  | assumption
  | (refine sq_of ?_; walk_at "hp")
  | (refine ex_l (by assumption) ?_; walk_at "sq"))
local macro_rules | `(tactic| walk_at "evs") => `(tactic| first
  | (refine' Ev.s ?h1 ?h2; (case h1 => exact ev_var rfl); (case h2 => walk_at "sq"))
  | (refine' EvR.s ?h1; (case h1 => walk_at "evr")))
local macro_rules | `(tactic| walk_at "evr") => `(tactic| first
  | (refine' Ev.r ?h1 ?h2; (case h1 => exact ev_var rfl); (case h2 => walk_at "hp"))
  | (refine' EvL.r ?h1; (case h1 => walk_at "el")))
local macro_rules | `(tactic| walk_at "eo") => `(tactic| first
  | exact eo_none
  | (refine' eo_some ?h1; (case h1 => walk_at "ev")))
local macro_rules | `(tactic| walk_at "el") => `(tactic| first
  | (refine' el_lst ?h1 ?h2; (case h1 => walk_at "ea"); (case h2 => exact Nat.le_of_ble_eq_true rfl))
  | (refine' el_cat ?h1 ?h2 ?h3; (case h1 => walk_at "evr"); (case h2 => walk_at "evr"); (case h3 => walk_at "len"))
  | (refine' el_rep ?h1 ?h2 ?h3 ?h4; (case h1 => walk_at "evr"); (case h2 => walk_at "ev"); (case h3 => walk_at "side2"); (case h4 => walk_at "len"))
  | (refine' el_of ?h1; (case h1 => walk_at "evs"))
  | (refine' el_slS ?h1 ?h2 ?h3; (case h1 => walk_at "evs"); (case h2 => walk_at "eo"); (case h3 => walk_at "eo"))
  | walk_at "elmore")
local macro_rules | `(tactic| walk_at "evmore") => `(tactic| first
  | (refine' ev_lenS ?h1; (case h1 => walk_at "evs"))
  | (refine' ev_sum ?h1; (case h1 => walk_at "evs"))
  | (refine' ev_eqI ?h1 ?h2; (case h1 => walk_at "evs"); (case h2 => walk_at "evs"))
  | (refine' ev_neI ?h1 ?h2; (case h1 => walk_at "evs"); (case h2 => walk_at "evs"))
  | (refine' ev_isiL ?h1 ?h2; (case h1 => walk_at "ev"); (case h2 => walk_at "hp"))
  | walk_at "evown")
local macro_rules | `(tactic| walk_at "asgL") => `(tactic| (refine' q_asgL ?h ?h1; (case h => walk_at "el")))
local macro_rules | `(tactic| walk_at "retL") => `(tactic| (refine' s_retL ?h ?h1; (case h => walk_at "el")))

/-- what the top has left -/
structure TX (K : PySem.W.Frag) (mg : Str → Option Value) where
  a_legal_partition_order : Addr
  d_legal_partition_order : FuncData
  F_legal_partition_order : Fun K "legal_partition_order" "legal_partition_order" s_legal_partition_order a_legal_partition_order d_legal_partition_order
  b_legal_partition_order : Binds K d_legal_partition_order ["size", "order", "partition_order"] []
  g_legal_partition_order : mg "legal_partition_order" = some (.ref a_legal_partition_order)
  a_partition_sizes : Addr
  d_partition_sizes : FuncData
  F_partition_sizes : Fun K "partition_sizes" "partition_sizes" s_partition_sizes a_partition_sizes d_partition_sizes
  b_partition_sizes : Binds K d_partition_sizes ["size", "order", "partition_order"] []
  g_partition_sizes : mg "partition_sizes" = some (.ref a_partition_sizes)
  a_law_cell : Addr
  d_law_cell : FuncData
  F_law_cell : Fun K "_law_cell" "_law_cell" s_law_cell a_law_cell d_law_cell
  b_law_cell : Binds K d_law_cell ["script", "k"] []
  g_law_cell : mg "_law_cell" = some (.ref a_law_cell)
  a_law_part : Addr
  d_law_part : FuncData
  F_law_part : Fun K "_law_part" "_law_part" s_law_part a_law_part d_law_part
  b_law_part : Binds K d_law_part ["size", "order", "p"] []
  g_law_part : mg "_law_part" = some (.ref a_law_part)
  a_law_sizes_hold : Addr
  d_law_sizes_hold : FuncData
  F_law_sizes_hold : Fun K "_law_sizes_hold" "_law_sizes_hold" s_law_sizes_hold a_law_sizes_hold d_law_sizes_hold
  b_law_sizes_hold : Binds K d_law_sizes_hold ["size", "order", "p", "part"] []
  g_law_sizes_hold : mg "_law_sizes_hold" = some (.ref a_law_sizes_hold)
  a_law : Addr
  d_law : FuncData
  F_law : Fun K "law" "law" s_law a_law d_law
  b_law : Binds K d_law ["script"] []
  g_law : mg "law" = some (.ref a_law)
  m_len : mg "len" = none
  m_range : mg "range" = none
  m_isinstance : mg "isinstance" = none
  m_list : mg "list" = none
  m_int : mg "int" = none
  m_bool : mg "bool" = none
  m_sum : mg "sum" = none
  m_min : mg "min" = none
section
variable {P : Program} {w : World} {K : PySem.W.Frag} {mg : Str → Option Value} {base : Heap}
def sp_cell (K : PySem.W.Frag) : Sp := fun vs H Q _ => ∃ (a : Addr) (ns : List Int) (k : Int), vs = [.ref a, .int k] ∧ SqL K H a (ns.map V.int) ∧ 0 ≤ k ∧ RetV (.int (cellI ns k)) H Q
theorem ok_law_cell (T : TX K mg) : FnOk P w K mg base CX0 1 T.a_law_cell T.d_law_cell ["script", "k"] (sp_cell K) := by
  refine T.F_law_cell.ok sc_law_cell (fun vs H Q E h => by obtain ⟨a, ns, k, rfl, _⟩ := h; rfl) (fun cdv A outer s H vs Q E hr h => ?_)
  obtain ⟨a, ns, k, rfl, hS, hk, q⟩ := h
  refine ⟨_, (pss_cons (ps_if (pt_cmpR op_lt (pv 1) (pe_callB call_len_seq (by rfl) T.m_len PySem.boot_len (pa_cons (pv 0) pa_nil)) (nomark _)) (pss_one (ps_ret (pe_ix ix_list (pv 0) (pv 1) (fun _ _ => rfl)))) pss_nil)
      (pss_one (ps_ret pe_int))), ?_⟩
  have hl := (ev_lenS (K := K) (Ev.s (te := tVar 0) (σ := start ["script", "k"] [.ref a, .int k]) (ev_var rfl) hS))
  refine q_when (et_test (ev_I0 (ev_var rfl) hl)) ?_ ?_
  · intro hb H1 e1
    have hb : k < ns.length := by
      have := of_decide_eq_true hb
      rwa [List.length_map] at this
    refine s_ret (v := .int (cellI ns k)) (ev_ixS (i := 0) (n := k) (Ev.s (ev_var rfl) (ex_l e1 hS)) (ev_var rfl) ?_) fun H2 e2 => q H2 (e1.trans e2)
    exact at_of (j := k.toNat) (by omega) (at_int (cellI_in hk hb))
  · intro hb H1 e1
    have hb : ¬ k < ns.length := by
      have := of_decide_eq_false hb
      rwa [List.length_map] at this
    walk_at "ret"
    intro H2 e2
    exact ret_eq q (e1.trans e2) (by rw [cellI_out hb])
theorem ev_cell {σ : L2.St} {H : Hp} {ta tk : TE} {E : XK} {ns : List Int} {k : Int} {a : Addr} (ha : Ev ta σ H (.ref a)) (hS : SqL K H a (ns.map V.int)) (hk : Ev tk σ H (.int k)) (h0 : 0 ≤ k) : Ev (tCall (sp_cell K) [] E (tCons ta (tCons tk tNil))) σ H (.int (cellI ns k)) :=
  ev_call (ea_cons ha (ea_cons hk ea_nil)) fun H1 e Q q _ => ⟨a, ns, k, rfl, ex_l e hS, h0, q⟩
local macro_rules | `(tactic| walk_at "evown") => `(tactic| (refine' ev_cell ?h1 ?h2 ?h3 ?h4; (case h1 => exact ev_var rfl); (case h2 => walk_at "sq"); (case h3 => walk_at "ev"); (case h4 => walk_at "side")))

/-! ### the mathematics -/
theorem mod_two (s m : Int) (hm : 0 < m) : s % (m * 2) = m * (s / m % 2) + s % m := by
  have h1 : m * (s / m) + s % m = s := Int.mul_ediv_add_emod s m
  have h2 : 2 * (s / m / 2) + s / m % 2 = s / m := Int.mul_ediv_add_emod (s / m) 2
  have h3 := Int.emod_nonneg s (show m ≠ 0 by omega)
  have h4 := Int.emod_lt_of_pos s hm
  have h5 : s / m % 2 = 0 ∨ s / m % 2 = 1 := by omega
  have e : s = (m * (s / m % 2) + s % m) + (m * 2) * (s / m / 2) := by
    have : m * (s / m) = m * (2 * (s / m / 2) + s / m % 2) := by rw [h2]
    rw [Int.mul_add, ← Int.mul_assoc] at this
    omega
  have hlt : m * (s / m % 2) + s % m < m * 2 := by
    rcases h5 with h | h <;> rw [h] <;> omega
  have hge : 0 ≤ m * (s / m % 2) + s % m := by
    rcases h5 with h | h <;> rw [h] <;> omega
  calc s % (m * 2) = ((m * (s / m % 2) + s % m) + (m * 2) * (s / m / 2)) % (m * 2) := by rw [← e]
    _ = (m * (s / m % 2) + s % m) % (m * 2) := Int.add_mul_emod_self_left _ _ _
    _ = _ := Int.emod_eq_of_lt hge hlt
theorem pow_pos2 (i : Nat) : (0 : Int) < 2 ^ i := Int.pow_pos (by decide)
theorem mod_step (s : Int) (i : Nat) : s % 2 ^ (i + 1) = 0 ↔ (s % 2 ^ i = 0 ∧ s / 2 ^ i % 2 = 0) := by
  have hm := pow_pos2 i
  rw [Int.pow_succ, mod_two s _ hm]
  have h3 := Int.emod_nonneg s (show (2 : Int) ^ i ≠ 0 by omega)
  have h5 : s / 2 ^ i % 2 = 0 ∨ s / 2 ^ i % 2 = 1 := by omega
  rcases h5 with h | h <;> rw [h] <;> omega
theorem div_step (s : Int) (i : Nat) : s / 2 ^ (i + 1) = s / 2 ^ i / 2 := by
  rw [Int.pow_succ, Int.ediv_ediv_of_nonneg (Int.le_of_lt (pow_pos2 i))]
theorem mod_less (s : Int) (i : Nat) : ∀ j, s % 2 ^ (i + j) = 0 → s % 2 ^ i = 0
  | 0, h => h
  | j + 1, h => mod_less s i j ((mod_step s (i + j)).mp h).1
def partI (s o : Int) (m : Nat) : Int := if s % 2 ^ m = 0 ∧ o < s / 2 ^ m then s / 2 ^ m else 0
theorem pow_le16 {m : Nat} (h : m ≤ 16) : (2 : Int) ^ m ≤ 65536 := by
  have h1 : 2 ^ m ≤ 2 ^ 16 := Nat.pow_le_pow_right (by decide) h
  have h2 : ((2 : Int) ^ m) = ((2 ^ m : Nat) : Int) := by rw [Int.natCast_pow]; rfl
  omega
/-! ### the program -/
def sp_legal : Sp := fun vs H Q _ => ∃ (s o : Int) (m : Nat), vs = [.int s, .int o, .int m] ∧ m ≤ 16 ∧ RetV (.bl (decide (s % 2 ^ m = 0) && decide (o < s / 2 ^ m))) H Q
theorem ok_legal_partition_order (T : TX K mg) : FnOk P w K mg base CX0 1 T.a_legal_partition_order T.d_legal_partition_order ["size", "order", "partition_order"] sp_legal := by
  refine T.F_legal_partition_order.ok sc_legal_partition_order (fun vs H Q E h => by obtain ⟨s, o, m, rfl, _⟩ := h; rfl) (fun cdv A outer s H vs Q E hr h => ?_)
  obtain ⟨s, o, m, rfl, hm, k⟩ := h
  have h1 := pow_pos2 m
  have h2 := pow_le16 hm
  refine ⟨_, (pss_cons (ps_set (i := 3) sc_legal_partition_order.nd rfl (Or.inl rfl) (pe_op op_shl pe_int (pv 2)))
      (pss_one (ps_ret (pe_and (pe_cmpR op_eq (pe_op op_mod (pv 0) (pv 3)) pe_int (nomark _)) (pe_one (pe_cmpR op_gt (pe_op op_fdiv (pv 0) (pv 3)) (pv 1) (nomark _))))))), ?_⟩
  refine q_asg (v := .int (2 ^ m)) (ev_is (v := .int (1 * 2 ^ (m : Int).toNat)) (by walk_at "ev") (by rw [Int.toNat_natCast, Int.one_mul])) fun H1 e1 => ?_
  walk_at "ret"
  intro H2 e2
  refine ret_eq k (e1.trans e2) ?_
  have e0 : decide (V.int (s % 2 ^ m) = V.int 0) = decide (s % 2 ^ m = 0) := by simp
  rw [e0]
def sp_sizes : Sp := fun vs H Q _ => ∃ (s o : Int) (m : Nat), vs = [.int s, .int o, .int m] ∧ m ≤ 16 ∧ RetL (((s / 2 ^ m - o) :: List.replicate (2 ^ m - 1) (s / 2 ^ m)).map V.int) H Q
theorem ok_partition_sizes (T : TX K mg) : FnOk P w K mg base CX0 1 T.a_partition_sizes T.d_partition_sizes ["size", "order", "partition_order"] sp_sizes := by
  refine T.F_partition_sizes.ok sc_partition_sizes (fun vs H Q E h => by obtain ⟨s, o, m, rfl, _⟩ := h; rfl) (fun cdv A outer s H vs Q E hr h => ?_)
  obtain ⟨s, o, m, rfl, hm, k⟩ := h
  have h1 := pow_pos2 m
  have h2 := pow_le16 hm
  have h3 : ((2 : Int) ^ m - 1).toNat = 2 ^ m - 1 := by
    have : ((2 : Int) ^ m) = ((2 ^ m : Nat) : Int) := by rw [Int.natCast_pow]; rfl
    omega
  have h4 : 2 ^ m ≤ 65536 := by
    have : ((2 : Int) ^ m) = ((2 ^ m : Nat) : Int) := by rw [Int.natCast_pow]; rfl
    omega
  refine ⟨_, (pss_cons (ps_set (i := 3) sc_partition_sizes.nd rfl (Or.inl rfl) (pe_op op_shr (pv 0) (pv 2)))
      (pss_one (ps_ret (pe_op op_cat (pe_lst (pa_cons (pe_op op_sub (pv 3) (pv 1)) pa_nil)) (pe_op op_rep (pe_lst (pa_cons (pv 3) pa_nil)) (pe_op op_sub (pe_op op_shl pe_int (pv 2)) pe_int)))))), ?_⟩
  refine q_asg (v := .int (s / 2 ^ m)) (ev_is (v := .int (s / 2 ^ (m : Int).toNat)) (by walk_at "ev") (by rw [Int.toNat_natCast])) fun H1 e1 => ?_
  refine s_retL (EvL.is (el_cat (xs := [.int (s / 2 ^ m - o)]) (ys := List.replicate (2 ^ m - 1) (.int (s / 2 ^ m))) (EvL.r (el_lst (by walk_at "ea") (Nat.le_of_ble_eq_true rfl))) (EvL.r (EvL.is (el_rep (xs := [.int (s / 2 ^ m)]) (k := 2 ^ m - 1) (EvL.r (el_lst (by walk_at "ea") (Nat.le_of_ble_eq_true rfl))) (ev_is (v := .int (1 * 2 ^ (m : Int).toNat - 1)) (by walk_at "ev") (by rw [Int.toNat_natCast, Int.one_mul])) (by omega) (by rw [h3]; show 1 * (2 ^ m - 1) ≤ 100000; omega)) (by rw [h3, rep_one]))) (by rw [List.length_replicate]; show 1 + _ ≤ 100000; omega)) (by simp)) fun p H2 hp e2 h2 => k.go e1 hp e2 h2
theorem el_sizes {σ : L2.St} {H : Hp} {t1 t2 t3 : TE} {E : XK} {s o : Int} {m : Nat} (h1 : Ev t1 σ H (.int s)) (h2 : Ev t2 σ H (.int o)) (h3 : Ev t3 σ H (.int m)) (hm : m ≤ 16) :
    EvL (tCall sp_sizes [] E (tCons t1 (tCons t2 (tCons t3 tNil)))) σ H (((s / 2 ^ m - o) :: List.replicate (2 ^ m - 1) (s / 2 ^ m)).map V.int) :=
  el_call (ea_cons h1 (ea_cons h2 (ea_cons h3 ea_nil))) fun H1 e Q q _ => ⟨s, o, m, rfl, hm, q⟩
theorem ev_legal {σ : L2.St} {H : Hp} {t1 t2 t3 : TE} {E : XK} {s o : Int} {m : Nat} (h1 : Ev t1 σ H (.int s)) (h2 : Ev t2 σ H (.int o)) (h3 : Ev t3 σ H (.int m)) (hm : m ≤ 16) :
    Ev (tCall sp_legal [] E (tCons t1 (tCons t2 (tCons t3 tNil)))) σ H (.bl (decide (s % 2 ^ m = 0) && decide (o < s / 2 ^ m))) :=
  ev_call (ea_cons h1 (ea_cons h2 (ea_cons h3 ea_nil))) fun H1 e Q q _ => ⟨s, o, m, rfl, hm, q⟩
def sp_part : Sp := fun vs H Q _ => ∃ (s o : Int) (m : Nat), vs = [.int s, .int o, .int m] ∧ m ≤ 16 ∧ RetV (.int (partI s o m)) H Q
theorem ok_law_part (T : TX K mg) : FnOk P w K mg base CX0 1 T.a_law_part T.d_law_part ["size", "order", "p"] sp_part := by
  refine T.F_law_part.ok sc_law_part (fun vs H Q E h => by obtain ⟨s, o, m, rfl, _⟩ := h; rfl) (fun cdv A outer s H vs Q E hr h => ?_)
  obtain ⟨s, o, m, rfl, hm, k⟩ := h
  refine ⟨_, (pss_cons (ps_for PassesOwn.never rfl (pi_range1 (by rfl) T.m_range (pa_cons (pv 2) pa_nil)) (pg_name (i := 3) sc_law_part.nd rfl (Or.inl rfl)) (pss_cons (ps_if (pt_cmpR op_eq (pe_op op_mod (pv 0) pe_int) pe_int (nomark _)) (pss_one (ps_ret pe_int)) pss_nil)
        (pss_one (ps_set (i := 0) sc_law_part.nd rfl (Or.inl rfl) (pe_op op_fdiv (pv 0) pe_int)))))
      (pss_cons (ps_if (pt_cmpR op_gt (pv 0) (pv 1) (nomark _)) (pss_one (ps_ret (pv 0))) pss_nil)
      (pss_one (ps_ret pe_int)))), ?_⟩
  refine q_forR1 (n := m) (by walk_at "ea") (by omega) (fun i σ' H' => ∃ z, σ' = [some (.int (s / 2 ^ i)), some (.int o), some (.int m), z] ∧ s % 2 ^ i = 0 ∧ Ex H H') (fun H1 e1 => ⟨none, by rw [Int.pow_zero, Int.ediv_one]; rfl, by rw [Int.pow_zero]; exact Int.emod_one s, e1⟩) ?_ ?_
  · rintro i σ' H' hi ⟨z, rfl, h0, e⟩
    walk_at "when"
    · intro hb H1 e1
      walk_at "ret"
      intro H2 e2
      refine ret_eq k ((e.trans e1).trans e2) ?_
      have hb : s / 2 ^ i % 2 = 1 := V.int.inj (of_decide_eq_true hb)
      unfold partI
      rw [if_neg]
      rintro ⟨q, _⟩
      have : s % 2 ^ (i + 1) = 0 := mod_less s (i + 1) (m - (i + 1)) (by rw [show i + 1 + (m - (i + 1)) = m by omega]; exact q)
      have := ((mod_step s i).mp this).2
      omega
    · intro hb H1 e1
      have hb : ¬ s / 2 ^ i % 2 = 1 := fun z => of_decide_eq_false hb (congrArg V.int z)
      walk_at "asgS"
      intro H2 e2
      refine ⟨some (V.int i), ?_, (mod_step s i).mpr ⟨h0, by omega⟩, (e.trans e1).trans e2⟩
      rw [div_step]
      rfl
  · rintro σ' H' ⟨z, rfl, h0, e⟩
    rw [Int.toNat_natCast] at h0
    rw [Int.toNat_natCast]
    walk_at "when"
    · intro hb H1 e1
      walk_at "ret"
      intro H2 e2
      refine ret_eq k ((e.trans e1).trans e2) ?_
      have hb : o < s / 2 ^ m := of_decide_eq_true hb
      unfold partI
      rw [if_pos ⟨h0, hb⟩]
    · intro hb H1 e1
      walk_at "ret"
      intro H2 e2
      refine ret_eq k ((e.trans e1).trans e2) ?_
      have hb : ¬ o < s / 2 ^ m := of_decide_eq_false hb
      unfold partI
      rw [if_neg fun z => hb z.2]
theorem ev_part {σ : L2.St} {H : Hp} {t1 t2 t3 : TE} {E : XK} {s o : Int} {m : Nat} (h1 : Ev t1 σ H (.int s)) (h2 : Ev t2 σ H (.int o)) (h3 : Ev t3 σ H (.int m)) (hm : m ≤ 16) :
    Ev (tCall sp_part [] E (tCons t1 (tCons t2 (tCons t3 tNil)))) σ H (.int (partI s o m)) :=
  ev_call (ea_cons h1 (ea_cons h2 (ea_cons h3 ea_nil))) fun H1 e Q q _ => ⟨s, o, m, rfl, hm, q⟩
def sp_hold : Sp := fun vs H Q _ => ∃ (s o : Int) (m : Nat), vs = [.int s, .int o, .int m, .int (s / 2 ^ m)] ∧ m ≤ 15 ∧ s % 2 ^ m = 0 ∧ RetV (.bl true) H Q
local macro_rules | `(tactic| walk_at "elmore") => `(tactic| (refine' el_sizes ?h1 ?h2 ?h3 ?h4; (case h1 => walk_at "ev"); (case h2 => walk_at "ev"); (case h3 => walk_at "ev"); (case h4 => omega)))
theorem ok_law_sizes_hold (T : TX K mg) : FnOk P w K mg base CX0 2 T.a_law_sizes_hold T.d_law_sizes_hold ["size", "order", "p", "part"] sp_hold := by
  refine T.F_law_sizes_hold.ok sc_law_sizes_hold (fun vs H Q E h => by obtain ⟨s, o, m, rfl, _⟩ := h; rfl) (fun cdv A outer s H vs Q E hr h => ?_)
  obtain ⟨s, o, m, rfl, hm, hd, k⟩ := h
  have h1 := pow_pos2 m
  have h2 := pow_le16 (m := m) (by omega)
  have hc : ((2 : Int) ^ m) = ((2 ^ m : Nat) : Int) := by rw [Int.natCast_pow]; rfl
  generalize hq : s / 2 ^ m = q
  have hs : 2 ^ m * q = s := by
    have := Int.mul_ediv_add_emod s (2 ^ m)
    rw [hd, hq] at this
    omega
  refine ⟨_, (pss_cons (ps_set (i := 4) sc_law_sizes_hold.nd rfl (Or.inl rfl) (pe_call (ok_partition_sizes T) (hr.mono (by decide)) (by rfl) T.g_partition_sizes T.F_partition_sizes.kp T.b_partition_sizes .nil pass0 (pa_cons (pv 0) (pa_cons (pv 1) (pa_cons (pv 2) pa_nil)))))
      (pss_cons (ps_if (PW.pt (pw_or (pt_not (pt_val (pe_callB call_isi (by rfl) T.m_isinstance PyProof.Rows.boot_isinstance (pa_cons (pv 4) (pa_cons (pe_bltn (v := V.ty "list") (by rfl) T.m_list PyProof.Rows.boot_list rfl) pa_nil))))) (pw_or1 (pt_cmpR op_ne (pe_callB call_len_seq (by rfl) T.m_len PySem.boot_len (pa_cons (pv 4) pa_nil)) (pe_op op_shl pe_int (pv 2)) (nomark _))))) (pss_one (ps_ret pe_bl)) pss_nil)
      (pss_cons (ps_set (i := 5) sc_law_sizes_hold.nd rfl (Or.inl rfl) (pe_op op_sub (pv 3) (pv 1)))
      (pss_cons (ps_for PassesOwn.never rfl (pi_list (pv 4)) (pg_name (i := 6) sc_law_sizes_hold.nd rfl (Or.inl rfl)) (pss_cons (ps_if (PW.pt (pw_or (pt_not (pt_val (pe_callB call_isi (by rfl) T.m_isinstance PyProof.Rows.boot_isinstance (pa_cons (pv 6) (pa_cons (pe_bltn (v := V.ty "int") (by rfl) T.m_int PyProof.Rows.boot_int rfl) pa_nil))))) (pw_or (pt_val (pe_callB call_isi (by rfl) T.m_isinstance PyProof.Rows.boot_isinstance (pa_cons (pv 6) (pa_cons (pe_bltn (v := V.ty "bool") (by rfl) T.m_bool PyProof.Rows.boot_bool rfl) pa_nil)))) (pw_or1 (pt_cmpR op_ne (pv 6) (pv 5) (nomark _)))))) (pss_one (ps_ret pe_bl)) pss_nil)
        (pss_one (ps_set (i := 5) sc_law_sizes_hold.nd rfl (Or.inl rfl) (pv 3)))))
      (pss_cons (ps_if (pt_cmpR op_ne (pe_callB (cr_sum rfl) (by rfl) T.m_sum PyProof.Rows.boot_sum (pa_cons (pv 4) pa_nil)) (pe_op op_sub (pv 0) (pv 1)) (nomark _)) (pss_one (ps_ret pe_bl)) pss_nil)
      (pss_cons (ps_if (pt_cmpR op_gt (pv 2) pe_int (nomark _)) (pss_one (ps_ret pe_bl)) pss_nil)
      (pss_cons (ps_set (i := 7) sc_law_sizes_hold.nd rfl (Or.inl rfl) (pe_callTy call_list_of (by rfl) T.m_list PyProof.Rows.boot_list (pa_cons (pv 4) pa_nil)))
      (pss_cons (ps_expr (pe_bm PySem.F.plainAttrs_list PySem.F.slot_list_append PySem.F.type_list_append mt_append (pv 4) (pa_cons pe_int pa_nil)))
      (pss_cons (ps_asg (pe_op op_add (pe_ix ix_list (pv 4) pe_int (fun _ _ => rfl)) pe_int) (pg_sub (pv 4) pe_int set_list))
      (pss_one (ps_ret (pe_cmpR (op_eqD (hu64 hr)) (pe_call (ok_partition_sizes T) (hr.mono (by decide)) (by rfl) T.g_partition_sizes T.F_partition_sizes.kp T.b_partition_sizes .nil pass0 (pa_cons (pv 0) (pa_cons (pv 1) (pa_cons (pv 2) pa_nil)))) (pv 7) (nomark _))))))))))))), ?_⟩
  walk_at "asgL"
  rw [hq]
  intro p H1 hp e1 g1
  walk_at "when"
  · intro hb
    rw [Int.toNat_natCast, List.length_map, List.length_cons, List.length_replicate] at hb
    exfalso
    have e0 : ((2 ^ m - 1 + 1 : Nat) : Int) = 1 * 2 ^ m := by omega
    rw [e0] at hb
    simp at hb
  intro hb H2 e2
  walk_at "asg"
  intro H3 e3
  generalize hL : ((q - o) :: List.replicate (2 ^ m - 1) q) = L at *
  have hL0 : ∀ i n, L[i]? = some n → n = if i = 0 then q - o else q := by
    subst hL
    intro i n hi
    cases i with
    | zero => exact (Option.some.inj hi).symm
    | succ i =>
      rw [List.getElem?_cons_succ, List.getElem?_replicate] at hi
      split at hi
      · exact (Option.some.inj hi).symm
      · cases hi
  refine q_forLn (xs := L.map V.int) (a := p) (ev_var rfl) (by walk_at "sq") (fun i σ' H' => ∃ z, σ' = [some (.int s), some (.int o), some (.int m), some (.int q), some (.ref p), some (.int (if i = 0 then q - o else q)), z, none] ∧ Ex H3 H') (fun H4 e4 => ⟨none, rfl, e4⟩) (fun i σ' H' _ ⟨_, _, e⟩ => by walk_at "sq") ?_ ?_
  · rintro i x σ' H' hx ⟨z, rfl, e⟩
    obtain ⟨n, hn, hi, rfl⟩ := int_at hx
    have hn := hL0 i n hn
    subst hn
    walk_at "when"
    · intro hb
      exact absurd hb (by simp)
    intro hb H4 e4
    walk_at "asgS"
    intro H5 e5
    exact ⟨_, rfl, (e.trans e4).trans e5⟩
  rintro σ' H' ⟨z, rfl, e⟩
  have hsum : L.sum = s - o := by
    subst hL
    rw [List.sum_cons, List.sum_replicate_int]
    have : ((2 ^ m - 1 : Nat) : Int) = 2 ^ m - 1 := by omega
    rw [this, Int.sub_mul, Int.one_mul, hs]
    omega
  walk_at "when"
  · intro hb
    rw [hsum] at hb
    exact absurd hb (by simp)
  intro hb H4 e4
  walk_at "when"
  · intro _ H5 e5
    walk_at "ret"
    intro H6 e6
    exact ret_eq k ((((((e1.trans e2).trans e3).trans e).trans e4).trans e5).trans e6) rfl
  intro hb H5 e5
  walk_at "asgL"
  intro r H6 hr6 e6 g6
  have gp : H6 p = some (.lst (L.map V.int)) := by walk_at "hp"
  have g5 : H5 p = some (.lst (L.map V.int)) := by walk_at "hp"
  have npr : r ≠ p := (ne_of_none g5 hr6).symm
  have hLl : L.length ≤ 65536 := by
    subst hL
    rw [List.length_cons, List.length_replicate]
    omega
  refine q_app gp (ev_var rfl) (by walk_at "ev") (by rw [List.length_map]; omega) fun H7 e7 => ?_
  have hx0 : (L.map V.int ++ [V.int 7])[0]? = some (V.int (q - o)) := by
    subst hL
    rfl
  refine q_setL (j := 0) upd_same (v := .int (q - o + 1)) (ev_I0 (ev_ixS (K := K) (i := 0) (n := 0) (Ev.s (ev_var rfl) (sq_of upd_same)) ev_c (at_of (j := 0) rfl hx0)) ev_c) (ev_var rfl) ev_c (by rw [List.length_append]; show 0 < _ + 1; omega) fun H8 e8 => ?_
  have gr : (upd H8 p (HO.lst ((L.map V.int ++ [V.int 7]).set 0 (V.int (q - o + 1))))) r = some (.lst (L.map V.int)) := by
    rw [upd_ne npr]
    refine e8 _ _ ?_
    rw [upd_ne npr]
    exact e7 _ _ g6
  have ep : Ex H (upd H8 p (HO.lst ((L.map V.int ++ [V.int 7]).set 0 (V.int (q - o + 1))))) :=
    Ex.mut ((Ex.mut (((((((e1.trans e2).trans e3).trans e).trans e4).trans e5).trans e6).trans e7) hp).trans e8) hp
  refine s_ret (ev_eqI (K := K) (ns := L) (ms := L) (EvR.s (EvL.r (EvL.is (el_sizes (s := s) (o := o) (m := m) (ev_var rfl) (ev_var rfl) (ev_var rfl) (by omega)) (by rw [hq, hL])))) (Ev.s (ev_var rfl) (sq_of gr))) fun H9 e9 => ?_
  exact ret_eq k (ep.trans e9) (by rw [decide_eq_true rfl])
theorem ev_hold {σ : L2.St} {H : Hp} {t1 t2 t3 t4 : TE} {E : XK} {s o q : Int} {m : Nat} (h1 : Ev t1 σ H (.int s)) (h2 : Ev t2 σ H (.int o)) (h3 : Ev t3 σ H (.int m)) (h4 : Ev t4 σ H (.int q)) (hm : m ≤ 15) (hq : s / 2 ^ m = q) (hd : s % 2 ^ m = 0) :
    Ev (tCall sp_hold [] E (tCons t1 (tCons t2 (tCons t3 (tCons t4 tNil))))) σ H (.bl true) :=
  ev_call (ea_cons h1 (ea_cons h2 (ea_cons h3 (ea_cons h4 ea_nil)))) fun H1 e Q q _ => ⟨s, o, m, by rw [hq]; rfl, hm, hd, q⟩
local macro_rules | `(tactic| walk_at "evown") => `(tactic| first
  | (refine' ev_cell ?h1 ?h2 ?h3 ?h4; (case h1 => exact ev_var rfl); (case h2 => walk_at "sq"); (case h3 => walk_at "ev"); (case h4 => walk_at "side"))
  | (refine' ev_legal ?h1 ?h2 ?h3 ?h4; (case h1 => walk_at "ev"); (case h2 => walk_at "ev"); (case h3 => walk_at "ev"); (case h4 => omega))
  | (refine' ev_part ?h1 ?h2 ?h3 ?h4; (case h1 => walk_at "ev"); (case h2 => walk_at "ev"); (case h3 => walk_at "ev"); (case h4 => omega)))
def sp_law (K : PySem.W.Frag) : Sp := fun vs H Q _ => ∃ (a : Addr) (ns : List Int), vs = [.ref a] ∧ SqL K H a (ns.map V.int) ∧ ns.length ≤ 63 ∧ ∀ H', Q (.bl true) H'
theorem ok_law (T : TX K mg) : FnOk P w K mg base CX0 3 T.a_law T.d_law ["script"] (sp_law K) := by
  refine T.F_law.ok sc_law (fun vs H Q E h => by obtain ⟨a, ns, rfl, _⟩ := h; rfl) (fun cdv A outer s H vs Q E hr h => ?_)
  obtain ⟨a, ns, rfl, hS, hlen, k⟩ := h
  refine ⟨_, (pss_cons (ps_for PassesOwn.never rfl (pi_range1 (by rfl) T.m_range (pa_cons pe_int pa_nil)) (pg_name (i := 1) sc_law.nd rfl (Or.inl rfl)) (pss_cons (ps_set (i := 2) sc_law.nd rfl (Or.inl rfl) (pe_call (ok_law_cell T) (hr.mono (by decide)) (by rfl) T.g_law_cell T.F_law_cell.kp T.b_law_cell .nil pass0 (pa_cons (pv 0) (pa_cons (pe_op op_mul pe_int (pv 1)) pa_nil))))
        (pss_cons (ps_set (i := 3) sc_law.nd rfl (Or.inl rfl) (pe_op op_add pe_int (pe_op op_mod (pe_op op_fdiv (pv 2) pe_int) pe_int)))
        (pss_cons (ps_if (pt_cmpR op_eq (pe_op op_mod (pv 2) pe_int) pe_int (nomark _)) (pss_one (ps_set (i := 3) sc_law.nd rfl (Or.inl rfl) (pe_op op_shl (pe_op op_add pe_int (pe_op op_mod (pe_op op_fdiv (pv 2) pe_int) pe_int)) (pe_op op_mod (pe_op op_fdiv (pv 2) pe_int) pe_int)))) pss_nil)
        (pss_cons (ps_set (i := 4) sc_law.nd rfl (Or.inl rfl) (pe_callB (call_min2 rfl) (by rfl) T.m_min PyProof.Rows.boot_min (pa_cons (pv 3) (pa_cons (pe_op op_mod (pe_call (ok_law_cell T) (hr.mono (by decide)) (by rfl) T.g_law_cell T.F_law_cell.kp T.b_law_cell .nil pass0 (pa_cons (pv 0) (pa_cons (pe_op op_add (pe_op op_mul pe_int (pv 1)) pe_int) pa_nil))) pe_int) pa_nil))))
        (pss_one (ps_for PassesOwn.never rfl (pi_range1 (by rfl) T.m_range (pa_cons pe_int pa_nil)) (pg_name (i := 5) sc_law.nd rfl (Or.inl rfl)) (pss_cons (ps_set (i := 6) sc_law.nd rfl (Or.inl rfl) (pe_call (ok_law_part T) (hr.mono (by decide)) (by rfl) T.g_law_part T.F_law_part.kp T.b_law_part .nil pass0 (pa_cons (pv 3) (pa_cons (pv 4) (pa_cons (pv 5) pa_nil)))))
          (pss_cons (ps_set (i := 7) sc_law.nd rfl (Or.inl rfl) (pe_call (ok_legal_partition_order T) (hr.mono (by decide)) (by rfl) T.g_legal_partition_order T.F_legal_partition_order.kp T.b_legal_partition_order .nil pass0 (pa_cons (pv 3) (pa_cons (pv 4) (pa_cons (pv 5) pa_nil)))))
          (pss_cons (ps_if (PW.pt (pw_or (pt_not (pt_val (pe_callB call_isi (by rfl) T.m_isinstance PyProof.Rows.boot_isinstance (pa_cons (pv 7) (pa_cons (pe_bltn (v := V.ty "bool") (by rfl) T.m_bool PyProof.Rows.boot_bool rfl) pa_nil))))) (pw_or1 (pt_cmpR op_ne (pv 7) (pe_cmpR op_gt (pv 6) pe_int (nomark _)) (nomark _))))) (pss_one (ps_ret pe_bl)) pss_nil)
          (pss_one (ps_if (PW.pt (pw_and (pt_cmpR op_gt (pv 6) pe_int (nomark _)) (pw_and1 (pt_not (pt_val (pe_call (ok_law_sizes_hold T) (hr.mono (by decide)) (by rfl) T.g_law_sizes_hold T.F_law_sizes_hold.kp T.b_law_sizes_hold .nil pass0 (pa_cons (pv 3) (pa_cons (pv 4) (pa_cons (pv 5) (pa_cons (pv 6) pa_nil)))))))))) (pss_one (ps_ret pe_bl)) pss_nil))))))))))))
      (pss_one (ps_ret pe_bl))), ?_⟩
  refine q_forR1 (n := 4) (by walk_at "ea") (by omega) (fun i σ' H' => ∃ z2 z3 z4 z5 z6 z7 z8, σ' = [some (.ref a), z2, z3, z4, z5, z6, z7, z8] ∧ Ex H H') (fun H1 e1 => ⟨none, none, none, none, none, none, none, rfl, e1⟩) ?_ ?_
  · rintro i σ' H' hi ⟨z2, z3, z4, z5, z6, z7, z8, rfl, e⟩
    walk_at "asg"
    intro H1 e1
    walk_at "asg"
    intro H2 e2
    generalize cellI ns (2 * (i : Int)) = c
    generalize hs : (if decide (c % 2 = 1) = true then (1 + c / 2 % 63) * 2 ^ (c / 126 % 10).toNat else 1 + c / 2 % 65535) = sz
    have hp : ∀ j, j ≤ 9 → (2 : Int) ^ j ≤ 512 := fun j hj => by
      have h1 : 2 ^ j ≤ 2 ^ 9 := Nat.pow_le_pow_right (by decide) hj
      have h2 : ((2 : Int) ^ j) = ((2 ^ j : Nat) : Int) := by rw [Int.natCast_pow]; rfl
      omega
    have hsz : 1 ≤ sz ∧ sz ≤ 65535 := by
      subst hs
      split
      · have h1 := hp (c / 126 % 10).toNat (by omega)
        have h2 := pow_pos2 (c / 126 % 10).toNat
        have h3 : 1 ≤ 1 + c / 2 % 63 := by omega
        have h4 : 1 + c / 2 % 63 ≤ 63 := by omega
        have h5 : 1 * 1 ≤ (1 + c / 2 % 63) * 2 ^ (c / 126 % 10).toNat := Int.mul_le_mul h3 h2 (by decide) (by omega)
        have h6 : (1 + c / 2 % 63) * 2 ^ (c / 126 % 10).toNat ≤ 63 * 512 := Int.mul_le_mul h4 h1 (by omega) (by decide)
        omega
      · omega
    refine q_ifAsg (b := decide (c % 2 = 1)) (v := V.int sz) (et_test (ev_is (by walk_at "ev") (by simp))) (fun hb => ev_is (by walk_at "ev") (by rw [← hs, if_pos hb])) (fun hb => ?_) fun H3 e3 => ?_
    · rw [← hs, if_neg (by rw [hb]; decide)]
      rfl
    walk_at "asg"
    intro H4 e4
    generalize ho : (if cellI ns (2 * (i : Int) + 1) % 33 < sz then cellI ns (2 * (i : Int) + 1) % 33 else sz) = o
    refine s_forR1 (n := 16) (by walk_at "ea") (by omega) (fun j σ2 H5 => ∃ z6 z7 z8, σ2 = [some (.ref a), some (.int i), some (.int c), some (.int sz), some (.int o), z6, z7, z8] ∧ Ex H H5) (fun H5 e5 => ⟨z6, z7, z8, rfl, ((((e.trans e1).trans e2).trans e3).trans e4).trans e5⟩) ?_ ?_
    · rintro j σ2 H5 hj ⟨y6, y7, y8, rfl, e5⟩
      walk_at "asg"
      intro H6 e6
      walk_at "asg"
      intro H7 e7
      have hpp := pow_pos2 j
      have hnn : 0 ≤ o := by
        subst ho
        split <;> omega
      have hact : (decide (sz % 2 ^ j = 0) && decide (o < sz / 2 ^ j)) = decide (0 < partI sz o j) := by
        unfold partI
        by_cases h : sz % 2 ^ j = 0 ∧ o < sz / 2 ^ j
        · rw [if_pos h, decide_eq_true h.1, decide_eq_true h.2, decide_eq_true (by omega)]
          rfl
        · rw [if_neg h]
          by_cases h1 : sz % 2 ^ j = 0
          · rw [decide_eq_true h1, decide_eq_false (fun z => h ⟨h1, z⟩)]
            rfl
          · rw [decide_eq_false h1]
            rfl
      walk_at "when"
      · intro hb
        rw [hact] at hb
        exact absurd hb (by simp)
      intro hb H8 e8
      by_cases hpos : 0 < partI sz o j
      · have hd : sz % 2 ^ j = 0 ∧ o < sz / 2 ^ j := by
          unfold partI at hpos
          split at hpos
          · assumption
          · omega
        have hpe : sz / 2 ^ j = partI sz o j := by
          unfold partI
          rw [if_pos hd]
        refine s_when (b := false) (et_is (et_and (a := decide (0 < partI sz o j)) (by walk_at "et") fun _ => et_not (et_B (ev_hold (s := sz) (o := o) (q := partI sz o j) (m := j) (ev_var rfl) (ev_var rfl) (ev_var rfl) (ev_var rfl) (by omega) hpe hd.1))) (by simp)) (fun hb => by cases hb) fun _ H9 e9 => ?_
        exact ⟨_, _, _, rfl, (((e5.trans e6).trans e7).trans e8).trans e9⟩
      · refine s_when (b := false) (et_is (et_and (a := decide (0 < partI sz o j)) (b := false) (by walk_at "et") fun h => absurd (of_decide_eq_true h) hpos) (by simp)) (fun hb => by cases hb) fun _ H9 e9 => ?_
        exact ⟨_, _, _, rfl, (((e5.trans e6).trans e7).trans e8).trans e9⟩
    · rintro σ2 H5 ⟨y6, y7, y8, rfl, e5⟩
      exact ⟨_, _, _, _, _, _, _, rfl, e5⟩
  · rintro σ' H' ⟨z2, z3, z4, z5, z6, z7, z8, rfl, e⟩
    walk_at "ret"
    intro H3 e3
    exact k _
end
theorem all_mk {l : PySem.W.OpenLaw} {w : World} {K : PySem.W.Frag} {h : Heap} {mg : Str → Option Value} {fa : Addr} {f1 f2 f3 f4 f5 f6 : Addr} (X : K.In h) (G : h.Ns mainGlobals mg) (hfa : mg "law" = some (.ref fa))
    {od1 an1 : Option Addr} {sl1 : Array (Option Value)} {oc1 kV1 dc1 pm1 cd1 ct1 : Value} {od2 an2 : Option Addr} {sl2 : Array (Option Value)} {oc2 kV2 dc2 pm2 cd2 ct2 : Value} {od3 an3 : Option Addr} {sl3 : Array (Option Value)} {oc3 kV3 dc3 pm3 cd3 ct3 : Value} {od4 an4 : Option Addr} {sl4 : Array (Option Value)} {oc4 kV4 dc4 pm4 cd4 ct4 : Value} {od5 an5 : Option Addr} {sl5 : Array (Option Value)} {oc5 kV5 dc5 pm5 cd5 ct5 : Value} {od6 an6 : Option Addr} {sl6 : Array (Option Value)} {oc6 kV6 dc6 pm6 cd6 ct6 : Value}
    (a1 : PySem.W.nsIn K mainGlobals "legal_partition_order" = some (some (.ref f1)))
    (l1 : K.lookup f1 = some ⟨oc1, od1, .func (PySem.W.fnOf "legal_partition_order" "legal_partition_order" (defArgs s_legal_partition_order) (defBody s_legal_partition_order) (defScope s_legal_partition_order) .none kV1 dc1 pm1 an1 cd1 ct1), sl1⟩) (c1 : PySem.W.codeIn K cd1 "legal_partition_order" = true) (k1 : PySem.W.keepIn K (.ref f1) = true)
    (a2 : PySem.W.nsIn K mainGlobals "partition_sizes" = some (some (.ref f2)))
    (l2 : K.lookup f2 = some ⟨oc2, od2, .func (PySem.W.fnOf "partition_sizes" "partition_sizes" (defArgs s_partition_sizes) (defBody s_partition_sizes) (defScope s_partition_sizes) .none kV2 dc2 pm2 an2 cd2 ct2), sl2⟩) (c2 : PySem.W.codeIn K cd2 "partition_sizes" = true) (k2 : PySem.W.keepIn K (.ref f2) = true)
    (a3 : PySem.W.nsIn K mainGlobals "_law_cell" = some (some (.ref f3)))
    (l3 : K.lookup f3 = some ⟨oc3, od3, .func (PySem.W.fnOf "_law_cell" "_law_cell" (defArgs s_law_cell) (defBody s_law_cell) (defScope s_law_cell) .none kV3 dc3 pm3 an3 cd3 ct3), sl3⟩) (c3 : PySem.W.codeIn K cd3 "_law_cell" = true) (k3 : PySem.W.keepIn K (.ref f3) = true)
    (a4 : PySem.W.nsIn K mainGlobals "_law_part" = some (some (.ref f4)))
    (l4 : K.lookup f4 = some ⟨oc4, od4, .func (PySem.W.fnOf "_law_part" "_law_part" (defArgs s_law_part) (defBody s_law_part) (defScope s_law_part) .none kV4 dc4 pm4 an4 cd4 ct4), sl4⟩) (c4 : PySem.W.codeIn K cd4 "_law_part" = true) (k4 : PySem.W.keepIn K (.ref f4) = true)
    (a5 : PySem.W.nsIn K mainGlobals "_law_sizes_hold" = some (some (.ref f5)))
    (l5 : K.lookup f5 = some ⟨oc5, od5, .func (PySem.W.fnOf "_law_sizes_hold" "_law_sizes_hold" (defArgs s_law_sizes_hold) (defBody s_law_sizes_hold) (defScope s_law_sizes_hold) .none kV5 dc5 pm5 an5 cd5 ct5), sl5⟩) (c5 : PySem.W.codeIn K cd5 "_law_sizes_hold" = true) (k5 : PySem.W.keepIn K (.ref f5) = true)
    (a6 : PySem.W.nsIn K mainGlobals "law" = some (some (.ref f6)))
    (l6 : K.lookup f6 = some ⟨oc6, od6, .func (PySem.W.fnOf "law" "law" (defArgs s_law) (defBody s_law) (defScope s_law) .none kV6 dc6 pm6 an6 cd6 ct6), sl6⟩) (c6 : PySem.W.codeIn K cd6 "law" = true) (k6 : PySem.W.keepIn K (.ref f6) = true)
    (z_len : PySem.W.nsIn K mainGlobals "len" = some none)
    (z_range : PySem.W.nsIn K mainGlobals "range" = some none)
    (z_isinstance : PySem.W.nsIn K mainGlobals "isinstance" = some none)
    (z_list : PySem.W.nsIn K mainGlobals "list" = some none)
    (z_int : PySem.W.nsIn K mainGlobals "int" = some none)
    (z_bool : PySem.W.nsIn K mainGlobals "bool" = some none)
    (z_sum : PySem.W.nsIn K mainGlobals "sum" = some none)
    (z_min : PySem.W.nsIn K mainGlobals "min" = some none)
    : ∃ fd : FuncData, (∀ (s : Shared) (v : Value), BindsTo s fd ⟨[v], []⟩ [("script", v)]) ∧ ∀ base : Heap, K.In base → base.Ns mainGlobals mg → FnOk l.prog w K mg base CX0 3 fa fd ["script"] (sp_law K) := by
  have e := hfa.symm.trans (PySem.W.mg_of X G a6)
  cases e
  have F1 := fun_mk (st := s_legal_partition_order) l1 c1 k1
  have b1 := F1.binds (ps := ["size", "order", "partition_order"]) fun _ _ _ _ _ _ us hl => match us, hl with | [_, _, _], _ => rfl
  have F2 := fun_mk (st := s_partition_sizes) l2 c2 k2
  have b2 := F2.binds (ps := ["size", "order", "partition_order"]) fun _ _ _ _ _ _ us hl => match us, hl with | [_, _, _], _ => rfl
  have F3 := fun_mk (st := s_law_cell) l3 c3 k3
  have b3 := F3.binds (ps := ["script", "k"]) fun _ _ _ _ _ _ us hl => match us, hl with | [_, _], _ => rfl
  have F4 := fun_mk (st := s_law_part) l4 c4 k4
  have b4 := F4.binds (ps := ["size", "order", "p"]) fun _ _ _ _ _ _ us hl => match us, hl with | [_, _, _], _ => rfl
  have F5 := fun_mk (st := s_law_sizes_hold) l5 c5 k5
  have b5 := F5.binds (ps := ["size", "order", "p", "part"]) fun _ _ _ _ _ _ us hl => match us, hl with | [_, _, _, _], _ => rfl
  have F6 := fun_mk (st := s_law) l6 c6 k6
  have b6 := F6.binds (ps := ["script"]) fun _ _ _ _ _ _ us hl => match us, hl with | [_], _ => rfl
  let T : TX K mg := ⟨f1, _, F1, b1, (PySem.W.mg_of X G a1), f2, _, F2, b2, (PySem.W.mg_of X G a2), f3, _, F3, b3, (PySem.W.mg_of X G a3), f4, _, F4, b4, (PySem.W.mg_of X G a4), f5, _, F5, b5, (PySem.W.mg_of X G a5), fa, _, F6, b6, (PySem.W.mg_of X G a6), (PySem.W.mg_none_of X G z_len), (PySem.W.mg_none_of X G z_range), (PySem.W.mg_none_of X G z_isinstance), (PySem.W.mg_none_of X G z_list), (PySem.W.mg_none_of X G z_int), (PySem.W.mg_none_of X G z_bool), (PySem.W.mg_none_of X G z_sum), (PySem.W.mg_none_of X G z_min)⟩
  exact ⟨_, fun s v => .of_eq rfl, fun base _ _ => ok_law T⟩
end K17
open PySem PySem.W PyProof.Rows
set_option maxRecDepth 100000 in
set_option maxHeartbeats 0 in
theorem PySem.Challenge.cw_monochord_k17_partition_orders_holds : PySem.Challenge.rw_monochord_k17_partition_orders.Holds := by
  w_on; o_law; k_head; (case hw => w_witness2)
  k_fill
  refine L2.walk_of (l := PySem.Challenge.rw_monochord_k17_partition_orders) (n := 63) (k := 3) (x := "script") (CX := fun _ => L2.CX0) (sp := fun w => K17.sp_law _) rfl (by decide) rfl ⟨rfl, by decide, by decide⟩ (fun w h Y => PySem.W.kIn_of Y) ?F (fun _ _ a ns hl _ hS => ⟨a, ns, rfl, hS, hl, fun _ => rfl⟩) (fun _ _ _ _ _ h => h)
  case F =>
    intro w mg fa h KX G hmg
    refine' K17.all_mk KX G hmg ?a1 ?l1 ?c1 ?k1 ?a2 ?l2 ?c2 ?k2 ?a3 ?l3 ?c3 ?k3 ?a4 ?l4 ?c4 ?k4 ?a5 ?l5 ?c5 ?k5 ?a6 ?l6 ?c6 ?k6 ?z_len ?z_range ?z_isinstance ?z_list ?z_int ?z_bool ?z_sum ?z_min
    (case a1 => k_is)
    (case l1 => k_is)
    (case c1 => k_is)
    (case k1 => k_is)
    (case a2 => k_is)
    (case l2 => k_is)
    (case c2 => k_is)
    (case k2 => k_is)
    (case a3 => k_is)
    (case l3 => k_is)
    (case c3 => k_is)
    (case k3 => k_is)
    (case a4 => k_is)
    (case l4 => k_is)
    (case c4 => k_is)
    (case k4 => k_is)
    (case a5 => k_is)
    (case l5 => k_is)
    (case c5 => k_is)
    (case k5 => k_is)
    (case a6 => k_is)
    (case l6 => k_is)
    (case c6 => k_is)
    (case k6 => k_is)
    (case z_len => k_is)
    (case z_range => k_is)
    (case z_isinstance => k_is)
    (case z_list => k_is)
    (case z_int => k_is)
    (case z_bool => k_is)
    (case z_sum => k_is)
    (case z_min => k_is)
