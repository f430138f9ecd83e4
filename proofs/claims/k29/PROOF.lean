import PyProof.Rows.All
import Wide.All
import OpenK.AllK
import Wide.FinOn
import HandS.ForMost
import HandS.Steps
import HandS.Evl
import HandS.IsInst
import HandS.Wide
import PyProof.P3Eq
import PySem.Challenge.RW_monochord_k29_split_and_join_stereo
set_option Elab.async false
set_option linter.all false
set_option maxRecDepth 100000
set_option maxHeartbeats 4000000
namespace K29
open PySem PySem.Spec PyProof.Rows L2 Evl
def topS (i : Nat) : Stmt := PySem.Challenge.pw_monochord_k29_split_and_join_stereo.main.body.getD i (.Pass ⟨0, 0, 0, 0⟩)
abbrev s_split : Stmt := topS 1
theorem sc_split : FnScope ["assignment", "left", "right"] ["assignment", "left", "right"] (defScope s_split) := ⟨rfl, rfl, rfl, by decide +kernel, rfl, by decide +kernel, by decide +kernel⟩
abbrev s_join : Stmt := topS 2
theorem sc_join : FnScope ["assignment", "first", "second", "left", "right", "doubles", "side", "mid", "double"] ["assignment", "first", "second"] (defScope s_join) := ⟨rfl, rfl, rfl, by decide +kernel, rfl, by decide +kernel, by decide +kernel⟩
abbrev s_row_depths : Stmt := topS 3
theorem sc_row_depths : FnScope ["assignment", "depth", "count"] ["assignment", "depth", "count"] (defScope s_row_depths) := ⟨rfl, rfl, rfl, by decide +kernel, rfl, by decide +kernel, by decide +kernel⟩
abbrev s_side : Stmt := topS 4
theorem sc_side : FnScope ["left", "right", "a", "b"] ["left", "right"] (defScope s_side) := ⟨rfl, rfl, rfl, by decide +kernel, rfl, by decide +kernel, by decide +kernel⟩
abbrev s_mid : Stmt := topS 5
theorem sc_mid : FnScope ["left", "right", "a", "b"] ["left", "right"] (defScope s_mid) := ⟨rfl, rfl, rfl, by decide +kernel, rfl, by decide +kernel, by decide +kernel⟩
abbrev s_law_cell : Stmt := topS 7
theorem sc_law_cell : FnScope ["script", "k"] ["script", "k"] (defScope s_law_cell) := ⟨rfl, rfl, rfl, by decide +kernel, rfl, by decide +kernel, by decide +kernel⟩
abbrev s_law_sample : Stmt := topS 8
theorem sc_law_sample : FnScope ["cell", "depth", "limit"] ["cell", "depth"] (defScope s_law_sample) := ⟨rfl, rfl, rfl, by decide +kernel, rfl, by decide +kernel, by decide +kernel⟩
abbrev s_law_is_integer : Stmt := topS 9
theorem sc_law_is_integer : FnScope ["actual"] ["actual"] (defScope s_law_is_integer) := ⟨rfl, rfl, rfl, by decide +kernel, rfl, by decide +kernel, by decide +kernel⟩
abbrev s_law_integers : Stmt := topS 10
theorem sc_law_integers : FnScope ["actual", "value"] ["actual"] (defScope s_law_integers) := ⟨rfl, rfl, rfl, by decide +kernel, rfl, by decide +kernel, by decide +kernel⟩
abbrev s_law_pair : Stmt := topS 11
theorem sc_law_pair : FnScope ["actual"] ["actual"] (defScope s_law_pair) := ⟨rfl, rfl, rfl, by decide +kernel, rfl, by decide +kernel, by decide +kernel⟩
abbrev s_law_rows : Stmt := topS 12
theorem sc_law_rows : FnScope ["assignment", "left", "right", "side", "k"] ["assignment", "left", "right"] (defScope s_law_rows) := ⟨rfl, rfl, rfl, by decide +kernel, rfl, by decide +kernel, by decide +kernel⟩
abbrev s_law_depths : Stmt := topS 13
theorem sc_law_depths : FnScope ["assignment", "depth", "first", "second"] ["assignment", "depth"] (defScope s_law_depths) := ⟨rfl, rfl, rfl, by decide +kernel, rfl, by decide +kernel, by decide +kernel⟩
abbrev s_law_within : Stmt := topS 14
theorem sc_law_within : FnScope ["row", "depth", "limit", "sample"] ["row", "depth"] (defScope s_law_within) := ⟨rfl, rfl, rfl, by decide +kernel, rfl, by decide +kernel, by decide +kernel⟩
abbrev s_law : Stmt := topS 15
theorem sc_law : FnScope ["script", "cell", "assignment", "depth", "left", "right", "given", "rows", "depths", "handed", "back", "count", "k"] ["script"] (defScope s_law) := ⟨rfl, rfl, rfl, by decide +kernel, rfl, by decide +kernel, by decide +kernel⟩
theorem hu64 {A : Around} {k : Nat} (hr : Room k A) : A.units + 64 < cLine := hr.units
/-! ### short words for readings -/
theorem ret_eq {v w : V} {H H' : Hp} {Q : VK} (k : RetV v H Q) (ex : Ex H H') (e : w = v) : Q w H' := e ▸ k H' ex
/-- isinstance(x, T), T a built-in class -/
theorem ev_isi {K : PySem.W.Frag} {σ : L2.St} {H : Hp} {ta : TE} {x : V} {t : String} {T : String} {b : Bool} (ha : Ev ta σ H x) (ht : ∀ H1, Ex H H1 → TyX K H1 x (.type t)) (hk : kitB t T = some b) :
    Ev (tCB (rIsi K) (tCons ta (tCons (tC (.ty T)) tNil))) σ H (.bl b) :=
  ev_cb (ea_cons ha (ea_cons ev_c ea_nil)) fun H1 e Q q => ⟨x, .ty T, _, _, b, rfl, .ty T, ht H1 e, kit_ty hk, q H1 (Ex.refl H1)⟩
theorem isi_int {K : PySem.W.Frag} {H : Hp} {i : Int} : ∀ H1, Ex H H1 → TyX K H1 (V.int i) (.type "int") := fun _ _ => .base (.int _)
theorem isi_bl {K : PySem.W.Frag} {H : Hp} {b : Bool} : ∀ H1, Ex H H1 → TyX K H1 (V.bl b) (.type "bool") := fun _ _ => .base (.bl _)
theorem isi_non {K : PySem.W.Frag} {H : Hp} : ∀ H1, Ex H H1 → TyX K H1 V.non (.type "NoneType") := fun _ _ => .base .non
theorem isi_lst {K : PySem.W.Frag} {H : Hp} {a : Addr} {xs : List V} (h : H a = some (.lst xs)) : ∀ H1, Ex H H1 → TyX K H1 (V.ref a) (.type "list") := fun _ e => .base (.lst (e _ _ h))
theorem isi_tup {K : PySem.W.Frag} {H : Hp} {a : Addr} {xs : List V} (h : H a = some (.tup xs)) : ∀ H1, Ex H H1 → TyX K H1 (V.ref a) (.type "tuple") := fun _ e => .base (.tup (e _ _ h))
theorem kit_ii : kitB "int" "int" = some true := by decide +kernel
theorem kit_ib : kitB "int" "bool" = some false := by decide +kernel
theorem kit_bb : kitB "bool" "bool" = some true := by decide +kernel
theorem kit_bi : kitB "bool" "int" = some true := by decide +kernel
theorem kit_ll : kitB "list" "list" = some true := by decide +kernel
theorem kit_tt : kitB "tuple" "tuple" = some true := by decide +kernel
theorem ev_isiI {K : PySem.W.Frag} {σ : L2.St} {H : Hp} {ta : TE} {i : Int} (ha : Ev ta σ H (.int i)) : Ev (tCB (rIsi K) (tCons ta (tCons (tC (.ty "int")) tNil))) σ H (.bl true) := ev_isi ha isi_int kit_ii
theorem ev_isiB {K : PySem.W.Frag} {σ : L2.St} {H : Hp} {ta : TE} {i : Int} (ha : Ev ta σ H (.int i)) : Ev (tCB (rIsi K) (tCons ta (tCons (tC (.ty "bool")) tNil))) σ H (.bl false) := ev_isi ha isi_int kit_ib
theorem ev_isiL {K : PySem.W.Frag} {σ : L2.St} {H : Hp} {ta : TE} {a : Addr} {xs : List V} (ha : Ev ta σ H (.ref a)) (h : H a = some (.lst xs)) : Ev (tCB (rIsi K) (tCons ta (tCons (tC (.ty "list")) tNil))) σ H (.bl true) := ev_isi ha (isi_lst h) kit_ll
theorem ev_isiBB {K : PySem.W.Frag} {σ : L2.St} {H : Hp} {ta : TE} {b : Bool} (ha : Ev ta σ H (.bl b)) : Ev (tCB (rIsi K) (tCons ta (tCons (tC (.ty "bool")) tNil))) σ H (.bl true) := ev_isi ha isi_bl kit_bb
theorem ev_chain {σ : L2.St} {H : Hp} {ta tb tc : TE} {g g' : Int → Int → Bool} {a b c : Int} (ha : Ev ta σ H (.int a)) (hb : Ev tb σ H (.int b)) (hc : Ev tc σ H (.int c)) :
    Ev (tChain (rI0 fun i j => .bl (g i j)) (rI0 fun i j => .bl (g' i j)) ta tb tc) σ H (.bl (g a b && g' b c)) := fun H1 e Q q =>
  ha H1 e _ fun H2 e2 => hb H2 (e.trans e2) _ fun H3 e3 => ⟨a, b, rfl, rfl, g a b, rfl, by
    cases hg : g a b with
    | true =>
      rw [if_pos rfl]
      rw [hg, Bool.true_and] at q
      exact hc H3 ((e.trans e2).trans e3) _ fun H4 e4 => ⟨b, c, rfl, rfl, q H4 ((e2.trans e3).trans e4)⟩
    | false =>
      rw [if_neg (by decide)]
      rw [hg, Bool.false_and] at q
      exact q H3 (e2.trans e3)⟩
theorem ev_isN {σ : L2.St} {H : Hp} {ta : TE} {x : V} (ha : Ev ta σ H x) : Ev (tOp rIsN ta (tC .non)) σ H (.bl (decide (x = .non))) := fun H1 e Q q => ha H1 e _ fun H2 e2 => ⟨rfl, q H2 e2⟩
theorem ev_notN {σ : L2.St} {H : Hp} {ta : TE} {x : V} (ha : Ev ta σ H x) : Ev (tOp rNotN ta (tC .non)) σ H (.bl (!decide (x = .non))) := fun H1 e Q q => ha H1 e _ fun H2 e2 => ⟨rfl, q H2 e2⟩
theorem ev_min2 {σ : L2.St} {H : Hp} {ta tb : TE} {i j : Int} (ha : Ev ta σ H (.int i)) (hb : Ev tb σ H (.int j)) :
    Ev (tCB (fun xs H Q => ∃ i j, xs = [.int i, .int j] ∧ Q (.int (if j < i then j else i)) H) (tCons ta (tCons tb tNil))) σ H (.int (if j < i then j else i)) :=
  ev_cb (ea_cons ha (ea_cons hb ea_nil)) fun H1 _ _ q => ⟨i, j, rfl, q H1 (Ex.refl H1)⟩
theorem ev_negI {σ : L2.St} {H : Hp} {ta : TE} {i : Int} (ha : Ev ta σ H (.int i)) : Ev (tUn (rU fun i => .int (-i)) ta) σ H (.int (-i)) := ev_un ha ru_neg
theorem ev_I0 {σ : L2.St} {H : Hp} {ta tb : TE} {g : Int → Int → V} {i j : Int} (ha : Ev ta σ H (.int i)) (hb : Ev tb σ H (.int j)) : Ev (tOp (rI0 g) ta tb) σ H (g i j) := ev_op ha hb rv_I0
theorem ev_I {σ : L2.St} {H : Hp} {ta tb : TE} {C : Int → Int → Prop} {g : Int → Int → V} {i j : Int} (ha : Ev ta σ H (.int i)) (hb : Ev tb σ H (.int j)) (hc : C i j) : Ev (tOp (rI C g) ta tb) σ H (g i j) := ev_op ha hb (rv_I hc)
theorem ev_eq {σ : L2.St} {H : Hp} {ta tb : TE} {x y : V} (ha : Ev ta σ H x) (hb : Ev tb σ H y) (hs : scal x y = true) : Ev (tOp rEq ta tb) σ H (.bl (decide (x = y))) := ev_op ha hb (rv_eq hs)
theorem ev_ne {σ : L2.St} {H : Hp} {ta tb : TE} {x y : V} (ha : Ev ta σ H x) (hb : Ev tb σ H y) (hs : scal x y = true) : Ev (tOp rNe ta tb) σ H (.bl (!decide (x = y))) := ev_op ha hb (rv_ne hs)
theorem et_B' {σ : L2.St} {H : Hp} {te : TE} {x : V} {b : Bool} (h : Ev te σ H x) (e : x = .bl b) : EvT (tB te) σ H b := et_B (e ▸ h)
theorem dec_lt {a b : Nat} : decide ((a : Int) < (b : Int)) = decide (a < b) := by
  by_cases h : a < b
  · rw [decide_eq_true h, decide_eq_true (by omega)]
  · rw [decide_eq_false h, decide_eq_false (by omega)]
theorem int_at {ns : List Int} {i : Nat} {x : V} (hx : (ns.map V.int)[i]? = some x) : ∃ n, ns[i]? = some n ∧ i < ns.length ∧ x = V.int n := by
  rw [List.getElem?_map] at hx
  cases en : ns[i]? with
  | none => rw [en] at hx; cases hx
  | some n => rw [en] at hx; exact ⟨n, rfl, (List.getElem?_eq_some_iff.mp en).1, (Option.some.inj hx).symm⟩
theorem at_int {ns : List Int} {i : Nat} {n : Int} (h : ns[i]? = some n) : (ns.map V.int)[i]? = some (V.int n) := by rw [List.getElem?_map, h]; rfl
local macro_rules | `(tactic| walk_at "side") => `(tactic| first
  | omega | (show CMul _ _; unfold CMul; omega) | (show CDiv _ _; unfold CDiv; omega) | (show CPow _ _; unfold CPow; omega) | (show (_ : Int) < _; omega) | (show (_ : Int) ≤ _; omega) | decide)
local macro_rules | `(tactic| walk_at "ev") => `(tactic| first
  | exact ev_var rfl
  | exact ev_c
  | (refine' ev_I0 ?h1 ?h2; (case h1 => walk_at "ev"); (case h2 => walk_at "ev"))
  | (refine' ev_negI ?h1; (case h1 => walk_at "ev"))
  | (refine' ev_I ?h1 ?h2 ?hc; (case h1 => walk_at "ev"); (case h2 => walk_at "ev"); (case hc => walk_at "side"))
  | (refine' ev_eq ?h1 ?h2 ?hc; (case h1 => walk_at "ev"); (case h2 => walk_at "ev"); (case hc => rfl))
  | (refine' ev_ne ?h1 ?h2 ?hc; (case h1 => walk_at "ev"); (case h2 => walk_at "ev"); (case hc => rfl))
  | (refine' ev_max2 ?h1 ?h2; (case h1 => walk_at "ev"); (case h2 => walk_at "ev"))
  | (refine' ev_min2 ?h1 ?h2; (case h1 => walk_at "ev"); (case h2 => walk_at "ev"))
  | (refine' ev_chain ?h1 ?h2 ?h3; (case h1 => walk_at "ev"); (case h2 => walk_at "ev"); (case h3 => walk_at "ev"))
  | (refine' ev_isN ?h1; (case h1 => walk_at "ev"))
  | (refine' ev_notN ?h1; (case h1 => walk_at "ev"))
  | (refine' ev_isiI ?h1; (case h1 => walk_at "ev"))
  | (refine' ev_isiB ?h1; (case h1 => walk_at "ev"))
  | (refine' ev_isiBB ?h1; (case h1 => walk_at "ev"))
  | (refine' ev_andV ?h1 (fun _ => ?h2); (case h1 => walk_at "ev"); (case h2 => walk_at "ev"))
  | (refine' ev_orV ?h1 (fun _ => ?h2); (case h1 => walk_at "ev"); (case h2 => walk_at "ev"))
  | (refine' ev_notV ?h1; (case h1 => walk_at "ev"))
  | walk_at "evmore")
local macro_rules | `(tactic| walk_at "et") => `(tactic| first
  | (refine' et_test ?h1; (case h1 => walk_at "ev"))
  | (refine' et_B ?h1; (case h1 => walk_at "ev"))
  | (refine' et_not ?h1; (case h1 => walk_at "et"))
  | (refine' et_and ?h1 (fun _ => ?h2); (case h1 => walk_at "et"); (case h2 => walk_at "et"))
  | (refine' et_or ?h1 (fun _ => ?h2); (case h1 => walk_at "et"); (case h2 => walk_at "et")))
local macro_rules | `(tactic| walk_at "ea") => `(tactic| first
  | exact ea_nil
  | (refine' ea_cons ?h1 ?h2; (case h1 => walk_at "ev"); (case h2 => walk_at "ea")))
local macro_rules | `(tactic| walk_at "when") => `(tactic| (refine' q_when ?h ?h1 ?h2; (case h => walk_at "et")))
local macro_rules | `(tactic| walk_at "whenS") => `(tactic| (refine' s_when ?h ?h1 ?h2; (case h => walk_at "et")))
local macro_rules | `(tactic| walk_at "if") => `(tactic| (refine' q_if ?h ?h1 ?h2; (case h => walk_at "et")))
local macro_rules | `(tactic| walk_at "ifS") => `(tactic| (refine' s_if ?h ?h1 ?h2; (case h => walk_at "et")))
local macro_rules | `(tactic| walk_at "ret") => `(tactic| (refine' s_ret ?h ?h1; (case h => walk_at "ev")))
local macro_rules | `(tactic| walk_at "asg") => `(tactic| (refine' q_asg ?h ?h1; (case h => walk_at "ev")))
local macro_rules | `(tactic| walk_at "asgS") => `(tactic| (refine' s_asg ?h ?h1; (case h => walk_at "ev")))

/-! ### lists, existing or new -/
def EvR (te : TE) (σ : L2.St) (H : Hp) (xs : List V) : Prop := ∀ H1, Ex H H1 → ∀ Q : VK, (∀ p H2, Ex H1 H2 → H2 p = some (.lst xs) → Q (.ref p) H2) → te σ H1 Q
def EvS (K : PySem.W.Frag) (te : TE) (σ : L2.St) (H : Hp) (xs : List V) : Prop := ∀ H1, Ex H H1 → ∀ Q : VK, (∀ p H2, Ex H1 H2 → SqL K H2 p xs → Q (.ref p) H2) → te σ H1 Q
section
variable {K : PySem.W.Frag} {σ : L2.St} {H H' : Hp} {ta tb te : TE} {xs ys : List V} {a : Addr}
theorem EvL.r (h : EvL te σ H xs) : EvR te σ H xs := fun H1 e Q q => h H1 e Q fun p H2 _ e2 h2 => q p H2 e2 h2
theorem Ev.r (h : Ev te σ H (.ref a)) (hx : H a = some (.lst xs)) : EvR te σ H xs := fun H1 e Q q => h H1 e Q fun H2 e2 => q a H2 e2 (e2 _ _ (e _ _ hx))
theorem EvR.s (h : EvR te σ H xs) : EvS K te σ H xs := fun H1 e Q q => h H1 e Q fun p H2 e2 h2 => q p H2 e2 (sq_of h2)
theorem Ev.s (h : Ev te σ H (.ref a)) (hx : SqL K H a xs) : EvS K te σ H xs := fun H1 e Q q => h H1 e Q fun H2 e2 => q a H2 e2 (ex_l e2 (ex_l e hx))
theorem EvR.mono (e : Ex H H') (h : EvR te σ H xs) : EvR te σ H' xs := fun H1 a Q q => h H1 (e.trans a) Q q
theorem EvS.mono (e : Ex H H') (h : EvS K te σ H xs) : EvS K te σ H' xs := fun H1 a Q q => h H1 (e.trans a) Q q
theorem EvL.is (h : EvL te σ H xs) (e : xs = ys) : EvL te σ H ys := e ▸ h
theorem EvR.is (h : EvR te σ H xs) (e : xs = ys) : EvR te σ H ys := e ▸ h
theorem el_cat (ha : EvR ta σ H xs) (hb : EvR tb σ H ys) (hl : xs.length + ys.length ≤ 100000) : EvL (tOp rCat ta tb) σ H (xs ++ ys) := fun H1 e Q q =>
  ha H1 e _ fun p H2 e2 h2 => hb H2 (e.trans e2) _ fun r H3 e3 h3 => ⟨p, r, xs, ys, rfl, rfl, e3 _ _ h2, h3, sz_of hl, fun l hl => q l _ (fresh_back (e2.trans e3) hl) ((e2.trans e3).trans (Ex.new hl)) upd_same⟩
theorem el_rep {k : Int} (ha : EvR ta σ H xs) (hb : Ev tb σ H (.int k)) (hk : -(2 ^ 63) ≤ k ∧ k < 2 ^ 63) (hl : xs.length * k.toNat ≤ 100000) : EvL (tOp rRep ta tb) σ H (List.replicate k.toNat xs).flatten := fun H1 e Q q =>
  ha H1 e _ fun p H2 e2 h2 => hb H2 (e.trans e2) _ fun H3 e3 => ⟨p, k, xs, rfl, rfl, e3 _ _ h2, hk.1, hk.2, sz_of hl, fun l hl => q l _ (fresh_back (e2.trans e3) hl) ((e2.trans e3).trans (Ex.new hl)) upd_same⟩
theorem rep_one {x : V} (n : Nat) : (List.replicate n [x]).flatten = List.replicate n x := by
  induction n with
  | zero => rfl
  | succ n ih => rw [List.replicate_succ, List.replicate_succ, List.flatten_cons, ih]; rfl
theorem el_of {te : TE} (h : EvS K te σ H xs) : EvL (tCB (rListS K) (tCons te tNil)) σ H xs := fun H1 e Q q =>
  h H1 e _ fun p H2 e2 h2 => ⟨p, xs, rfl, .inl h2, fun l hl => q l _ (fresh_back e2 hl) (e2.trans (Ex.new hl)) upd_same⟩
theorem ev_lenS (h : EvS K te σ H xs) : Ev (tCB (rLenS K) (tCons te tNil)) σ H (.int (xs.length : Int)) := fun H1 e Q q =>
  h H1 e _ fun p H2 e2 h2 => ⟨p, xs, rfl, .inl h2, q H2 e2⟩
theorem ev_sum {ns : List Int} (h : EvS K te σ H (ns.map V.int)) : Ev (tCB (rSum K) (tCons te tNil)) σ H (.int ns.sum) := fun H1 e Q q =>
  h H1 e _ fun p H2 e2 h2 => ⟨p, ns, rfl, h2, q H2 e2⟩
theorem dp_ints {K : PySem.W.Frag} {H : Hp} : ∀ ns : List Int, DpAll K H (ns.map V.int) (ns.map PyData.int)
  | [] => .nil
  | n :: r => .cons (.int n) (dp_ints r)
theorem eqv_ints : ∀ ns ms : List Int, PyData.eqvAll (ns.map PyData.int) (ms.map PyData.int) = decide (ns = ms)
  | [], [] => by simp [PyData.eqvAll]
  | [], _ :: _ => by simp [PyData.eqvAll]
  | _ :: _, [] => by simp [PyData.eqvAll]
  | n :: r, m :: t => by
    show (PyData.eqv (.int n) (.int m) && PyData.eqvAll (r.map PyData.int) (t.map PyData.int)) = _
    rw [eqv_ints r t]
    show ((n == m) && decide (r = t)) = _
    by_cases h1 : n = m <;> by_cases h2 : r = t <;> simp [h1, h2]
theorem canLay_ints : ∀ ns : List Int, PyData.canLayAll0 (ns.map PyData.int) = true
  | [] => by simp [PyData.canLayAll0]
  | n :: r => by
    show PyData.canLayAll0 (PyData.int n :: r.map PyData.int) = true
    rw [PyData.canLayAll0, canLay_ints r]
    simp [PyData.canLay0]
theorem depth_ints : ∀ ns : List Int, PyData.depthAll (ns.map PyData.int) ≤ 1
  | [] => by simp [PyData.depthAll]
  | n :: r => by
    show PyData.depthAll (PyData.int n :: r.map PyData.int) ≤ 1
    have := depth_ints r
    simp only [PyData.depthAll, PyData.depth]
    omega
theorem shaped_ints (ns : List Int) : SeqAt.shaped (.list (ns.map PyData.int)) = true := by
  unfold SeqAt.shaped
  have h1 := canLay_ints ns
  have h2 := depth_ints ns
  have h3 : PyData.depth (.list (ns.map PyData.int)) ≤ 64 := by
    rw [PyData.depth]
    omega
  rw [decide_eq_true h3, Bool.and_true]
  simpa only [PyData.canLay0] using h1
theorem ev_eqI {ns ms : List Int} (ha : EvS K ta σ H (ns.map V.int)) (hb : EvS K tb σ H (ms.map V.int)) : Ev (tOp (rEqD K) ta tb) σ H (.bl (decide (ns = ms))) := fun H1 e Q q =>
  ha H1 e _ fun p H2 e2 h2 => hb H2 (e.trans e2) _ fun r H3 e3 h3 => ⟨.list (ns.map PyData.int), .list (ms.map PyData.int), .lst (ex_l e3 h2) (dp_ints ns), .lst h3 (dp_ints ms), shaped_ints ns, shaped_ints ms, by
    show Q (.bl (PyData.eqvAll (ns.map PyData.int) (ms.map PyData.int))) H3
    rw [eqv_ints]
    exact q H3 (e2.trans e3)⟩
theorem ev_neI {ns ms : List Int} (ha : EvS K ta σ H (ns.map V.int)) (hb : EvS K tb σ H (ms.map V.int)) : Ev (tOp (rNeD K) ta tb) σ H (.bl (!decide (ns = ms))) := fun H1 e Q q =>
  ha H1 e _ fun p H2 e2 h2 => hb H2 (e.trans e2) _ fun r H3 e3 h3 => ⟨.list (ns.map PyData.int), .list (ms.map PyData.int), .lst (ex_l e3 h2) (dp_ints ns), .lst h3 (dp_ints ms), shaped_ints ns, shaped_ints ms, by
    show Q (.bl (!PyData.eqvAll (ns.map PyData.int) (ms.map PyData.int))) H3
    rw [eqv_ints]
    exact q H3 (e2.trans e3)⟩
theorem ev_ixS {i : Nat} {n : Int} {tl ti : TE} {v : V} (h : EvS K tl σ H xs) (hi : Ev ti σ H (.int n)) (ha : atI xs n = some v) : Ev (tOp (rIxL K) tl ti) σ H v := fun H1 e Q q =>
  h H1 e _ fun p H2 e2 h2 => hi H2 (e.trans e2) _ fun H3 e3 => ⟨p, xs, n, v, rfl, rfl, ex_l e3 h2, ha, q H3 (e2.trans e3)⟩
theorem el_slS {tl th : TO} {lo hi : Option Int} (h : EvS K te σ H xs) (h1 : EvO tl σ H lo) (h2 : EvO th σ H hi) : EvL (tSl (rSlL K) te tl th) σ H (cutV xs lo hi) := fun H1 e _ q =>
  h H1 e _ fun a H2 e2 hs => h1 H2 (e.trans e2) _ fun H3 e3 => h2 H3 ((e.trans e2).trans e3) _ fun H4 e4 =>
    ⟨a, xs, rfl, ex_l (e3.trans e4) hs, fun p hp => q p _ (fresh_back ((e2.trans e3).trans e4) hp) (((e2.trans e3).trans e4).trans (Ex.new hp)) upd_same⟩
theorem ev_at {n : Int} {tl ti : TE} {v : V} (h : EvS K tl σ H xs) (hi : Ev ti σ H (.int n)) (ha : atI xs n = some v) : Ev (tOp (rIxL K) tl ti) σ H v := ev_ixS (i := 0) h hi ha
theorem cut_to (xs : List V) (i : Nat) : cutV xs none (some (i : Int)) = xs.take i := by
  unfold cutV
  rw [HT.sIx_none, HT.sIx_nat, List.drop_zero, Nat.sub_zero]
  by_cases h : i ≤ xs.length
  · rw [Nat.min_eq_left h]
  · rw [Nat.min_eq_right (by omega), List.take_of_length_le (Nat.le_refl _), List.take_of_length_le (by omega)]
theorem cut_from (xs : List V) (i : Nat) : cutV xs (some (i : Int)) none = xs.drop i := by
  unfold cutV
  rw [HT.sIx_none, HT.sIx_nat]
  by_cases h : i ≤ xs.length
  · rw [Nat.min_eq_left h, List.take_of_length_le (by rw [List.length_drop]; omega)]
  · rw [Nat.min_eq_right (by omega), List.drop_of_length_le (Nat.le_refl _), List.drop_of_length_le (show xs.length ≤ i by omega), List.take_nil]
theorem cut_mid (xs : List V) (i j : Nat) : cutV xs (some (i : Int)) (some (j : Int)) = (xs.drop i).take (j - i) := by
  unfold cutV
  rw [HT.sIx_nat, HT.sIx_nat]
  by_cases h : i ≤ xs.length
  · rw [Nat.min_eq_left h]
    by_cases h2 : j ≤ xs.length
    · rw [Nat.min_eq_left h2]
    · rw [Nat.min_eq_right (by omega), List.take_of_length_le (by rw [List.length_drop]; omega), List.take_of_length_le (by rw [List.length_drop]; omega)]
  · rw [Nat.min_eq_right (by omega : xs.length ≤ i), List.drop_of_length_le (Nat.le_refl _), List.drop_of_length_le (show xs.length ≤ i by omega)]
    simp
theorem el_to {th : TE} {ns : List Int} {i : Nat} (h : EvS K te σ H (ns.map V.int)) (h2 : Ev th σ H (.int i)) : EvL (tSl (rSlL K) te tNoPart (tPart th)) σ H ((ns.take i).map V.int) :=
  EvL.is (el_slS h eo_none (eo_some h2)) (by rw [List.map_take]; exact cut_to _ i)
theorem el_from {th : TE} {ns : List Int} {i : Nat} (h : EvS K te σ H (ns.map V.int)) (h2 : Ev th σ H (.int i)) : EvL (tSl (rSlL K) te (tPart th) tNoPart) σ H ((ns.drop i).map V.int) :=
  EvL.is (el_slS h (eo_some h2) eo_none) (by rw [List.map_drop]; exact cut_from _ i)
theorem el_mid {t1 t2 : TE} {ns : List Int} {i j : Nat} (h : EvS K te σ H (ns.map V.int)) (h1 : Ev t1 σ H (.int i)) (h2 : Ev t2 σ H (.int j)) : EvL (tSl (rSlL K) te (tPart t1) (tPart t2)) σ H (((ns.drop i).take (j - i)).map V.int) :=
  EvL.is (el_slS h (eo_some h1) (eo_some h2)) (by rw [List.map_take, List.map_drop]; exact cut_mid _ i j)
section
variable {D : Ends} {tz : TS} {sp : Sp} {dvs vs : List V} {E : XK} {tA : TA}
/-- x = f(..), whatever f promises -/
theorem q_asgC {i : Nat} (h : EvA tA σ H vs) (k : ∀ H1, Ex H H1 → sp (vs ++ dvs) H1 (fun x H2 => tz D (σ.set i (some x)) H2) E) : tSeq (tAsg (tCall sp dvs E tA) (gName i)) tz D σ H := h H (Ex.refl H) _ fun H1 e => k H1 e
theorem s_asgC {i : Nat} (h : EvA tA σ H vs) (k : ∀ H1, Ex H H1 → sp (vs ++ dvs) H1 (fun x H2 => D.nx (σ.set i (some x)) H2) E) : tAsg (tCall sp dvs E tA) (gName i) D σ H := h H (Ex.refl H) _ fun H1 e => k H1 e
theorem q_dropC (h : EvA tA σ H vs) (k : ∀ H1, Ex H H1 → sp (vs ++ dvs) H1 (fun _ H2 => tz D σ H2) E) : tSeq (tDrop (tCall sp dvs E tA)) tz D σ H := h H (Ex.refl H) _ fun H1 e => k H1 e
theorem s_retC (h : EvA tA σ H vs) (k : ∀ H1, Ex H H1 → sp (vs ++ dvs) H1 D.rt E) : tRet (tCall sp dvs E tA) D σ H := h H (Ex.refl H) _ fun H1 e => k H1 e
end
theorem gl_get {ns : List Int} {i : Nat} (h : i < ns.length) : ns[i]? = some (ns.getD i 0) := by
  rw [List.getD_eq_getElem?_getD, List.getElem?_eq_getElem h]
  rfl
theorem q_asgRaw {te : TE} {i : Nat} {D : Ends} {tz : TS} (P : V → Hp → Prop) (h : ∀ Q : VK, (∀ x H2, P x H2 → Q x H2) → te σ H Q) (k : ∀ x H2, P x H2 → tz D (σ.set i (some x)) H2) : tSeq (tAsg te (gName i)) tz D σ H := h _ k
/-- a, b = a pair -/
theorem q_asgT {te : TE} {i j : Nat} {D : Ends} {tz : TS} (P : V → V → Hp → Prop) (h : ∀ Q : VK, (∀ t x y H2, P x y H2 → SqT K H2 t [x, y] → Q (.ref t) H2) → te σ H Q) (k : ∀ x y H2, P x y H2 → tz D ((σ.set i (some x)).set j (some y)) H2) :
    tSeq (tAsg te (gTup K 2 (gCons (gName i) (gCons (gName j) gNil)))) tz D σ H := h _ fun t x y H2 hP hT => ⟨t, [x, y], rfl, hT, rfl, x, [y], rfl, y, [], rfl, rfl, k x y H2 hP⟩
/-- the law's cell -/
def cellI (ns : List Int) (k : Int) : Int := ns.getD k.toNat 0
theorem cellI_in {ns : List Int} {k : Int} (h0 : 0 ≤ k) (h : k < ns.length) : ns[k.toNat]? = some (cellI ns k) := by
  unfold cellI
  rw [List.getD_eq_getElem?_getD, List.getElem?_eq_getElem (by omega)]
  rfl
theorem cellI_out {ns : List Int} {k : Int} (h : ¬ k < ns.length) : cellI ns k = 0 := by
  unfold cellI
  rw [List.getD_eq_getElem?_getD, List.getElem?_eq_none (by omega)]
  rfl
end
theorem Ex.get {H H' : Hp} {a : Addr} {o : HO} (e : Ex H H') (h : H a = some o) : H' a = some o := e a o h
local macro_rules | `(tactic| walk_at "hp") => `(tactic| first
  | assumption
  | exact upd_same
  | (refine' Ex.get (by assumption) ?h1; (case h1 => walk_at "hp")))
local macro_rules | `(tactic| walk_at "ex") => `(tactic| first
  | assumption
  | exact Ex.refl _
  | (refine' Ex.trans ?h1 (by assumption); (case h1 => walk_at "ex")))
local macro_rules | `(tactic| walk_at "sq") => `(tactic| first
  | assumption
  | (refine' sq_of ?h1; (case h1 => walk_at "hp"))
  | (refine' ex_l (by assumption) ?h1; (case h1 => walk_at "sq")))
local macro_rules | `(tactic| walk_at "evs") => `(tactic| first
  | (refine' Ev.s ?h1 ?h2; (case h1 => exact ev_var rfl); (case h2 => walk_at "sq"))
  | (refine' EvR.s ?h1; (case h1 => walk_at "evr")))
local macro_rules | `(tactic| walk_at "evr") => `(tactic| first
  | (refine' Ev.r ?h1 ?h2; (case h1 => exact ev_var rfl); (case h2 => walk_at "hp"))
  | (refine' EvL.r ?h1; (case h1 => walk_at "el")))
local macro_rules | `(tactic| walk_at "eo") => `(tactic| first
  | exact eo_none
  | (refine' eo_some ?h1; (case h1 => walk_at "ev")))
local macro_rules | `(tactic| walk_at "el") => `(tactic| first
  | (refine' el_lst ?h1 ?h2; (case h1 => walk_at "ea"); (case h2 => exact Nat.le_of_ble_eq_true rfl))
  | (refine' el_cat ?h1 ?h2 ?h3; (case h1 => walk_at "evr"); (case h2 => walk_at "evr"); (case h3 => walk_at "len"))
  | (refine' el_rep ?h1 ?h2 ?h3 ?h4; (case h1 => walk_at "evr"); (case h2 => walk_at "ev"); (case h3 => walk_at "side2"); (case h4 => walk_at "len"))
  | (refine' el_of ?h1; (case h1 => walk_at "evs"))
  | (refine' el_to ?h1 ?h2; (case h1 => walk_at "evs"); (case h2 => walk_at "ev"))
  | (refine' el_from ?h1 ?h2; (case h1 => walk_at "evs"); (case h2 => walk_at "ev"))
  | (refine' el_mid ?h1 ?h2 ?h3; (case h1 => walk_at "evs"); (case h2 => walk_at "ev"); (case h3 => walk_at "ev"))
  | (refine' el_slS ?h1 ?h2 ?h3; (case h1 => walk_at "evs"); (case h2 => walk_at "eo"); (case h3 => walk_at "eo"))
  | walk_at "elmore")
local macro_rules | `(tactic| walk_at "evmore") => `(tactic| first
  | (refine' ev_lenS ?h1; (case h1 => walk_at "evs"))
  | (refine' ev_sum ?h1; (case h1 => walk_at "evs"))
  | (refine' ev_eqI ?h1 ?h2; (case h1 => walk_at "evs"); (case h2 => walk_at "evs"))
  | (refine' ev_neI ?h1 ?h2; (case h1 => walk_at "evs"); (case h2 => walk_at "evs"))
  | (refine' ev_at ?h1 ?h2 ?h3; (case h1 => walk_at "evs"); (case h2 => walk_at "ev"); (case h3 => walk_at "at"))
  | (refine' ev_isiL ?h1 ?h2; (case h1 => walk_at "ev"); (case h2 => walk_at "hp"))
  | walk_at "evown")
local macro_rules | `(tactic| walk_at "at") => `(tactic| first
  | exact at_of rfl (at_int (by assumption))
  | exact at_of rfl (by assumption))
local macro_rules | `(tactic| walk_at "asgL") => `(tactic| (refine' q_asgL ?h ?h1; (case h => walk_at "el")))
local macro_rules | `(tactic| walk_at "retL") => `(tactic| (refine' s_retL ?h ?h1; (case h => walk_at "el")))

/-- a walk's reading said in other words -/
theorem PI.k {X : Cx} {tg e : Expr} {wi wi' : TI} (h : PI X tg e wi) (q : wi = wi') : PI X tg e wi' := q ▸ h
/-! ### comprehensions whose items are said in a list -/
theorem et_yes {σ : L2.St} {H : Hp} : EvT tYes σ H true := fun H1 _ _ q => q H1 (Ex.refl H1)
section
variable {K : PySem.W.Frag} {σ : L2.St} {H : Hp} {t1 t2 te : TE} {xs ys zs : List V} {vs : List Nat}
theorem take_snoc {zs : List V} {i : Nat} {z : V} (h : zs[i]? = some z) : zs.take (i + 1) = zs.take i ++ [z] := by
  rw [List.take_add_one, h]
  rfl
theorem el_lcZ {j1 j2 : Nat} (zs : List V) (h1 : EvS K t1 σ H xs) (h2 : EvS K t2 σ H ys) (hz : zs.length = min xs.length ys.length) (hb : zs.length ≤ 50000)
    (hw : ∀ x y, wipe (((wipe σ vs).set j1 (some x)).set j2 (some y)) vs = wipe σ vs)
    (he : ∀ (i : Nat) (x y : V) H1, Ex H H1 → xs[i]? = some x → ys[i]? = some y → ∃ z, zs[i]? = some z ∧ Ev te (((wipe σ vs).set j1 (some x)).set j2 (some y)) H1 z) :
    EvL (tLc (iZip K (tCons t1 (tCons t2 tNil))) (gTup K 2 (gCons (gName j1) (gCons (gName j2) gNil))) tYes te vs) σ H zs := fun H0 e Q q =>
  h1 H0 e _ fun p H1 e1 hp => h2 H1 (e.trans e1) _ fun r H2 e2 hr => ⟨p, r, xs, ys, rfl, ex_l e2 hp, hr, fun D hD =>
    ⟨fun i m H' => m = zs.length - i ∧ i ≤ zs.length ∧ Ex H2 H' ∧ H' D = some (.lst (zs.take i)), ⟨zs.length, rfl, Nat.zero_le _, Ex.new hD, upd_same⟩, by
      rintro i m H' ⟨rfl, hi, ex, hd⟩
      have qx : SqL K H' p xs := ex_l (e2.trans ex) hp
      have qy : SqL K H' r ys := ex_l ex hr
      by_cases hlt : i < zs.length
      · have hx : xs[i]? = some xs[i] := List.getElem?_eq_getElem (by omega)
        have hy : ys[i]? = some ys[i] := List.getElem?_eq_getElem (by omega)
        refine .inr ⟨⟨xs, ys, _, _, qx, qy, hx, hy⟩, fun H3 => i + 1 ≤ zs.length ∧ Ex H2 H3 ∧ H3 D = some (.lst (zs.take (i + 1))), fun H3 h3 => ⟨zs.length - (i + 1), by omega, rfl, h3⟩, fun v H3 hv => ?_⟩
        obtain ⟨T, x, y, rfl, hT, rfl, f1, f2⟩ := hv
        have ex3 : Ex H' (upd H' T (.tup [x, y])) := Ex.new hT
        obtain ⟨z, hz1, hz2⟩ := he i x y (upd H' T (.tup [x, y])) ((((e.trans e1).trans e2).trans ex).trans ex3) (f1 _ qx) (f2 _ qy)
        refine ⟨T, [x, y], rfl, st_of upd_same, rfl, x, [y], rfl, y, [], rfl, rfl, hw x y, ?_⟩
        refine hz2 _ (Ex.refl _) _ fun H4 e4 => ⟨zs.take i, e4 _ _ (ex3 _ _ hd), sz_lt (by rw [List.length_take]; omega), hlt, ?_, ?_⟩
        · exact Ex.mut ((ex.trans ex3).trans e4) hD
        · rw [upd_same, take_snoc hz1]
      · have ei : i = zs.length := by omega
        refine .inl ⟨⟨xs, ys, qx, qy, by omega⟩, ?_⟩
        rw [ei, List.take_length] at hd
        exact q D H' (fresh_back (e1.trans e2) hD) ((e1.trans e2).trans ex) hd⟩⟩
/-- over a list, each item kept -/
theorem el_lcS {j : Nat} (zs : List V) (h1 : EvS K t1 σ H xs) (hz : zs.length = xs.length) (hb : zs.length ≤ 50000) (hw : ∀ x, wipe ((wipe σ vs).set j (some x)) vs = wipe σ vs)
    (he : ∀ (i : Nat) (x : V) H1, Ex H H1 → xs[i]? = some x → ∃ z, zs[i]? = some z ∧ Ev te ((wipe σ vs).set j (some x)) H1 z) :
    EvL (tLc (iList K t1) (gName j) tYes te vs) σ H zs := fun H0 e Q q =>
  h1 H0 e _ fun p H1 e1 hp => ⟨p, rfl, ⟨xs, hp⟩, fun D hD => lc_list (xs := xs) (fun i H' => Ex H1 H' ∧ H' D = some (.lst (zs.take i))) ⟨Ex.new hD, upd_same⟩ (fun i H' _ h => ex_l h.1 hp)
    (fun i x H' hi h => ⟨hw x, by
      obtain ⟨z, hz1, hz2⟩ := he i x H' ((e.trans e1).trans h.1) hi
      have hl : i < xs.length := (List.getElem?_eq_some_iff.mp hi).1
      refine hz2 H' (Ex.refl _) _ fun H4 e4 => ⟨zs.take i, e4 _ _ h.2, sz_lt (by rw [List.length_take]; omega), Ex.mut (h.1.trans e4) hD, ?_⟩
      rw [upd_same, take_snoc hz1]⟩)
    (fun H' h => q D H' (fresh_back e1 hD) (e1.trans h.1) (by rw [h.2, ← hz, List.take_length]))⟩
/-- over range(n) -/
theorem el_lcR {ta : TA} {n : Int} {j : Nat} (zs : List V) (h1 : EvA ta σ H [.int n]) (hn : -100000 ≤ n) (hz : zs.length = n.toNat) (hb : zs.length ≤ 50000) (hw : ∀ x, wipe ((wipe σ vs).set j (some x)) vs = wipe σ vs)
    (he : ∀ (i : Nat) H1, Ex H H1 → i < zs.length → ∃ z, zs[i]? = some z ∧ Ev te ((wipe σ vs).set j (some (.int (i : Int)))) H1 z) :
    EvL (tLc (iRng1 ta) (gName j) tYes te vs) σ H zs := fun H0 e Q q =>
  h1 H0 e _ fun H1 e1 => ⟨n, rfl, by omega, by omega, fun D hD => lc_range (lo := 0) (n := n.toNat) (fun i H' => Ex H1 H' ∧ H' D = some (.lst (zs.take i))) ⟨Ex.new hD, upd_same⟩
    (fun i H' hi h => by
      have e0 : (0 : Int) + (i : Int) = (i : Int) := Int.zero_add _
      rw [e0]
      obtain ⟨z, hz1, hz2⟩ := he i H' ((e.trans e1).trans h.1) (by omega)
      refine ⟨hw _, hz2 H' (Ex.refl _) _ fun H4 e4 => ⟨zs.take i, e4 _ _ h.2, sz_lt (by rw [List.length_take]; omega), Ex.mut (h.1.trans e4) hD, ?_⟩⟩
      rw [upd_same, take_snoc hz1])
    (fun H' h => q D H' (fresh_back e1 hD) (e1.trans h.1) (by rw [h.2, show n.toNat = zs.length by omega, List.take_length]))⟩
/-- y = [.. for x in f(..)], whatever f promises -/
theorem s_asgLC {sp : Sp} {dvs args : List V} {E : XK} {ta : TA} {g : TG} {tt : TT} {D : Ends} {i : Nat} (h : EvA ta σ H args) (k : ∀ H1, Ex H H1 → sp (args ++ dvs) H1 (fun x H2 => tAsg (tLc (iList K (tC x)) g tt te vs) (gName i) D σ H2) E) :
    tAsg (tLc (iList K (tCall sp dvs E ta)) g tt te vs) (gName i) D σ H := h H (Ex.refl H) _ fun H1 e => k H1 e
theorem q_asgLC {sp : Sp} {dvs args : List V} {E : XK} {ta : TA} {g : TG} {tt : TT} {D : Ends} {i : Nat} {tz : TS} (h : EvA ta σ H args) (k : ∀ H1, Ex H H1 → sp (args ++ dvs) H1 (fun x H2 => tSeq (tAsg (tLc (iList K (tC x)) g tt te vs) (gName i)) tz D σ H2) E) :
    tSeq (tAsg (tLc (iList K (tCall sp dvs E ta)) g tt te vs) (gName i)) tz D σ H := h H (Ex.refl H) _ fun H1 e => k H1 e
end

/-- [.. for j in range(lo, n)] -/
theorem el_lcR2 {σ : L2.St} {H : Hp} {te : TE} {vs : List Nat} {ta : TA} {lo n : Int} {j : Nat} (zs : List V) (h1 : EvA ta σ H [.int lo, .int n]) (hn : -100000 ≤ lo ∧ lo ≤ 100000 ∧ -100000 ≤ n ∧ n ≤ 100000) (hz : zs.length = (n - lo).toNat) (hb : zs.length ≤ 50000) (hw : ∀ x, wipe ((wipe σ vs).set j (some x)) vs = wipe σ vs)
    (he : ∀ (i : Nat) H1, Ex H H1 → i < zs.length → ∃ z, zs[i]? = some z ∧ Ev te ((wipe σ vs).set j (some (.int (lo + (i : Int))))) H1 z) :
    EvL (tLc (iRng2 ta) (gName j) tYes te vs) σ H zs := fun H0 e Q q =>
  h1 H0 e _ fun H1 e1 => ⟨lo, n, rfl, ⟨by omega, by omega, by omega, by omega⟩, fun D hD => lc_range (lo := lo) (n := (n - lo).toNat) (fun i H' => Ex H1 H' ∧ H' D = some (.lst (zs.take i))) ⟨Ex.new hD, upd_same⟩
    (fun i H' hi h => by
      obtain ⟨z, hz1, hz2⟩ := he i H' ((e.trans e1).trans h.1) (by omega)
      refine ⟨hw _, hz2 H' (Ex.refl _) _ fun H4 e4 => ⟨zs.take i, e4 _ _ h.2, sz_lt (by rw [List.length_take]; omega), Ex.mut (h.1.trans e4) hD, ?_⟩⟩
      rw [upd_same, take_snoc hz1])
    (fun H' h => q D H' (fresh_back e1 hD) (e1.trans h.1) (by rw [h.2, ← hz, List.take_length]))⟩

/-! ### data at any depth -/
mutual
theorem dp_ex {K : PySem.W.Frag} {H H' : Hp} (e : Ex H H') : ∀ (d : PyData) (v : V), Dp K H v d → Dp K H' v d
  | .none, _, h => by cases h; exact .non
  | .bool b, _, h => by cases h; exact .bl b
  | .int i, _, h => by cases h; exact .int i
  | .str x, _, h => by cases h; exact .str x
  | .list ds, _, h => by cases h with | lst hs ha => exact .lst (ex_l e hs) (dpa_ex e ds _ ha)
  | .tuple ds, _, h => by cases h with | tup hs ha => exact .tup (ex_t e hs) (dpa_ex e ds _ ha)
  | .dict _, _, h => by cases h
theorem dpa_ex {K : PySem.W.Frag} {H H' : Hp} (e : Ex H H') : ∀ (ds : List PyData) (vs : List V), DpAll K H vs ds → DpAll K H' vs ds
  | [], _, h => by cases h; exact .nil
  | d :: ds, _, h => by cases h with | cons h1 h2 => exact .cons (dp_ex e d _ h1) (dpa_ex e ds _ h2)
end
def EvD (K : PySem.W.Frag) (te : TE) (σ : L2.St) (H : Hp) (d : PyData) : Prop := ∀ H1, Ex H H1 → ∀ Q : VK, (∀ v H2, Ex H1 H2 → Dp K H2 v d → Q v H2) → te σ H1 Q
section
variable {K : PySem.W.Frag} {σ : L2.St} {H : Hp} {te ta tb t1 t2 t3 : TE} {d d1 d2 d3 : PyData} {v : V}
theorem EvD.of (h : Ev te σ H v) (hd : Dp K H v d) : EvD K te σ H d := fun H1 e Q q => h H1 e _ fun H2 e2 => q v H2 e2 (dp_ex (e.trans e2) d v hd)
theorem EvS.toD {ns : List Int} (h : EvS K te σ H (ns.map V.int)) : EvD K te σ H (.list (ns.map .int)) := fun H1 e Q q => h H1 e _ fun p H2 e2 hp => q (.ref p) H2 e2 (.lst hp (dp_ints ns))
theorem ed_tup2 (h1 : EvD K t1 σ H d1) (h2 : EvD K t2 σ H d2) : EvD K (tTup (tCons t1 (tCons t2 tNil))) σ H (.tuple [d1, d2]) := fun H1 e Q q => h1 H1 e _ fun v H2 e2 hv => h2 H2 (e.trans e2) _ fun u H3 e3 hu =>
  ⟨sz_of (show 2 ≤ 100000 by decide), fun p hp => q (.ref p) _ ((e2.trans e3).trans (Ex.new hp)) (.tup (st_of upd_same) (.cons (dp_ex (e3.trans (Ex.new hp)) _ _ hv) (.cons (dp_ex (Ex.new hp) _ _ hu) .nil)))⟩
theorem ev_eqDD (h1 : EvD K ta σ H d) (h2 : EvD K tb σ H d) (hs : SeqAt.shaped d = true) : Ev (tOp (rEqD K) ta tb) σ H (.bl true) := fun H1 e Q q => h1 H1 e _ fun v H2 e2 hv => h2 H2 (e.trans e2) _ fun u H3 e3 hu =>
  ⟨d, d, dp_ex e3 d v hv, hu, hs, hs, by rw [SeqAt.eqv_refl d (SeqAt.canLay_of_shaped hs)]; exact q H3 (e2.trans e3)⟩
theorem ev_neDD (h1 : EvD K ta σ H d) (h2 : EvD K tb σ H d) (hs : SeqAt.shaped d = true) : Ev (tOp (rNeD K) ta tb) σ H (.bl false) := fun H1 e Q q => h1 H1 e _ fun v H2 e2 hv => h2 H2 (e.trans e2) _ fun u H3 e3 hu =>
  ⟨d, d, dp_ex e3 d v hv, hu, hs, hs, by rw [SeqAt.eqv_refl d (SeqAt.canLay_of_shaped hs)]; exact q H3 (e2.trans e3)⟩
end
theorem shaped_pair (ns ms : List Int) : SeqAt.shaped (.tuple [.list (ns.map .int), .list (ms.map .int)]) = true := by
  unfold SeqAt.shaped
  have h1 := canLay_ints ns
  have h2 := depth_ints ns
  have h3 := canLay_ints ms
  have h4 := depth_ints ms
  rw [Bool.and_eq_true, decide_eq_true_iff]
  refine ⟨by simp only [PyData.canLay0, PyData.canLayAll0, h1, h3, Bool.and_self], ?_⟩
  simp only [PyData.depth, PyData.depthAll]
  omega

/-- what the top has left -/
structure TX (K : PySem.W.Frag) (mg : Str → Option Value) where
  a_split : Addr
  d_split : FuncData
  F_split : Fun K "split" "split" s_split a_split d_split
  b_split : Binds K d_split ["assignment", "left", "right"] []
  g_split : mg "split" = some (.ref a_split)
  a_join : Addr
  d_join : FuncData
  F_join : Fun K "join" "join" s_join a_join d_join
  b_join : Binds K d_join ["assignment", "first", "second"] []
  g_join : mg "join" = some (.ref a_join)
  a_row_depths : Addr
  d_row_depths : FuncData
  F_row_depths : Fun K "row_depths" "row_depths" s_row_depths a_row_depths d_row_depths
  b_row_depths : Binds K d_row_depths ["assignment", "depth", "count"] []
  g_row_depths : mg "row_depths" = some (.ref a_row_depths)
  a_side : Addr
  d_side : FuncData
  F_side : Fun K "_side" "_side" s_side a_side d_side
  b_side : Binds K d_side ["left", "right"] []
  g_side : mg "_side" = some (.ref a_side)
  a_mid : Addr
  d_mid : FuncData
  F_mid : Fun K "_mid" "_mid" s_mid a_mid d_mid
  b_mid : Binds K d_mid ["left", "right"] []
  g_mid : mg "_mid" = some (.ref a_mid)
  a_law_cell : Addr
  d_law_cell : FuncData
  F_law_cell : Fun K "_law_cell" "_law_cell" s_law_cell a_law_cell d_law_cell
  b_law_cell : Binds K d_law_cell ["script", "k"] []
  g_law_cell : mg "_law_cell" = some (.ref a_law_cell)
  a_law_sample : Addr
  d_law_sample : FuncData
  F_law_sample : Fun K "_law_sample" "_law_sample" s_law_sample a_law_sample d_law_sample
  b_law_sample : Binds K d_law_sample ["cell", "depth"] []
  g_law_sample : mg "_law_sample" = some (.ref a_law_sample)
  a_law_is_integer : Addr
  d_law_is_integer : FuncData
  F_law_is_integer : Fun K "_law_is_integer" "_law_is_integer" s_law_is_integer a_law_is_integer d_law_is_integer
  b_law_is_integer : Binds K d_law_is_integer ["actual"] []
  g_law_is_integer : mg "_law_is_integer" = some (.ref a_law_is_integer)
  a_law_integers : Addr
  d_law_integers : FuncData
  F_law_integers : Fun K "_law_integers" "_law_integers" s_law_integers a_law_integers d_law_integers
  b_law_integers : Binds K d_law_integers ["actual"] []
  g_law_integers : mg "_law_integers" = some (.ref a_law_integers)
  a_law_pair : Addr
  d_law_pair : FuncData
  F_law_pair : Fun K "_law_pair" "_law_pair" s_law_pair a_law_pair d_law_pair
  b_law_pair : Binds K d_law_pair ["actual"] []
  g_law_pair : mg "_law_pair" = some (.ref a_law_pair)
  a_law_rows : Addr
  d_law_rows : FuncData
  F_law_rows : Fun K "_law_rows" "_law_rows" s_law_rows a_law_rows d_law_rows
  b_law_rows : Binds K d_law_rows ["assignment", "left", "right"] []
  g_law_rows : mg "_law_rows" = some (.ref a_law_rows)
  a_law_depths : Addr
  d_law_depths : FuncData
  F_law_depths : Fun K "_law_depths" "_law_depths" s_law_depths a_law_depths d_law_depths
  b_law_depths : Binds K d_law_depths ["assignment", "depth"] []
  g_law_depths : mg "_law_depths" = some (.ref a_law_depths)
  a_law_within : Addr
  d_law_within : FuncData
  F_law_within : Fun K "_law_within" "_law_within" s_law_within a_law_within d_law_within
  b_law_within : Binds K d_law_within ["row", "depth"] []
  g_law_within : mg "_law_within" = some (.ref a_law_within)
  a_law : Addr
  d_law : FuncData
  F_law : Fun K "law" "law" s_law a_law d_law
  b_law : Binds K d_law ["script"] []
  g_law : mg "law" = some (.ref a_law)
  m_list : mg "list" = none
  m_zip : mg "zip" = none
  m_len : mg "len" = none
  m_int : mg "int" = none
  m_isinstance : mg "isinstance" = none
  m_bool : mg "bool" = none
  m_tuple : mg "tuple" = none
  m_range : mg "range" = none
section
variable {P : Program} {w : World} {K : PySem.W.Frag} {mg : Str → Option Value} {base : Heap}
/-! ### int(x), bits of a number -/
theorem Ev.is {σ : L2.St} {H : Hp} {te : TE} {x y : V} (h : Ev te σ H x) (e : x = y) : Ev te σ H y := e ▸ h
theorem ev_int1 {σ : L2.St} {H : Hp} {te : TE} {i : Int} (h : Ev te σ H (.int i)) : Ev (tCB (fun xs H Q => (∃ i, xs = [V.int i] ∧ Q (V.int i) H) ∨ ∃ k, xs = [V.bl k] ∧ Q (V.int (if k = true then 1 else 0)) H) (tCons te tNil)) σ H (.int i) :=
  ev_cb (ea_cons h ea_nil) fun H1 _ Q q => .inl ⟨i, rfl, q H1 (Ex.refl H1)⟩
theorem q_augR {σ : L2.St} {H : Hp} {te : TE} {D : Ends} {tz : TS} {i : Nat} {g : Int → Int → V} {a b : Int} (h1 : σ[i]? = some (some (.int a))) (h : Ev te σ H (.int b)) (k : ∀ H1, Ex H H1 → tz D (σ.set i (some (g a b))) H1) : tSeq (tAug i te (rI0 g)) tz D σ H :=
  ⟨_, h1, h H (Ex.refl H) _ fun H1 e => ⟨a, b, rfl, rfl, k H1 e⟩⟩
theorem s_augR {σ : L2.St} {H : Hp} {te : TE} {D : Ends} {i : Nat} {g : Int → Int → V} {a b : Int} (h1 : σ[i]? = some (some (.int a))) (h : Ev te σ H (.int b)) (k : ∀ H1, Ex H H1 → D.nx (σ.set i (some (g a b))) H1) : tAug i te (rI0 g) D σ H :=
  ⟨_, h1, h H (Ex.refl H) _ fun H1 e => ⟨a, b, rfl, rfl, k H1 e⟩⟩
theorem ev_atT {K : PySem.W.Frag} {σ : L2.St} {H : Hp} {tl ti : TE} {t : Addr} {xs : List V} {n : Int} {v : V} (h : Ev tl σ H (.ref t)) (hT : SqT K H t xs) (hi : Ev ti σ H (.int n)) (ha : atI xs n = some v) : Ev (tOp (rIxT K) tl ti) σ H v := fun H1 e Q q =>
  h H1 e _ fun H2 e2 => hi H2 (e.trans e2) _ fun H3 e3 => ⟨t, xs, n, v, rfl, rfl, ex_t ((e.trans e2).trans e3) hT, ha, q H3 (e2.trans e3)⟩
local macro_rules | `(tactic| walk_at "side") => `(tactic| first
  | omega
  | (show CDivW _ _; exact ⟨by omega, by decide⟩)
  | (show CDivW _ _; exact wide_div (b := 80) (by omega) (by omega) (by decide) (by decide)))
local macro_rules | `(tactic| walk_at "evown") => `(tactic| (refine' ev_int1 ?h1; (case h1 => walk_at "ev")))
/-- numbers from 0 on, as such -/
def cs (ds : List Nat) : List Int := ds.map fun d : Nat => (d : Int)
theorem cs_of {ns : List Int} {b : Int} (h : ∀ n ∈ ns, 0 ≤ n ∧ n < b) : ∃ ds : List Nat, ns = cs ds ∧ ds.length = ns.length ∧ ∀ d ∈ ds, (d : Int) < b := by
  refine ⟨ns.map Int.toNat, ?_, List.length_map .., fun d hd => ?_⟩
  · unfold cs
    rw [List.map_map]
    conv => lhs; rw [← List.map_id ns]
    refine List.map_congr_left fun n hn => ?_
    have := (h n hn).1
    show n = ((n.toNat : Nat) : Int)
    omega
  · obtain ⟨n, hn, rfl⟩ := List.mem_map.mp hd
    have := h n hn
    omega
theorem cs_len (ds : List Nat) : (cs ds).length = ds.length := List.length_map ..
theorem cs_at {ds : List Nat} {i : Nat} {d : Nat} (h : ds[i]? = some d) : (cs ds)[i]? = some (d : Int) := by unfold cs; rw [List.getElem?_map, h]; rfl
theorem cs_take (ds : List Nat) (i : Nat) : (cs ds).take i = cs (ds.take i) := by unfold cs; rw [List.map_take]
theorem cs_drop (ds : List Nat) (i : Nat) : (cs ds).drop i = cs (ds.drop i) := by unfold cs; rw [List.map_drop]
theorem cs_append (ds es : List Nat) : cs (ds ++ es) = cs ds ++ cs es := List.map_append ..

def sp_cell (K : PySem.W.Frag) : Sp := fun vs H Q _ => ∃ (a : Addr) (ns : List Int) (k : Int), vs = [.ref a, .int k] ∧ SqL K H a (ns.map V.int) ∧ 0 ≤ k ∧ RetV (.int (cellI ns k)) H Q
theorem ok_law_cell (T : TX K mg) : FnOk P w K mg base CX0 1 T.a_law_cell T.d_law_cell ["script", "k"] (sp_cell K) := by
  refine T.F_law_cell.ok sc_law_cell (fun vs H Q E h => by obtain ⟨a, ns, k, rfl, _⟩ := h; rfl) (fun cdv A outer s H vs Q E hr h => ?_)
  obtain ⟨a, ns, k, rfl, hS, hk, q⟩ := h
  refine ⟨_, (pss_cons (ps_if (pt_cmpR op_lt (pv 1) (pe_callB (r := rLenS K) call_len_seq (by rfl) T.m_len PySem.boot_len (pa_cons (pv 0) pa_nil)) (nomark _)) (pss_one (ps_ret (pe_callTy call_int1 (by rfl) T.m_int PyProof.Rows.boot_int (pa_cons (pe_ix (r := rIxL K) ix_list (pv 0) (pv 1) (fun _ _ => rfl)) pa_nil)))) pss_nil)
      (pss_one (ps_ret pe_int))), ?_⟩
  have hl := (ev_lenS (K := K) (Ev.s (te := tVar 0) (σ := start ["script", "k"] [.ref a, .int k]) (ev_var rfl) hS))
  refine q_when (et_test (ev_I0 (ev_var rfl) hl)) ?_ ?_
  · intro hb H1 e1
    have hb : k < ns.length := by
      have := of_decide_eq_true hb
      rwa [List.length_map] at this
    refine s_ret (v := .int (cellI ns k)) (ev_int1 (ev_ixS (i := 0) (n := k) (Ev.s (ev_var rfl) (ex_l e1 hS)) (ev_var rfl) ?_)) fun H2 e2 => q H2 (e1.trans e2)
    exact at_of (j := k.toNat) (by omega) (at_int (cellI_in hk hb))
  · intro hb H1 e1
    have hb : ¬ k < ns.length := by
      have := of_decide_eq_false hb
      rwa [List.length_map] at this
    walk_at "ret"
    intro H2 e2
    exact ret_eq q (e1.trans e2) (by rw [cellI_out hb])
theorem ev_cell {σ : L2.St} {H : Hp} {ta tk : TE} {E : XK} {ns : List Int} {k : Int} {a : Addr} (ha : Ev ta σ H (.ref a)) (hS : SqL K H a (ns.map V.int)) (hk : Ev tk σ H (.int k)) (h0 : 0 ≤ k) : Ev (tCall (sp_cell K) [] E (tCons ta (tCons tk tNil))) σ H (.int (cellI ns k)) :=
  ev_call (ea_cons ha (ea_cons hk ea_nil)) fun H1 e Q q _ => ⟨a, ns, k, rfl, ex_l e hS, h0, q⟩

/-! ### the rows -/
def asg : Nat → Str
  | 0 => "independent"
  | 1 => "left-side"
  | 2 => "side-right"
  | _ => "mid-side"
def sideL (ls rs : List Int) : List Int := List.zipWith (fun a b => a - b) ls rs
def midL (ls rs : List Int) : List Int := List.zipWith (fun a b => (a + b) / 2) ls rs
def rowA (m : Nat) (ls rs : List Int) : List Int := match m with | 2 => sideL ls rs | 3 => midL ls rs | _ => ls
def rowB (m : Nat) (ls rs : List Int) : List Int := match m with | 1 => sideL ls rs | 3 => sideL ls rs | _ => rs
def depA (m d : Nat) : Nat := match m with | 2 => d + 1 | _ => d
def depB (m d : Nat) : Nat := match m with | 1 => d + 1 | 3 => d + 1 | _ => d
theorem sideL_len {ls rs : List Int} (h : rs.length = ls.length) : (sideL ls rs).length = ls.length := by unfold sideL; rw [List.length_zipWith]; omega
theorem midL_len {ls rs : List Int} (h : rs.length = ls.length) : (midL ls rs).length = ls.length := by unfold midL; rw [List.length_zipWith]; omega
theorem four {m : Nat} (h : m < 4) : m = 0 ∨ m = 1 ∨ m = 2 ∨ m = 3 := by omega
theorem ev_asg {σ : L2.St} {H : Hp} {te : TE} {m : Nat} (z : Str) (b : Bool) (h : Ev te σ H (.str (asg m))) (hb : decide (V.str (asg m) = V.str z) = b) : EvT (tTest (tOp rEq te (tC (.str z)))) σ H b := et_test (Ev.is (ev_eq h ev_c rfl) (congrArg V.bl hb))
def RetP (xs ys : List Int) (H : Hp) (Q : VK) : Prop := ∀ p a b H2, H p = none → H a = none → H b = none → Ex H H2 → H2 p = some (.tup [.ref a, .ref b]) → H2 a = some (.lst (xs.map V.int)) → H2 b = some (.lst (ys.map V.int)) → Q (.ref p) H2
theorem RetP.mono {xs ys : List Int} {H H' : Hp} {Q : VK} (k : RetP xs ys H Q) (e : Ex H H') : RetP xs ys H' Q := fun p a b H2 hp ha hb e2 g1 g2 g3 => k p a b H2 (fresh_back e hp) (fresh_back e ha) (fresh_back e hb) (e.trans e2) g1 g2 g3
theorem s_retP {σ : L2.St} {H : Hp} {D : Ends} {t1 t2 : TE} {xs ys : List Int} (h1 : EvL t1 σ H (xs.map V.int)) (h2 : EvL t2 σ H (ys.map V.int)) (k : RetP xs ys H D.rt) : tRet (tTup (tCons t1 (tCons t2 tNil))) D σ H :=
  h1 H (Ex.refl H) _ fun a H1 ha e1 g1 => h2 H1 e1 _ fun b H2 hb e2 g2 => ⟨sz_of (show 2 ≤ 100000 by decide), fun p hp => k p a b _ (fresh_back (e1.trans e2) hp) ha (fresh_back e1 hb) ((e1.trans e2).trans (Ex.new hp)) upd_same ((e2.trans (Ex.new hp)) _ _ g1) ((Ex.new hp) _ _ g2)⟩
/-- existing lists in a new pair -/
theorem s_retPR {σ : L2.St} {H : Hp} {D : Ends} {t1 t2 : TE} {xs ys : List Int} {a b : Addr} {H0 : Hp} (e0 : Ex H0 H) (ha : H0 a = none) (hb : H0 b = none) (h1 : Ev t1 σ H (.ref a)) (g1 : H a = some (.lst (xs.map V.int))) (h2 : Ev t2 σ H (.ref b)) (g2 : H b = some (.lst (ys.map V.int))) (k : RetP xs ys H0 D.rt) : tRet (tTup (tCons t1 (tCons t2 tNil))) D σ H :=
  h1 H (Ex.refl H) _ fun H1 e1 => h2 H1 e1 _ fun H2 e2 => ⟨sz_of (show 2 ≤ 100000 by decide), fun p hp => k p a b _ (fresh_back (e0.trans (e1.trans e2)) hp) ha hb ((e0.trans (e1.trans e2)).trans (Ex.new hp)) upd_same (((e1.trans e2).trans (Ex.new hp)) _ _ g1) (((e1.trans e2).trans (Ex.new hp)) _ _ g2)⟩
/-- a new list at hand in a new pair, with another new one -/
def sp_zip2 (K : PySem.W.Frag) (f : List Int → List Int → List Int) : Sp := fun vs H Q _ => ∃ (a b : Addr) (xs ys : List Int), vs = [.ref a, .ref b] ∧ SqL K H a (xs.map V.int) ∧ SqL K H b (ys.map V.int) ∧ xs.length ≤ 1000 ∧ RetL ((f xs ys).map V.int) H Q
theorem ok_side (T : TX K mg) : FnOk P w K mg base CX0 1 T.a_side T.d_side ["left", "right"] (sp_zip2 K sideL) := by
  refine T.F_side.ok sc_side (fun vs H Q E h => by obtain ⟨a, b, xs, ys, rfl, _⟩ := h; rfl) (fun cdv A outer s0 H vs Q E hr h => ?_)
  obtain ⟨a, b, xs, ys, rfl, hA, hB, hl, k⟩ := h
  refine ⟨_, (pss_one (ps_ret (pe_lc (own := [("a", 2), ("b", 3)]) (g := (gTup K 2 (gCons (gName 2) (gCons (gName 3) gNil)))) (tt := tYes) rfl sc_side.nd (pi_zip (by rfl) T.m_zip (pa_cons (pv 0) (pa_cons (pv 1) pa_nil))) (blkOk_by (N := ["left", "right", "a", "b"]) (sc := defScope s_side) (by decide +kernel)) (fun _ _ _ _ _ => (pg_tup rfl (pgs_cons (pg_name (i := 2) sc_side.nd rfl (Or.inl rfl)) (pgs_cons (pg_name (i := 3) sc_side.nd rfl (Or.inl rfl)) pgs_nil)))) (fun _ _ _ _ _ => pts_nil) (fun _ _ _ _ _ => (pe_op op_sub (pv 2) (pv 3)))))), ?_⟩
  refine s_retL (el_lcZ (K := K) (xs := xs.map V.int) (ys := ys.map V.int) ((sideL xs ys).map V.int) (Ev.s (ev_var rfl) hA) (Ev.s (ev_var rfl) hB) (by rw [List.length_map, List.length_map, List.length_map]; exact List.length_zipWith) (by rw [List.length_map]; unfold sideL; rw [List.length_zipWith]; omega) (fun _ _ => rfl) fun i x y H1 e1 hx hy => ?_) k
  obtain ⟨n, hn, hi, rfl⟩ := int_at hx
  obtain ⟨m, hm, hj, rfl⟩ := int_at hy
  exact ⟨.int (n - m), at_int (by unfold sideL; rw [List.getElem?_zipWith, hn, hm]), ev_I0 (ev_var rfl) (ev_var rfl)⟩
theorem ok_mid (T : TX K mg) : FnOk P w K mg base CX0 1 T.a_mid T.d_mid ["left", "right"] (sp_zip2 K midL) := by
  refine T.F_mid.ok sc_mid (fun vs H Q E h => by obtain ⟨a, b, xs, ys, rfl, _⟩ := h; rfl) (fun cdv A outer s0 H vs Q E hr h => ?_)
  obtain ⟨a, b, xs, ys, rfl, hA, hB, hl, k⟩ := h
  refine ⟨_, (pss_one (ps_ret (pe_lc (own := [("a", 2), ("b", 3)]) (g := (gTup K 2 (gCons (gName 2) (gCons (gName 3) gNil)))) (tt := tYes) rfl sc_mid.nd (pi_zip (by rfl) T.m_zip (pa_cons (pv 0) (pa_cons (pv 1) pa_nil))) (blkOk_by (N := ["left", "right", "a", "b"]) (sc := defScope s_mid) (by decide +kernel)) (fun _ _ _ _ _ => (pg_tup rfl (pgs_cons (pg_name (i := 2) sc_mid.nd rfl (Or.inl rfl)) (pgs_cons (pg_name (i := 3) sc_mid.nd rfl (Or.inl rfl)) pgs_nil)))) (fun _ _ _ _ _ => pts_nil) (fun _ _ _ _ _ => (pe_op op_shr (pe_op op_add (pv 2) (pv 3)) pe_int))))), ?_⟩
  refine s_retL (el_lcZ (K := K) (xs := xs.map V.int) (ys := ys.map V.int) ((midL xs ys).map V.int) (Ev.s (ev_var rfl) hA) (Ev.s (ev_var rfl) hB) (by rw [List.length_map, List.length_map, List.length_map]; exact List.length_zipWith) (by rw [List.length_map]; unfold midL; rw [List.length_zipWith]; omega) (fun _ _ => rfl) fun i x y H1 e1 hx hy => ?_) k
  obtain ⟨n, hn, hi, rfl⟩ := int_at hx
  obtain ⟨m, hm, hj, rfl⟩ := int_at hy
  exact ⟨.int ((n + m) / 2), at_int (by unfold midL; rw [List.getElem?_zipWith, hn, hm]), ev_I (ev_I0 (ev_var rfl) (ev_var rfl)) ev_c (by decide)⟩
theorem el_zip2 {σ : L2.St} {H : Hp} {t1 t2 : TE} {E : XK} {f : List Int → List Int → List Int} {xs ys : List Int} (h1 : EvS K t1 σ H (xs.map V.int)) (h2 : EvS K t2 σ H (ys.map V.int)) (hl : xs.length ≤ 1000) : EvL (tCall (sp_zip2 K f) [] E (tCons t1 (tCons t2 tNil))) σ H ((f xs ys).map V.int) := fun H1 e Q q =>
  h1 H1 e _ fun a H2 e2 ha => h2 H2 (e.trans e2) _ fun b H3 e3 hb => ⟨a, b, xs, ys, rfl, ex_l e3 ha, hb, hl, fun r H4 hr e4 g4 => q r H4 (fresh_back (e2.trans e3) hr) ((e2.trans e3).trans e4) g4⟩
def sp_split (K : PySem.W.Frag) : Sp := fun vs H Q _ => ∃ (m : Nat) (a b : Addr) (ls rs : List Int), vs = [.str (asg m), .ref a, .ref b] ∧ m < 4 ∧ SqL K H a (ls.map V.int) ∧ SqL K H b (rs.map V.int) ∧ ls.length ≤ 1000 ∧ RetP (rowA m ls rs) (rowB m ls rs) H Q
theorem ok_split (T : TX K mg) : FnOk P w K mg base CX0 2 T.a_split T.d_split ["assignment", "left", "right"] (sp_split K) := by
  refine T.F_split.ok sc_split (fun vs H Q E h => by obtain ⟨m, a, b, ls, rs, rfl, _⟩ := h; rfl) (fun cdv A outer s0 H vs Q E hr h => ?_)
  obtain ⟨m, a, b, ls, rs, rfl, hm, hA, hB, hl, k⟩ := h
  refine ⟨_, (pss_cons (ps_if (pt_cmpR op_eq (pv 0) pe_str (nomark _)) (pss_one (ps_ret (pe_tup (pa_cons (pe_callTy (r := rListS K) call_list_of (by rfl) T.m_list PyProof.Rows.boot_list (pa_cons (pv 1) pa_nil)) (pa_cons (pe_call (ok_side T) (hr.mono (by decide)) (by rfl) T.g_side T.F_side.kp T.b_side .nil pass0 (pa_cons (pv 1) (pa_cons (pv 2) pa_nil))) pa_nil))))) pss_nil)
      (pss_cons (ps_if (pt_cmpR op_eq (pv 0) pe_str (nomark _)) (pss_one (ps_ret (pe_tup (pa_cons (pe_call (ok_side T) (hr.mono (by decide)) (by rfl) T.g_side T.F_side.kp T.b_side .nil pass0 (pa_cons (pv 1) (pa_cons (pv 2) pa_nil))) (pa_cons (pe_callTy (r := rListS K) call_list_of (by rfl) T.m_list PyProof.Rows.boot_list (pa_cons (pv 2) pa_nil)) pa_nil))))) pss_nil)
      (pss_cons (ps_if (pt_cmpR op_eq (pv 0) pe_str (nomark _)) (pss_one (ps_ret (pe_tup (pa_cons (pe_call (ok_mid T) (hr.mono (by decide)) (by rfl) T.g_mid T.F_mid.kp T.b_mid .nil pass0 (pa_cons (pv 1) (pa_cons (pv 2) pa_nil))) (pa_cons (pe_call (ok_side T) (hr.mono (by decide)) (by rfl) T.g_side T.F_side.kp T.b_side .nil pass0 (pa_cons (pv 1) (pa_cons (pv 2) pa_nil))) pa_nil))))) pss_nil)
      (pss_one (ps_ret (pe_tup (pa_cons (pe_callTy (r := rListS K) call_list_of (by rfl) T.m_list PyProof.Rows.boot_list (pa_cons (pv 1) pa_nil)) (pa_cons (pe_callTy (r := rListS K) call_list_of (by rfl) T.m_list PyProof.Rows.boot_list (pa_cons (pv 2) pa_nil)) pa_nil)))))))), ?_⟩
  rcases four hm with rfl | rfl | rfl | rfl
  · refine q_when (b := false) (ev_asg (m := 0) "left-side" false (ev_var rfl) (by decide)) (fun hb => by cases hb) fun _ H1 e1 => ?_
    refine q_when (b := false) (ev_asg (m := 0) "side-right" false (ev_var rfl) (by decide)) (fun hb => by cases hb) fun _ H2 e2 => ?_
    refine q_when (b := false) (ev_asg (m := 0) "mid-side" false (ev_var rfl) (by decide)) (fun hb => by cases hb) fun _ H3 e3 => ?_
    have e13 := (e1.trans e2).trans e3
    exact s_retP (el_of (Ev.s (ev_var rfl) (ex_l e13 hA))) (el_of (Ev.s (ev_var rfl) (ex_l e13 hB))) (k.mono e13)
  · refine q_when (b := true) (ev_asg (m := 1) "left-side" true (ev_var rfl) (by decide)) (fun _ H1 e1 => ?_) (fun hb => by cases hb)
    exact s_retP (el_of (Ev.s (ev_var rfl) (ex_l e1 hA))) (el_zip2 (Ev.s (ev_var rfl) (ex_l e1 hA)) (Ev.s (ev_var rfl) (ex_l e1 hB)) hl) (k.mono e1)
  · refine q_when (b := false) (ev_asg (m := 2) "left-side" false (ev_var rfl) (by decide)) (fun hb => by cases hb) fun _ H1 e1 => ?_
    refine q_when (b := true) (ev_asg (m := 2) "side-right" true (ev_var rfl) (by decide)) (fun _ H2 e2 => ?_) (fun hb => by cases hb)
    have e13 := e1.trans e2
    exact s_retP (el_zip2 (Ev.s (ev_var rfl) (ex_l e13 hA)) (Ev.s (ev_var rfl) (ex_l e13 hB)) hl) (el_of (Ev.s (ev_var rfl) (ex_l e13 hB))) (k.mono e13)
  · refine q_when (b := false) (ev_asg (m := 3) "left-side" false (ev_var rfl) (by decide)) (fun hb => by cases hb) fun _ H1 e1 => ?_
    refine q_when (b := false) (ev_asg (m := 3) "side-right" false (ev_var rfl) (by decide)) (fun hb => by cases hb) fun _ H2 e2 => ?_
    refine q_when (b := true) (ev_asg (m := 3) "mid-side" true (ev_var rfl) (by decide)) (fun _ H3 e3 => ?_) (fun hb => by cases hb)
    have e13 := (e1.trans e2).trans e3
    exact s_retP (el_zip2 (Ev.s (ev_var rfl) (ex_l e13 hA)) (Ev.s (ev_var rfl) (ex_l e13 hB)) hl) (el_zip2 (Ev.s (ev_var rfl) (ex_l e13 hA)) (Ev.s (ev_var rfl) (ex_l e13 hB)) hl) (k.mono e13)
theorem zip_back1 : ∀ (ls rs : List Int), rs.length = ls.length → List.zipWith (fun l s => l - s) ls (sideL ls rs) = rs
  | [], [], _ => rfl
  | [], _ :: _, h => by cases h
  | _ :: _, [], h => by cases h
  | l :: ls, r :: rs, h => by
    show (l - (l - r)) :: List.zipWith (fun l s => l - s) ls (sideL ls rs) = r :: rs
    rw [zip_back1 ls rs (by simpa using h), show l - (l - r) = r by omega]
theorem zip_back2 : ∀ (ls rs : List Int), rs.length = ls.length → List.zipWith (fun s r => r + s) (sideL ls rs) rs = ls
  | [], [], _ => rfl
  | [], _ :: _, h => by cases h
  | _ :: _, [], h => by cases h
  | l :: ls, r :: rs, h => by
    show (r + (l - r)) :: List.zipWith (fun s r => r + s) (sideL ls rs) rs = l :: ls
    rw [zip_back2 ls rs (by simpa using h), show r + (l - r) = l by omega]
def dblL (ms ss : List Int) : List Int := List.zipWith (fun m s => 2 * m + s % 2) ms ss
theorem zip_back3 : ∀ (ls rs : List Int), rs.length = ls.length → List.zipWith (fun d s => (d + s) / 2) (dblL (midL ls rs) (sideL ls rs)) (sideL ls rs) = ls ∧ List.zipWith (fun d s => (d - s) / 2) (dblL (midL ls rs) (sideL ls rs)) (sideL ls rs) = rs
  | [], [], _ => ⟨rfl, rfl⟩
  | [], _ :: _, h => by cases h
  | _ :: _, [], h => by cases h
  | l :: ls, r :: rs, h => by
    obtain ⟨h1, h2⟩ := zip_back3 ls rs (by simpa using h)
    refine ⟨?_, ?_⟩
    · show ((2 * ((l + r) / 2) + (l - r) % 2 + (l - r)) / 2) :: List.zipWith (fun d s => (d + s) / 2) (dblL (midL ls rs) (sideL ls rs)) (sideL ls rs) = l :: ls
      rw [h1, show (2 * ((l + r) / 2) + (l - r) % 2 + (l - r)) / 2 = l by omega]
    · show ((2 * ((l + r) / 2) + (l - r) % 2 - (l - r)) / 2) :: List.zipWith (fun d s => (d - s) / 2) (dblL (midL ls rs) (sideL ls rs)) (sideL ls rs) = r :: rs
      rw [h2, show (2 * ((l + r) / 2) + (l - r) % 2 - (l - r)) / 2 = r by omega]
def sp_join (K : PySem.W.Frag) : Sp := fun vs H Q _ => ∃ (m : Nat) (a b : Addr) (ls rs : List Int), vs = [.str (asg m), .ref a, .ref b] ∧ m < 4 ∧ SqL K H a ((rowA m ls rs).map V.int) ∧ SqL K H b ((rowB m ls rs).map V.int) ∧ rs.length = ls.length ∧ ls.length ≤ 1000 ∧ RetP ls rs H Q
theorem ok_join (T : TX K mg) : FnOk P w K mg base CX0 1 T.a_join T.d_join ["assignment", "first", "second"] (sp_join K) := by
  refine T.F_join.ok sc_join (fun vs H Q E h => by obtain ⟨m, a, b, ls, rs, rfl, _⟩ := h; rfl) (fun cdv A outer s0 H vs Q E hr h => ?_)
  obtain ⟨m, a, b, ls, rs, rfl, hm, hA, hB, hrl, hl, k⟩ := h
  refine ⟨_, (pss_cons (ps_if (pt_cmpR op_eq (pv 0) pe_str (nomark _)) (pss_one (ps_ret (pe_tup (pa_cons (pe_callTy (r := rListS K) call_list_of (by rfl) T.m_list PyProof.Rows.boot_list (pa_cons (pv 1) pa_nil)) (pa_cons (pe_lc (own := [("left", 3), ("side", 6)]) (g := (gTup K 2 (gCons (gName 3) (gCons (gName 6) gNil)))) (tt := tYes) rfl sc_join.nd (pi_zip (by rfl) T.m_zip (pa_cons (pv 1) (pa_cons (pv 2) pa_nil))) (blkOk_by (N := ["assignment", "first", "second", "left", "right", "doubles", "side", "mid", "double"]) (sc := defScope s_join) (by decide +kernel)) (fun _ _ _ _ _ => (pg_tup rfl (pgs_cons (pg_name (i := 3) sc_join.nd rfl (Or.inl rfl)) (pgs_cons (pg_name (i := 6) sc_join.nd rfl (Or.inl rfl)) pgs_nil)))) (fun _ _ _ _ _ => pts_nil) (fun _ _ _ _ _ => (pe_op op_sub (pv 3) (pv 6)))) pa_nil))))) pss_nil)
      (pss_cons (ps_if (pt_cmpR op_eq (pv 0) pe_str (nomark _)) (pss_one (ps_ret (pe_tup (pa_cons (pe_lc (own := [("side", 6), ("right", 4)]) (g := (gTup K 2 (gCons (gName 6) (gCons (gName 4) gNil)))) (tt := tYes) rfl sc_join.nd (pi_zip (by rfl) T.m_zip (pa_cons (pv 1) (pa_cons (pv 2) pa_nil))) (blkOk_by (N := ["assignment", "first", "second", "left", "right", "doubles", "side", "mid", "double"]) (sc := defScope s_join) (by decide +kernel)) (fun _ _ _ _ _ => (pg_tup rfl (pgs_cons (pg_name (i := 6) sc_join.nd rfl (Or.inl rfl)) (pgs_cons (pg_name (i := 4) sc_join.nd rfl (Or.inl rfl)) pgs_nil)))) (fun _ _ _ _ _ => pts_nil) (fun _ _ _ _ _ => (pe_op op_add (pv 4) (pv 6)))) (pa_cons (pe_callTy (r := rListS K) call_list_of (by rfl) T.m_list PyProof.Rows.boot_list (pa_cons (pv 2) pa_nil)) pa_nil))))) pss_nil)
      (pss_cons (ps_if (pt_cmpR op_eq (pv 0) pe_str (nomark _)) (pss_cons (ps_setLc (i := 5) (own := [("mid", 7), ("side", 6)]) (g := (gTup K 2 (gCons (gName 7) (gCons (gName 6) gNil)))) (tt := tYes) rfl sc_join.nd rfl rfl (sw_true rfl rfl rfl (by decide +kernel)) (pi_zip (by rfl) T.m_zip (pa_cons (pv 1) (pa_cons (pv 2) pa_nil))) (blkOk_by (N := ["assignment", "first", "second", "left", "right", "doubles", "side", "mid", "double"]) (sc := defScope s_join) (by decide +kernel)) (fun _ _ _ _ _ => (pg_tup rfl (pgs_cons (pg_name (i := 7) sc_join.nd rfl (Or.inl rfl)) (pgs_cons (pg_name (i := 6) sc_join.nd rfl (Or.inl rfl)) pgs_nil)))) (fun _ _ _ _ _ => pts_nil) (fun _ _ _ _ _ => (pe_op op_add (pe_op op_mul pe_int (pv 7)) (pe_op op_mod (pv 6) pe_int))))
        (pss_cons (ps_setLc (i := 3) (own := [("double", 8), ("side", 6)]) (g := (gTup K 2 (gCons (gName 8) (gCons (gName 6) gNil)))) (tt := tYes) rfl sc_join.nd rfl rfl (sw_true rfl rfl rfl (by decide +kernel)) (pi_zip (by rfl) T.m_zip (pa_cons (pv 5) (pa_cons (pv 2) pa_nil))) (blkOk_by (N := ["assignment", "first", "second", "left", "right", "doubles", "side", "mid", "double"]) (sc := defScope s_join) (by decide +kernel)) (fun _ _ _ _ _ => (pg_tup rfl (pgs_cons (pg_name (i := 8) sc_join.nd rfl (Or.inl rfl)) (pgs_cons (pg_name (i := 6) sc_join.nd rfl (Or.inl rfl)) pgs_nil)))) (fun _ _ _ _ _ => pts_nil) (fun _ _ _ _ _ => (pe_op op_shr (pe_op op_add (pv 8) (pv 6)) pe_int)))
        (pss_cons (ps_setLc (i := 4) (own := [("double", 8), ("side", 6)]) (g := (gTup K 2 (gCons (gName 8) (gCons (gName 6) gNil)))) (tt := tYes) rfl sc_join.nd rfl rfl (sw_true rfl rfl rfl (by decide +kernel)) (pi_zip (by rfl) T.m_zip (pa_cons (pv 5) (pa_cons (pv 2) pa_nil))) (blkOk_by (N := ["assignment", "first", "second", "left", "right", "doubles", "side", "mid", "double"]) (sc := defScope s_join) (by decide +kernel)) (fun _ _ _ _ _ => (pg_tup rfl (pgs_cons (pg_name (i := 8) sc_join.nd rfl (Or.inl rfl)) (pgs_cons (pg_name (i := 6) sc_join.nd rfl (Or.inl rfl)) pgs_nil)))) (fun _ _ _ _ _ => pts_nil) (fun _ _ _ _ _ => (pe_op op_shr (pe_op op_sub (pv 8) (pv 6)) pe_int)))
        (pss_one (ps_ret (pe_tup (pa_cons (pv 3) (pa_cons (pv 4) pa_nil)))))))) pss_nil)
      (pss_one (ps_ret (pe_tup (pa_cons (pe_callTy (r := rListS K) call_list_of (by rfl) T.m_list PyProof.Rows.boot_list (pa_cons (pv 1) pa_nil)) (pa_cons (pe_callTy (r := rListS K) call_list_of (by rfl) T.m_list PyProof.Rows.boot_list (pa_cons (pv 2) pa_nil)) pa_nil)))))))), ?_⟩
  have hsl := sideL_len hrl
  have hml := midL_len hrl
  rcases four hm with rfl | rfl | rfl | rfl
  · refine q_when (b := false) (ev_asg (m := 0) "left-side" false (ev_var rfl) (by decide)) (fun hb => by cases hb) fun _ H1 e1 => ?_
    refine q_when (b := false) (ev_asg (m := 0) "side-right" false (ev_var rfl) (by decide)) (fun hb => by cases hb) fun _ H2 e2 => ?_
    refine q_when (b := false) (ev_asg (m := 0) "mid-side" false (ev_var rfl) (by decide)) (fun hb => by cases hb) fun _ H3 e3 => ?_
    have e13 := (e1.trans e2).trans e3
    exact s_retP (el_of (Ev.s (ev_var rfl) (ex_l e13 hA))) (el_of (Ev.s (ev_var rfl) (ex_l e13 hB))) (k.mono e13)
  · refine q_when (b := true) (ev_asg (m := 1) "left-side" true (ev_var rfl) (by decide)) (fun _ H1 e1 => ?_) (fun hb => by cases hb)
    refine s_retP (el_of (Ev.s (ev_var rfl) (ex_l e1 hA))) (EvL.is (el_lcZ (K := K) (xs := ls.map V.int) (ys := (sideL ls rs).map V.int) ((List.zipWith (fun l s => l - s) ls (sideL ls rs)).map V.int) (Ev.s (ev_var rfl) (ex_l e1 hA)) (Ev.s (ev_var rfl) (ex_l e1 hB)) (by rw [List.length_map, List.length_map, List.length_map]; exact List.length_zipWith) (by rw [List.length_map, List.length_zipWith]; omega) (fun _ _ => rfl) fun i x y H2 e2 hx hy => ?_) (by rw [zip_back1 ls rs hrl])) (k.mono e1)
    obtain ⟨n, hn, hi, rfl⟩ := int_at hx
    obtain ⟨m, hm, hj, rfl⟩ := int_at hy
    exact ⟨.int (n - m), at_int (by rw [List.getElem?_zipWith, hn, hm]), ev_I0 (ev_var rfl) (ev_var rfl)⟩
  · refine q_when (b := false) (ev_asg (m := 2) "left-side" false (ev_var rfl) (by decide)) (fun hb => by cases hb) fun _ H1 e1 => ?_
    refine q_when (b := true) (ev_asg (m := 2) "side-right" true (ev_var rfl) (by decide)) (fun _ H2 e2 => ?_) (fun hb => by cases hb)
    have e13 := e1.trans e2
    refine s_retP (EvL.is (el_lcZ (K := K) (xs := (sideL ls rs).map V.int) (ys := rs.map V.int) ((List.zipWith (fun s r => r + s) (sideL ls rs) rs).map V.int) (Ev.s (ev_var rfl) (ex_l e13 hA)) (Ev.s (ev_var rfl) (ex_l e13 hB)) (by rw [List.length_map, List.length_map, List.length_map]; exact List.length_zipWith) (by rw [List.length_map, List.length_zipWith]; omega) (fun _ _ => rfl) fun i x y H2 e2 hx hy => ?_) (by rw [zip_back2 ls rs hrl])) (el_of (Ev.s (ev_var rfl) (ex_l e13 hB))) (k.mono e13)
    obtain ⟨n, hn, hi, rfl⟩ := int_at hx
    obtain ⟨m, hm, hj, rfl⟩ := int_at hy
    exact ⟨.int (m + n), at_int (by rw [List.getElem?_zipWith, hn, hm]), ev_I0 (ev_var rfl) (ev_var rfl)⟩
  · refine q_when (b := false) (ev_asg (m := 3) "left-side" false (ev_var rfl) (by decide)) (fun hb => by cases hb) fun _ H1 e1 => ?_
    refine q_when (b := false) (ev_asg (m := 3) "side-right" false (ev_var rfl) (by decide)) (fun hb => by cases hb) fun _ H2 e2 => ?_
    refine q_when (b := true) (ev_asg (m := 3) "mid-side" true (ev_var rfl) (by decide)) (fun _ H3 e3 => ?_) (fun hb => by cases hb)
    have e13 := (e1.trans e2).trans e3
    have hdl : (dblL (midL ls rs) (sideL ls rs)).length = ls.length := by unfold dblL; rw [List.length_zipWith]; omega
    refine q_asgL (xs := (dblL (midL ls rs) (sideL ls rs)).map V.int) (el_lcZ (K := K) (xs := (midL ls rs).map V.int) (ys := (sideL ls rs).map V.int) _ (Ev.s (ev_var rfl) (ex_l e13 hA)) (Ev.s (ev_var rfl) (ex_l e13 hB)) (by rw [List.length_map, List.length_map, List.length_map]; exact List.length_zipWith) (by rw [List.length_map]; omega) (fun _ _ => rfl) fun i x y H4 e4 hx hy => ?_) fun pd H4 hpd e4 g4 => ?_
    · obtain ⟨n, hn, hi, rfl⟩ := int_at hx
      obtain ⟨m, hm, hj, rfl⟩ := int_at hy
      exact ⟨.int (2 * n + m % 2), at_int (by unfold dblL; rw [List.getElem?_zipWith, hn, hm]), ev_I0 (ev_I ev_c (ev_var rfl) (.inl (by decide))) (ev_I (ev_var rfl) ev_c (by decide))⟩
    refine q_asgL (xs := ls.map V.int) (EvL.is (el_lcZ (K := K) (xs := (dblL (midL ls rs) (sideL ls rs)).map V.int) (ys := (sideL ls rs).map V.int) ((List.zipWith (fun d s => (d + s) / 2) (dblL (midL ls rs) (sideL ls rs)) (sideL ls rs)).map V.int) (Ev.s (ev_var rfl) (sq_of g4)) (Ev.s (ev_var rfl) (ex_l (e13.trans e4) hB)) (by rw [List.length_map, List.length_map, List.length_map]; exact List.length_zipWith) (by rw [List.length_map, List.length_zipWith]; omega) (fun _ _ => rfl) fun i x y H4 e4 hx hy => ?_) (by rw [(zip_back3 ls rs hrl).1])) fun pl H5 hpl e5 g5 => ?_
    · obtain ⟨n, hn, hi, rfl⟩ := int_at hx
      obtain ⟨m, hm, hj, rfl⟩ := int_at hy
      exact ⟨.int ((n + m) / 2), at_int (by rw [List.getElem?_zipWith, hn, hm]), ev_I (ev_I0 (ev_var rfl) (ev_var rfl)) ev_c (by decide)⟩
    refine q_asgL (xs := rs.map V.int) (EvL.is (el_lcZ (K := K) (xs := (dblL (midL ls rs) (sideL ls rs)).map V.int) (ys := (sideL ls rs).map V.int) ((List.zipWith (fun d s => (d - s) / 2) (dblL (midL ls rs) (sideL ls rs)) (sideL ls rs)).map V.int) (Ev.s (ev_var rfl) (sq_of (e5 _ _ g4))) (Ev.s (ev_var rfl) (ex_l (e13.trans (e4.trans e5)) hB)) (by rw [List.length_map, List.length_map, List.length_map]; exact List.length_zipWith) (by rw [List.length_map, List.length_zipWith]; omega) (fun _ _ => rfl) fun i x y H4 e4 hx hy => ?_) (by rw [(zip_back3 ls rs hrl).2])) fun pr H6 hpr e6 g6 => ?_
    · obtain ⟨n, hn, hi, rfl⟩ := int_at hx
      obtain ⟨m, hm, hj, rfl⟩ := int_at hy
      exact ⟨.int ((n - m) / 2), at_int (by rw [List.getElem?_zipWith, hn, hm]), ev_I (ev_I0 (ev_var rfl) (ev_var rfl)) ev_c (by decide)⟩
    have e14 := e13.trans e4
    exact s_retPR (e14.trans (e5.trans e6)) (fresh_back e14 hpl) (fresh_back (e14.trans e5) hpr) (ev_var rfl) (e6 _ _ g5) (ev_var rfl) g6 k
def sp_depths : Sp := fun vs H Q _ => ∃ (m d n : Nat), vs = [.str (asg m), .int (d : Int), .int (n : Int)] ∧ m < 4 ∧ n ≤ 1000 ∧ RetL (if m = 0 then (List.replicate n (d : Int)).map V.int else [.int (depA m d : Int), .int (depB m d : Int)]) H Q
theorem ok_row_depths (T : TX K mg) : FnOk P w K mg base CX0 1 T.a_row_depths T.d_row_depths ["assignment", "depth", "count"] sp_depths := by
  refine T.F_row_depths.ok sc_row_depths (fun vs H Q E h => by obtain ⟨m, d, n, rfl, _⟩ := h; rfl) (fun cdv A outer s0 H vs Q E hr h => ?_)
  obtain ⟨m, d, n, rfl, hm, hn, k⟩ := h
  refine ⟨_, (pss_cons (ps_if (pt_cmpR op_eq (pv 0) pe_str (nomark _)) (pss_one (ps_ret (pe_op op_rep (pe_lst (pa_cons (pv 1) pa_nil)) (pv 2)))) pss_nil)
      (pss_cons (ps_if (pt_cmpR op_eq (pv 0) pe_str (nomark _)) (pss_one (ps_ret (pe_lst (pa_cons (pe_op op_add (pv 1) pe_int) (pa_cons (pv 1) pa_nil))))) pss_nil)
      (pss_one (ps_ret (pe_lst (pa_cons (pv 1) (pa_cons (pe_op op_add (pv 1) pe_int) pa_nil))))))), ?_⟩
  rcases four hm with rfl | rfl | rfl | rfl
  · refine q_when (b := true) (ev_asg (m := 0) "independent" true (ev_var rfl) (by decide)) (fun _ H1 e1 => ?_) (fun hb => by cases hb)
    exact s_retL (xs := (List.replicate n (d : Int)).map V.int) (EvL.is (el_rep (xs := [V.int (d : Int)]) (k := (n : Int)) (EvL.r (el_lst (ea_cons (ev_var rfl) ea_nil) (Nat.le_of_ble_eq_true rfl))) (ev_var rfl) (by omega) (by rw [Int.toNat_natCast]; show 1 * n ≤ _; omega)) (by rw [Int.toNat_natCast, rep_one, List.map_replicate])) fun p H2 hp e2 g2 => k.go e1 hp e2 g2
  · refine q_when (b := false) (ev_asg (m := 1) "independent" false (ev_var rfl) (by decide)) (fun hb => by cases hb) fun _ H1 e1 => ?_
    refine q_when (b := false) (ev_asg (m := 1) "side-right" false (ev_var rfl) (by decide)) (fun hb => by cases hb) fun _ H2 e2 => ?_
    exact s_retL (el_lst (ea_cons (ev_var rfl) (ea_cons (ev_I0 (ev_var rfl) ev_c) ea_nil)) (Nat.le_of_ble_eq_true rfl)) fun p H3 hp e3 g3 => k.go (e1.trans e2) hp e3 g3
  · refine q_when (b := false) (ev_asg (m := 2) "independent" false (ev_var rfl) (by decide)) (fun hb => by cases hb) fun _ H1 e1 => ?_
    refine q_when (b := true) (ev_asg (m := 2) "side-right" true (ev_var rfl) (by decide)) (fun _ H2 e2 => ?_) (fun hb => by cases hb)
    exact s_retL (el_lst (ea_cons (ev_I0 (ev_var rfl) ev_c) (ea_cons (ev_var rfl) ea_nil)) (Nat.le_of_ble_eq_true rfl)) fun p H3 hp e3 g3 => k.go (e1.trans e2) hp e3 g3
  · refine q_when (b := false) (ev_asg (m := 3) "independent" false (ev_var rfl) (by decide)) (fun hb => by cases hb) fun _ H1 e1 => ?_
    refine q_when (b := false) (ev_asg (m := 3) "side-right" false (ev_var rfl) (by decide)) (fun hb => by cases hb) fun _ H2 e2 => ?_
    exact s_retL (el_lst (ea_cons (ev_var rfl) (ea_cons (ev_I0 (ev_var rfl) ev_c) ea_nil)) (Nat.le_of_ble_eq_true rfl)) fun p H3 hp e3 g3 => k.go (e1.trans e2) hp e3 g3

/-! ### the law's defs -/
def smp (d : Nat) (c : Int) : Int := c % (2 * 2 ^ (d - 1)) - 2 ^ (d - 1)
def inR (d : Nat) (v : Int) : Prop := -(2 ^ (d - 1)) ≤ v ∧ v < 2 ^ (d - 1)
theorem p2pos (j : Nat) : (0 : Int) < 2 ^ j := Int.pow_pos (by decide)
theorem smp_in (d : Nat) (c : Int) : inR d (smp d c) := by
  unfold inR smp
  have hp := p2pos (d - 1)
  have h1 := Int.emod_nonneg c (show (2 * 2 ^ (d - 1) : Int) ≠ 0 by omega)
  have h2 := Int.emod_lt_of_pos c (show (0 : Int) < 2 * 2 ^ (d - 1) by omega)
  omega
theorem ev_pw1 {σ : L2.St} {H : Hp} {te : TE} {d : Nat} (h : Ev te σ H (.int (d : Int))) (h1 : 1 ≤ d ∧ d ≤ 1000) : Ev (tOp (rI CPow fun i j => .int (i * 2 ^ j.toNat)) (tC (.int 1)) (tOp (rI0 fun i j => .int (i - j)) te (tC (.int 1)))) σ H (.int (2 ^ (d - 1))) :=
  Ev.is (ev_I ev_c (ev_I0 h ev_c) (show CPow 1 ((d : Int) - 1) from ⟨by omega, by omega, by decide⟩)) (congrArg V.int (by rw [show ((d : Int) - 1).toNat = d - 1 by omega, Int.one_mul]))
def sp_sample : Sp := fun vs H Q _ => ∃ (c : Int) (d : Nat), vs = [.int c, .int (d : Int)] ∧ (1 ≤ d ∧ d ≤ 1000) ∧ RetV (.int (smp d c)) H Q
theorem ok_law_sample (T : TX K mg) : FnOk P w K mg base CX0 1 T.a_law_sample T.d_law_sample ["cell", "depth"] sp_sample := by
  refine T.F_law_sample.ok sc_law_sample (fun vs H Q E h => by obtain ⟨c, d, rfl, _⟩ := h; rfl) (fun cdv A outer s0 H vs Q E hr h => ?_)
  obtain ⟨c, d, rfl, hd, k⟩ := h
  refine ⟨_, (pss_cons (ps_set (i := 2) sc_law_sample.nd rfl (Or.inl rfl) (pe_op op_shl pe_int (pe_op op_sub (pv 1) pe_int)))
      (pss_one (ps_ret (pe_op op_sub (pe_op op_mod (pe_callTy call_int1 (by rfl) T.m_int PyProof.Rows.boot_int (pa_cons (pv 0) pa_nil)) (pe_op op_mul pe_int (pv 2))) (pv 2))))), ?_⟩
  have hp := p2pos (d - 1)
  refine q_asg (ev_pw1 (ev_var rfl) hd) fun H1 e1 => ?_
  exact s_ret (v := .int (smp d c)) (ev_I0 (ev_I (ev_int1 (ev_var rfl)) (ev_I ev_c (ev_var rfl) (.inl (by decide))) (by show (0 : Int) < _; omega)) (ev_var rfl)) fun H2 e2 => k.go (e1.trans e2)
theorem ev_sample {σ : L2.St} {H : Hp} {t1 t2 : TE} {E : XK} {c : Int} {d : Nat} (h1 : Ev t1 σ H (.int c)) (h2 : Ev t2 σ H (.int (d : Int))) (hd : 1 ≤ d ∧ d ≤ 1000) : Ev (tCall sp_sample [] E (tCons t1 (tCons t2 tNil))) σ H (.int (smp d c)) := ev_call (ea_cons h1 (ea_cons h2 ea_nil)) fun H1 _ Q q _ => ⟨c, d, rfl, hd, q⟩
def sp_isint : Sp := fun vs H Q _ => ∃ n : Int, vs = [.int n] ∧ RetV (.bl true) H Q
theorem ok_law_is_integer (T : TX K mg) : FnOk P w K mg base CX0 1 T.a_law_is_integer T.d_law_is_integer ["actual"] sp_isint := by
  refine T.F_law_is_integer.ok sc_law_is_integer (fun vs H Q E h => by obtain ⟨n, rfl, _⟩ := h; rfl) (fun cdv A outer s H vs Q E hr h => ?_)
  obtain ⟨n, rfl, k⟩ := h
  refine ⟨_, (pss_one (ps_ret (pe_and (pe_callB (r := rIsi K) call_isi (by rfl) T.m_isinstance PyProof.Rows.boot_isinstance (pa_cons (pv 0) (pa_cons (pe_bltn (v := V.ty "int") (by rfl) T.m_int PyProof.Rows.boot_int rfl) pa_nil))) (pe_one (pe_not (pe_callB (r := rIsi K) call_isi (by rfl) T.m_isinstance PyProof.Rows.boot_isinstance (pa_cons (pv 0) (pa_cons (pe_bltn (v := V.ty "bool") (by rfl) T.m_bool PyProof.Rows.boot_bool rfl) pa_nil)))))))), ?_⟩
  walk_at "ret"
  intro H2 e2
  exact ret_eq k e2 rfl
theorem ev_isint {σ : L2.St} {H : Hp} {te : TE} {E : XK} {n : Int} (h : Ev te σ H (.int n)) : Ev (tCall sp_isint [] E (tCons te tNil)) σ H (.bl true) := ev_call (ea_cons h ea_nil) fun H1 _ Q q _ => ⟨n, rfl, q⟩

def sp_ints : Sp := fun vs H Q _ => ∃ (a : Addr) (ns : List Int), vs = [.ref a] ∧ H a = some (.lst (ns.map V.int)) ∧ RetV (.bl true) H Q
theorem ok_law_integers (T : TX K mg) : FnOk P w K mg base CX0 2 T.a_law_integers T.d_law_integers ["actual"] sp_ints := by
  refine T.F_law_integers.ok sc_law_integers (fun vs H Q E h => by obtain ⟨a, ns, rfl, _⟩ := h; rfl) (fun cdv A outer s0 H vs Q E hr h => ?_)
  obtain ⟨a, ns, rfl, hA, k⟩ := h
  refine ⟨_, (pss_cons (ps_if (pt_not (pt_val (pe_callB (r := rIsi K) call_isi (by rfl) T.m_isinstance PyProof.Rows.boot_isinstance (pa_cons (pv 0) (pa_cons (pe_bltn (v := V.ty "list") (by rfl) T.m_list PyProof.Rows.boot_list rfl) pa_nil))))) (pss_one (ps_ret pe_bl)) pss_nil)
      (pss_cons (ps_for PassesOwn.never rfl (pi_list (pv 0)) (pg_name (i := 1) sc_law_integers.nd rfl (Or.inl rfl)) (pss_one (ps_if (pt_not (pt_val (pe_call (ok_law_is_integer T) (hr.mono (by decide)) (by rfl) T.g_law_is_integer T.F_law_is_integer.kp T.b_law_is_integer .nil pass0 (pa_cons (pv 1) pa_nil)))) (pss_one (ps_ret pe_bl)) pss_nil)))
      (pss_one (ps_ret pe_bl)))), ?_⟩
  walk_at "when"
  · intro hb
    exact absurd hb (by simp)
  intro _ H1 e1
  refine q_forLn (K := K) (a := a) (ev_var rfl) (sq_of (e1 _ _ hA)) (fun i σ' H' => ∃ z, σ' = [some (.ref a), z] ∧ Ex H H') (fun H2 e2 => ⟨none, rfl, e1.trans e2⟩) (fun i σ' H' _ h => by obtain ⟨_, _, ex⟩ := h; exact sq_of (ex _ _ hA)) ?_ ?_
  · rintro i x σ' H' hx ⟨z, rfl, ex⟩
    obtain ⟨n, hn, hi, rfl⟩ := int_at hx
    refine s_when (b := false) (et_is (et_not (et_B (ev_isint (ev_var rfl)))) rfl) (fun hb => by cases hb) fun _ H2 e2 => ⟨_, rfl, ex.trans e2⟩
  · rintro σ' H' ⟨z, rfl, ex⟩
    exact s_ret (v := .bl true) ev_c fun H2 e2 => k.go (ex.trans e2)
theorem ev_ints {σ : L2.St} {H : Hp} {te : TE} {E : XK} {ns : List Int} (h : EvR te σ H (ns.map V.int)) : Ev (tCall sp_ints [] E (tCons te tNil)) σ H (.bl true) := fun H1 e Q q =>
  h H1 e _ fun p H2 e2 hp => ⟨p, ns, rfl, hp, fun H3 e3 => q H3 (e2.trans e3)⟩
theorem ev_isiT {σ : L2.St} {H : Hp} {ta : TE} {a : Addr} {xs : List V} (ha : Ev ta σ H (.ref a)) (h : H a = some (.tup xs)) : Ev (tCB (rIsi K) (tCons ta (tCons (tC (.ty "tuple")) tNil))) σ H (.bl true) := ev_isi ha (isi_tup h) kit_tt
theorem ev_lenT {σ : L2.St} {H : Hp} {ta : TE} {a : Addr} {xs : List V} (ha : Ev ta σ H (.ref a)) (h : H a = some (.tup xs)) : Ev (tCB (rLenS K) (tCons ta tNil)) σ H (.int (xs.length : Int)) := fun H1 e Q q =>
  ha H1 e _ fun H2 e2 => ⟨a, xs, rfl, .inr (st_of ((e.trans e2) _ _ h)), q H2 e2⟩
def PairAt (H : Hp) (p a b : Addr) (xs ys : List Int) : Prop := H p = some (.tup [.ref a, .ref b]) ∧ H a = some (.lst (xs.map V.int)) ∧ H b = some (.lst (ys.map V.int))
theorem PairAt.ex {H H' : Hp} {p a b : Addr} {xs ys : List Int} (h : PairAt H p a b xs ys) (e : Ex H H') : PairAt H' p a b xs ys := ⟨e _ _ h.1, e _ _ h.2.1, e _ _ h.2.2⟩
theorem PairAt.a {σ : L2.St} {H : Hp} {te : TE} {p a b : Addr} {xs ys : List Int} (h : PairAt H p a b xs ys) (ht : Ev te σ H (.ref p)) : Ev (tOp (rIxT K) te (tC (.int 0))) σ H (.ref a) := ev_atT ht (st_of h.1) ev_c (at_of (j := 0) rfl rfl)
theorem PairAt.b {σ : L2.St} {H : Hp} {te : TE} {p a b : Addr} {xs ys : List Int} (h : PairAt H p a b xs ys) (ht : Ev te σ H (.ref p)) : Ev (tOp (rIxT K) te (tC (.int 1))) σ H (.ref b) := ev_atT ht (st_of h.1) ev_c (at_of (j := 1) rfl rfl)
def pairD (xs ys : List Int) : PyData := .tuple [.list (xs.map .int), .list (ys.map .int)]
theorem PairAt.d {H : Hp} {p a b : Addr} {xs ys : List Int} (h : PairAt H p a b xs ys) : Dp K H (.ref p) (pairD xs ys) := .tup (st_of h.1) (.cons (.lst (sq_of h.2.1) (dp_ints _)) (.cons (.lst (sq_of h.2.2) (dp_ints _)) .nil))
def sp_lpair : Sp := fun vs H Q _ => ∃ (p a b : Addr) (xs ys : List Int), vs = [.ref p] ∧ PairAt H p a b xs ys ∧ RetV (.bl true) H Q
theorem ok_law_pair (T : TX K mg) : FnOk P w K mg base CX0 3 T.a_law_pair T.d_law_pair ["actual"] sp_lpair := by
  refine T.F_law_pair.ok sc_law_pair (fun vs H Q E h => by obtain ⟨p, a, b, xs, ys, rfl, _⟩ := h; rfl) (fun cdv A outer s0 H vs Q E hr h => ?_)
  obtain ⟨p, a, b, xs, ys, rfl, hP, k⟩ := h
  refine ⟨_, (pss_cons (ps_if (PW.pt (pw_or (pt_not (pt_val (pe_callB (r := rIsi K) call_isi (by rfl) T.m_isinstance PyProof.Rows.boot_isinstance (pa_cons (pv 0) (pa_cons (pe_bltn (v := V.ty "tuple") (by rfl) T.m_tuple PyProof.Rows.boot_tuple rfl) pa_nil))))) (pw_or1 (pt_cmpR op_ne (pe_callB (r := rLenS K) call_len_seq (by rfl) T.m_len PySem.boot_len (pa_cons (pv 0) pa_nil)) pe_int (nomark _))))) (pss_one (ps_ret pe_bl)) pss_nil)
      (pss_one (ps_ret (pe_and (pe_call (ok_law_integers T) (hr.mono (by decide)) (by rfl) T.g_law_integers T.F_law_integers.kp T.b_law_integers .nil pass0 (pa_cons (pe_ix (r := rIxT K) ix_tup (pv 0) pe_int (fun _ _ => rfl)) pa_nil)) (pe_one (pe_call (ok_law_integers T) (hr.mono (by decide)) (by rfl) T.g_law_integers T.F_law_integers.kp T.b_law_integers .nil pass0 (pa_cons (pe_ix (r := rIxT K) ix_tup (pv 0) pe_int (fun _ _ => rfl)) pa_nil))))))), ?_⟩
  refine q_when (b := false) (et_is (et_or (a := false) (b := false) (et_is (et_not (et_B (ev_isiT (ev_var rfl) hP.1))) rfl) fun _ => et_is (et_test (ev_ne (ev_lenT (ev_var rfl) hP.1) ev_c rfl)) rfl) rfl) (fun hb => by cases hb) fun _ H1 e1 => ?_
  have hP1 := hP.ex e1
  exact s_ret (v := .bl true) (ev_is (ev_andV (ev_ints (Ev.r (hP1.a (ev_var rfl)) hP1.2.1)) fun _ => ev_ints (Ev.r (hP1.b (ev_var rfl)) hP1.2.2)) rfl) fun H2 e2 => k.go (e1.trans e2)
theorem ev_lpair {σ : L2.St} {H : Hp} {te : TE} {E : XK} {p a b : Addr} {xs ys : List Int} (h : Ev te σ H (.ref p)) (hP : PairAt H p a b xs ys) : Ev (tCall sp_lpair [] E (tCons te tNil)) σ H (.bl true) := ev_call (ea_cons h ea_nil) fun H1 e Q q _ => ⟨p, a, b, xs, ys, rfl, hP.ex e, q⟩
def sp_lrows (K : PySem.W.Frag) : Sp := fun vs H Q _ => ∃ (m : Nat) (a b : Addr) (ls rs : List Int), vs = [.str (asg m), .ref a, .ref b] ∧ m < 4 ∧ SqL K H a (ls.map V.int) ∧ SqL K H b (rs.map V.int) ∧ rs.length = ls.length ∧ ls.length ≤ 1000 ∧ RetP (rowA m ls rs) (rowB m ls rs) H Q
theorem ok_law_rows (T : TX K mg) : FnOk P w K mg base CX0 1 T.a_law_rows T.d_law_rows ["assignment", "left", "right"] (sp_lrows K) := by
  refine T.F_law_rows.ok sc_law_rows (fun vs H Q E h => by obtain ⟨m, a, b, ls, rs, rfl, _⟩ := h; rfl) (fun cdv A outer s0 H vs Q E hr h => ?_)
  obtain ⟨m, a, b, ls, rs, rfl, hm, hA, hB, hrl, hl, k⟩ := h
  refine ⟨_, (pss_cons (ps_setLc (i := 3) (own := [("k", 4)]) (g := gName 4) (tt := tYes) rfl sc_law_rows.nd rfl rfl (sw_true rfl rfl rfl (by decide +kernel)) (pi_range1 (by rfl) T.m_range (pa_cons (pe_callB (r := rLenS K) call_len_seq (by rfl) T.m_len PySem.boot_len (pa_cons (pv 1) pa_nil)) pa_nil)) (blkOk_by (N := ["assignment", "left", "right", "side", "k"]) (sc := defScope s_law_rows) (by decide +kernel)) (fun _ _ _ _ _ => pg_name (i := 4) sc_law_rows.nd rfl (Or.inl rfl)) (fun _ _ _ _ _ => pts_nil) (fun _ _ _ _ _ => (pe_op op_sub (pe_ix (r := rIxL K) ix_list (pv 1) (pv 4) (fun _ _ => rfl)) (pe_ix (r := rIxL K) ix_list (pv 2) (pv 4) (fun _ _ => rfl)))))
      (pss_cons (ps_if (pt_cmpR op_eq (pv 0) pe_str (nomark _)) (pss_one (ps_ret (pe_tup (pa_cons (pe_callTy (r := rListS K) call_list_of (by rfl) T.m_list PyProof.Rows.boot_list (pa_cons (pv 1) pa_nil)) (pa_cons (pv 3) pa_nil))))) pss_nil)
      (pss_cons (ps_if (pt_cmpR op_eq (pv 0) pe_str (nomark _)) (pss_one (ps_ret (pe_tup (pa_cons (pv 3) (pa_cons (pe_callTy (r := rListS K) call_list_of (by rfl) T.m_list PyProof.Rows.boot_list (pa_cons (pv 2) pa_nil)) pa_nil))))) pss_nil)
      (pss_cons (ps_if (pt_cmpR op_eq (pv 0) pe_str (nomark _)) (pss_one (ps_ret (pe_tup (pa_cons (pe_lc (own := [("k", 4)]) (g := gName 4) (tt := tYes) rfl sc_law_rows.nd (pi_range1 (by rfl) T.m_range (pa_cons (pe_callB (r := rLenS K) call_len_seq (by rfl) T.m_len PySem.boot_len (pa_cons (pv 1) pa_nil)) pa_nil)) (blkOk_by (N := ["assignment", "left", "right", "side", "k"]) (sc := defScope s_law_rows) (by decide +kernel)) (fun _ _ _ _ _ => pg_name (i := 4) sc_law_rows.nd rfl (Or.inl rfl)) (fun _ _ _ _ _ => pts_nil) (fun _ _ _ _ _ => (pe_op op_fdiv (pe_op op_add (pe_ix (r := rIxL K) ix_list (pv 1) (pv 4) (fun _ _ => rfl)) (pe_ix (r := rIxL K) ix_list (pv 2) (pv 4) (fun _ _ => rfl))) pe_int))) (pa_cons (pv 3) pa_nil))))) pss_nil)
      (pss_one (ps_ret (pe_tup (pa_cons (pe_callTy (r := rListS K) call_list_of (by rfl) T.m_list PyProof.Rows.boot_list (pa_cons (pv 1) pa_nil)) (pa_cons (pe_callTy (r := rListS K) call_list_of (by rfl) T.m_list PyProof.Rows.boot_list (pa_cons (pv 2) pa_nil)) pa_nil))))))))), ?_⟩
  have hsl := sideL_len hrl
  have hml := midL_len hrl
  have hlen : ∀ (xs : List Int), (xs.map V.int).length = xs.length := fun xs => List.length_map ..
  have side : ∀ (i : Nat), i < ls.length → (sideL ls rs)[i]? = some (ls.getD i 0 - rs.getD i 0) := fun i hi => by unfold sideL; rw [List.getElem?_zipWith, gl_get hi, gl_get (by omega)]
  have mid : ∀ (i : Nat), i < ls.length → (midL ls rs)[i]? = some ((ls.getD i 0 + rs.getD i 0) / 2) := fun i hi => by unfold midL; rw [List.getElem?_zipWith, gl_get hi, gl_get (by omega)]
  refine q_asgL (xs := (sideL ls rs).map V.int) (el_lcR (n := (ls.length : Int)) _ (ea_cons (Ev.is (ev_lenS (Ev.s (ev_var rfl) hA)) (by rw [hlen])) ea_nil) (by omega) (by rw [List.length_map]; omega) (by rw [List.length_map]; omega) (fun _ => rfl) fun i H1 e1 hi => ?_) fun ps H1 hps e1 g1 => ?_
  · rw [List.length_map, hsl] at hi
    exact ⟨_, at_int (side i hi), ev_I0 (ev_ixS (i := 0) (n := (i : Int)) (Ev.s (ev_var rfl) (ex_l e1 hA)) (ev_var rfl) (at_of (j := i) rfl (at_int (gl_get hi)))) (ev_ixS (i := 0) (n := (i : Int)) (Ev.s (ev_var rfl) (ex_l e1 hB)) (ev_var rfl) (at_of (j := i) rfl (at_int (gl_get (by omega)))))⟩
  have two : ∀ {σ : L2.St} {H2 : Hp} {D : Ends} {t1 t2 : TE} {xs ys : List Int} {b : Addr}, Ex H H2 → H b = none → EvL t1 σ H2 (xs.map V.int) → (∀ H3, Ex H2 H3 → Ev t2 σ H3 (.ref b)) → H2 b = some (.lst (ys.map V.int)) → RetP xs ys H D.rt → tRet (tTup (tCons t1 (tCons t2 tNil))) D σ H2 := fun {σ H2 D t1 t2 xs ys b} ex hb h1 h2 g k =>
    h1 H2 (Ex.refl _) _ fun a H3 ha e3 g3 => h2 H3 e3 H3 (Ex.refl _) _ fun H4 e4 => ⟨sz_of (show 2 ≤ 100000 by decide), fun p hp => k p a b _ (fresh_back (ex.trans (e3.trans e4)) hp) (fresh_back ex ha) hb ((ex.trans (e3.trans e4)).trans (Ex.new hp)) upd_same ((e4.trans (Ex.new hp)) _ _ g3) (((e3.trans e4).trans (Ex.new hp)) _ _ g)⟩
  have two2 : ∀ {σ : L2.St} {H2 : Hp} {D : Ends} {t1 t2 : TE} {xs ys : List Int} {a : Addr}, Ex H H2 → H a = none → (∀ H3, Ex H2 H3 → Ev t1 σ H3 (.ref a)) → H2 a = some (.lst (xs.map V.int)) → (∀ H3, Ex H2 H3 → EvL t2 σ H3 (ys.map V.int)) → RetP xs ys H D.rt → tRet (tTup (tCons t1 (tCons t2 tNil))) D σ H2 := fun {σ H2 D t1 t2 xs ys a} ex ha h1 g h2 k =>
    h1 H2 (Ex.refl _) H2 (Ex.refl _) _ fun H3 e3 => h2 H3 e3 H3 (Ex.refl _) _ fun b H4 hb e4 g4 => ⟨sz_of (show 2 ≤ 100000 by decide), fun p hp => k p a b _ (fresh_back (ex.trans (e3.trans e4)) hp) ha (fresh_back (ex.trans e3) hb) ((ex.trans (e3.trans e4)).trans (Ex.new hp)) upd_same (((e3.trans e4).trans (Ex.new hp)) _ _ g) ((Ex.new hp) _ _ g4)⟩
  rcases four hm with rfl | rfl | rfl | rfl
  · refine q_when (b := false) (ev_asg (m := 0) "left-side" false (ev_var rfl) (by decide)) (fun hb => by cases hb) fun _ H2 e2 => ?_
    refine q_when (b := false) (ev_asg (m := 0) "side-right" false (ev_var rfl) (by decide)) (fun hb => by cases hb) fun _ H3 e3 => ?_
    refine q_when (b := false) (ev_asg (m := 0) "mid-side" false (ev_var rfl) (by decide)) (fun hb => by cases hb) fun _ H4 e4 => ?_
    have e13 := (e1.trans e2).trans (e3.trans e4)
    exact s_retP (el_of (Ev.s (ev_var rfl) (ex_l e13 hA))) (el_of (Ev.s (ev_var rfl) (ex_l e13 hB))) (k.mono e13)
  · refine q_when (b := true) (ev_asg (m := 1) "left-side" true (ev_var rfl) (by decide)) (fun _ H2 e2 => ?_) (fun hb => by cases hb)
    exact two (e1.trans e2) hps (el_of (Ev.s (ev_var rfl) (ex_l (e1.trans e2) hA))) (fun _ _ => ev_var rfl) (e2 _ _ g1) k
  · refine q_when (b := false) (ev_asg (m := 2) "left-side" false (ev_var rfl) (by decide)) (fun hb => by cases hb) fun _ H2 e2 => ?_
    refine q_when (b := true) (ev_asg (m := 2) "side-right" true (ev_var rfl) (by decide)) (fun _ H3 e3 => ?_) (fun hb => by cases hb)
    have e13 := (e1.trans e2).trans e3
    exact two2 e13 hps (fun _ _ => ev_var rfl) ((e2.trans e3) _ _ g1) (fun H4 e4 => el_of (Ev.s (ev_var rfl) (ex_l (e13.trans e4) hB))) k
  · refine q_when (b := false) (ev_asg (m := 3) "left-side" false (ev_var rfl) (by decide)) (fun hb => by cases hb) fun _ H2 e2 => ?_
    refine q_when (b := false) (ev_asg (m := 3) "side-right" false (ev_var rfl) (by decide)) (fun hb => by cases hb) fun _ H3 e3 => ?_
    refine q_when (b := true) (ev_asg (m := 3) "mid-side" true (ev_var rfl) (by decide)) (fun _ H4 e4 => ?_) (fun hb => by cases hb)
    have e24 := (e2.trans e3).trans e4
    have e14 := e1.trans e24
    refine two e14 hps (xs := midL ls rs) (el_lcR (n := (ls.length : Int)) _ (ea_cons (Ev.is (ev_lenS (Ev.s (ev_var rfl) (ex_l e14 hA))) (by rw [hlen])) ea_nil) (by omega) (by rw [List.length_map]; omega) (by rw [List.length_map]; omega) (fun _ => rfl) fun i H5 e5 hi => ?_) (fun _ _ => ev_var rfl) (e24 _ _ g1) k
    rw [List.length_map, hml] at hi
    exact ⟨_, at_int (mid i hi), ev_I (ev_I0 (ev_ixS (i := 0) (n := (i : Int)) (Ev.s (ev_var rfl) (ex_l (e14.trans e5) hA)) (ev_var rfl) (at_of (j := i) rfl (at_int (gl_get hi)))) (ev_ixS (i := 0) (n := (i : Int)) (Ev.s (ev_var rfl) (ex_l (e14.trans e5) hB)) (ev_var rfl) (at_of (j := i) rfl (at_int (gl_get (by omega)))))) ev_c ⟨by decide, by decide⟩⟩
theorem ed_lrows {σ : L2.St} {H : Hp} {t1 t2 t3 : TE} {E : XK} {m : Nat} {ls rs : List Int} (h1 : Ev t1 σ H (.str (asg m))) (h2 : EvS K t2 σ H (ls.map V.int)) (h3 : EvS K t3 σ H (rs.map V.int)) (hm : m < 4) (hrl : rs.length = ls.length) (hl : ls.length ≤ 1000) : EvD K (tCall (sp_lrows K) [] E (tCons t1 (tCons t2 (tCons t3 tNil)))) σ H (pairD (rowA m ls rs) (rowB m ls rs)) := fun H1 e Q q =>
  h1 H1 e _ fun H2 e2 => h2 H2 (e.trans e2) _ fun a H3 e3 ha => h3 H3 ((e.trans e2).trans e3) _ fun b H4 e4 hb => ⟨m, a, b, ls, rs, rfl, hm, ex_l e4 ha, hb, hrl, hl, fun p a' b' H5 hp ha' hb' e5 g1 g2 g3 => q (.ref p) H5 (((e2.trans e3).trans e4).trans e5) (PairAt.d (a := a') (b := b') ⟨g1, g2, g3⟩)⟩
def sp_ldepths : Sp := fun vs H Q _ => ∃ (m d : Nat), vs = [.str (asg m), .int (d : Int)] ∧ m < 4 ∧ RetL ([(depA m d : Int), (depB m d : Int)].map V.int) H Q
theorem ok_law_depths (T : TX K mg) : FnOk P w K mg base CX0 1 T.a_law_depths T.d_law_depths ["assignment", "depth"] sp_ldepths := by
  refine T.F_law_depths.ok sc_law_depths (fun vs H Q E h => by obtain ⟨m, d, rfl, _⟩ := h; rfl) (fun cdv A outer s0 H vs Q E hr h => ?_)
  obtain ⟨m, d, rfl, hm, k⟩ := h
  refine ⟨_, (pss_cons (ps_set (i := 2) sc_law_depths.nd rfl (Or.inl rfl) (pv 1))
      (pss_cons (ps_set (i := 3) sc_law_depths.nd rfl (Or.inl rfl) (pv 1))
      (pss_cons (ps_if (pt_cmpR op_eq (pv 0) pe_str (nomark _)) (pss_one (ps_set (i := 2) sc_law_depths.nd rfl (Or.inl rfl) (pe_op op_add (pv 1) pe_int))) pss_nil)
      (pss_cons (ps_if (PW.pt (pw_or (pt_cmpR op_eq (pv 0) pe_str (nomark _)) (pw_or1 (pt_cmpR op_eq (pv 0) pe_str (nomark _))))) (pss_one (ps_set (i := 3) sc_law_depths.nd rfl (Or.inl rfl) (pe_op op_add (pv 1) pe_int))) pss_nil)
      (pss_one (ps_ret (pe_lst (pa_cons (pv 2) (pa_cons (pv 3) pa_nil))))))))), ?_⟩
  refine q_asg (ev_var rfl) fun H1 e1 => q_asg (ev_var rfl) fun H2 e2 => ?_
  have e12 := e1.trans e2
  rcases four hm with rfl | rfl | rfl | rfl
  · refine q_when (b := false) (ev_asg (m := 0) "side-right" false (ev_var rfl) (by decide)) (fun hb => by cases hb) fun _ H3 e3 => ?_
    refine q_when (b := false) (et_is (et_or (a := false) (b := false) (ev_asg (m := 0) "left-side" false (ev_var rfl) (by decide)) fun _ => ev_asg (m := 0) "mid-side" false (ev_var rfl) (by decide)) rfl) (fun hb => by cases hb) fun _ H4 e4 => ?_
    exact s_retL (el_lst (ea_cons (ev_var rfl) (ea_cons (ev_var rfl) ea_nil)) (Nat.le_of_ble_eq_true rfl)) fun p H5 hp e5 g5 => k.go (e12.trans (e3.trans e4)) hp e5 g5
  · refine q_when (b := false) (ev_asg (m := 1) "side-right" false (ev_var rfl) (by decide)) (fun hb => by cases hb) fun _ H3 e3 => ?_
    refine q_when (b := true) (et_is (et_or (a := true) (b := true) (ev_asg (m := 1) "left-side" true (ev_var rfl) (by decide)) fun h => by cases h) rfl) (fun _ H4 e4 => ?_) (fun hb => by cases hb)
    refine s_asg (ev_I0 (ev_var rfl) ev_c) fun H5 e5 => ?_
    exact s_retL (el_lst (ea_cons (ev_var rfl) (ea_cons (ev_var rfl) ea_nil)) (Nat.le_of_ble_eq_true rfl)) fun p H6 hp e6 g6 => k.go ((e12.trans (e3.trans e4)).trans e5) hp e6 g6
  · refine q_when (b := true) (ev_asg (m := 2) "side-right" true (ev_var rfl) (by decide)) (fun _ H3 e3 => ?_) (fun hb => by cases hb)
    refine s_asg (ev_I0 (ev_var rfl) ev_c) fun H5 e5 => ?_
    refine q_when (b := false) (et_is (et_or (a := false) (b := false) (ev_asg (m := 2) "left-side" false (ev_var rfl) (by decide)) fun _ => ev_asg (m := 2) "mid-side" false (ev_var rfl) (by decide)) rfl) (fun hb => by cases hb) fun _ H4 e4 => ?_
    exact s_retL (el_lst (ea_cons (ev_var rfl) (ea_cons (ev_var rfl) ea_nil)) (Nat.le_of_ble_eq_true rfl)) fun p H6 hp e6 g6 => k.go ((e12.trans (e3.trans e5)).trans e4) hp e6 g6
  · refine q_when (b := false) (ev_asg (m := 3) "side-right" false (ev_var rfl) (by decide)) (fun hb => by cases hb) fun _ H3 e3 => ?_
    refine q_when (b := true) (et_is (et_or (a := false) (b := true) (ev_asg (m := 3) "left-side" false (ev_var rfl) (by decide)) fun _ => ev_asg (m := 3) "mid-side" true (ev_var rfl) (by decide)) rfl) (fun _ H4 e4 => ?_) (fun hb => by cases hb)
    refine s_asg (ev_I0 (ev_var rfl) ev_c) fun H5 e5 => ?_
    exact s_retL (el_lst (ea_cons (ev_var rfl) (ea_cons (ev_var rfl) ea_nil)) (Nat.le_of_ble_eq_true rfl)) fun p H6 hp e6 g6 => k.go ((e12.trans (e3.trans e4)).trans e5) hp e6 g6
def sp_within (K : PySem.W.Frag) : Sp := fun vs H Q _ => ∃ (a : Addr) (ns : List Int) (d : Nat), vs = [.ref a, .int (d : Int)] ∧ SqL K H a (ns.map V.int) ∧ (1 ≤ d ∧ d ≤ 1000) ∧ (∀ v ∈ ns, inR d v) ∧ RetV (.bl true) H Q
theorem ok_law_within (T : TX K mg) : FnOk P w K mg base CX0 1 T.a_law_within T.d_law_within ["row", "depth"] (sp_within K) := by
  refine T.F_law_within.ok sc_law_within (fun vs H Q E h => by obtain ⟨a, ns, d, rfl, _⟩ := h; rfl) (fun cdv A outer s0 H vs Q E hr h => ?_)
  obtain ⟨a, ns, d, rfl, hS, hd, hin, k⟩ := h
  refine ⟨_, (pss_cons (ps_set (i := 2) sc_law_within.nd rfl (Or.inl rfl) (pe_op op_shl pe_int (pe_op op_sub (pv 1) pe_int)))
      (pss_cons (ps_for PassesOwn.never rfl (pi_list (pv 0)) (pg_name (i := 3) sc_law_within.nd rfl (Or.inl rfl)) (pss_one (ps_if (PW.pt (pw_or (pt_cmpR op_lt (pv 3) (pe_un un_neg (pv 2)) (nomark _)) (pw_or1 (pt_cmpR op_ge (pv 3) (pv 2) (nomark _))))) (pss_one (ps_ret pe_bl)) pss_nil)))
      (pss_one (ps_ret pe_bl)))), ?_⟩
  refine q_asg (ev_pw1 (ev_var rfl) hd) fun H1 e1 => ?_
  refine q_forLn (K := K) (a := a) (ev_var rfl) (ex_l e1 hS) (fun i σ' H' => ∃ z, σ' = [some (.ref a), some (.int (d : Int)), some (.int (2 ^ (d - 1))), z] ∧ Ex H H') (fun H2 e2 => ⟨none, rfl, e1.trans e2⟩) (fun i σ' H' _ h => by obtain ⟨_, _, ex⟩ := h; exact ex_l ex hS) ?_ ?_
  · rintro i x σ' H' hx ⟨z, rfl, ex⟩
    obtain ⟨n, hn, hi, rfl⟩ := int_at hx
    have hn := hin n (List.mem_of_getElem? hn)
    unfold inR at hn
    refine s_when (b := false) (et_is (et_or (a := false) (b := false) (et_is (et_test (ev_I0 (ev_var rfl) (ev_negI (ev_var rfl)))) (decide_eq_false (by omega))) fun _ => et_is (et_test (ev_I0 (ev_var rfl) (ev_var rfl))) (decide_eq_false (by omega))) rfl) (fun hb => by cases hb) fun _ H2 e2 => ⟨_, rfl, ex.trans e2⟩
  · rintro σ' H' ⟨z, rfl, ex⟩
    exact s_ret (v := .bl true) ev_c fun H2 e2 => k.go (ex.trans e2)
theorem ev_within {σ : L2.St} {H : Hp} {t1 t2 : TE} {E : XK} {ns : List Int} {d : Nat} (h1 : EvS K t1 σ H (ns.map V.int)) (h2 : Ev t2 σ H (.int (d : Int))) (hd : 1 ≤ d ∧ d ≤ 1000) (hin : ∀ v ∈ ns, inR d v) : Ev (tCall (sp_within K) [] E (tCons t1 (tCons t2 tNil))) σ H (.bl true) := fun H1 e Q q =>
  h1 H1 e _ fun a H2 e2 ha => h2 H2 (e.trans e2) _ fun H3 e3 => ⟨a, ns, d, rfl, ex_l e3 ha, hd, hin, fun H4 e4 => q H4 ((e2.trans e3).trans e4)⟩
theorem rows_in {m d : Nat} {ls rs : List Int} (hd : 1 ≤ d) (h1 : ∀ v ∈ ls, inR d v) (h2 : ∀ v ∈ rs, inR d v) (hm : m < 4) : (∀ v ∈ rowA m ls rs, inR (depA m d) v) ∧ ∀ v ∈ rowB m ls rs, inR (depB m d) v := by
  have hs : ∀ v ∈ sideL ls rs, inR (d + 1) v := fun v hv => by
    obtain ⟨i, hi⟩ := List.mem_iff_getElem?.mp hv
    unfold sideL at hi
    rw [List.getElem?_zipWith] at hi
    split at hi
    · rename_i a b ha hb
      have := h1 a (List.mem_of_getElem? ha)
      have := h2 b (List.mem_of_getElem? hb)
      cases hi
      unfold inR at *
      have e : (2 : Int) ^ (d + 1 - 1) = 2 * 2 ^ (d - 1) := by rw [show d + 1 - 1 = (d - 1) + 1 by omega, Int.pow_succ, Int.mul_comm]
      rw [e]
      omega
    · cases hi
  have hq : ∀ v ∈ midL ls rs, inR d v := fun v hv => by
    obtain ⟨i, hi⟩ := List.mem_iff_getElem?.mp hv
    unfold midL at hi
    rw [List.getElem?_zipWith] at hi
    split at hi
    · rename_i a b ha hb
      have := h1 a (List.mem_of_getElem? ha)
      have := h2 b (List.mem_of_getElem? hb)
      cases hi
      unfold inR at *
      omega
    · cases hi
  rcases four hm with rfl | rfl | rfl | rfl
  · exact ⟨h1, h2⟩
  · exact ⟨h1, hs⟩
  · exact ⟨hs, h2⟩
  · exact ⟨hq, hs⟩

theorem q_asgP {σ : L2.St} {H : Hp} {D : Ends} {tz : TS} {i : Nat} {t1 t2 : TE} {xs ys : List Int} (h1 : EvL t1 σ H (xs.map V.int)) (h2 : EvL t2 σ H (ys.map V.int)) (k : ∀ p a b H2, Ex H H2 → PairAt H2 p a b xs ys → tz D (σ.set i (some (.ref p))) H2) : tSeq (tAsg (tTup (tCons t1 (tCons t2 tNil))) (gName i)) tz D σ H :=
  h1 H (Ex.refl H) _ fun a H1 ha e1 g1 => h2 H1 e1 _ fun b H2 hb e2 g2 => ⟨sz_of (show 2 ≤ 100000 by decide), fun p hp => k p a b _ ((e1.trans e2).trans (Ex.new hp)) ⟨upd_same, (e2.trans (Ex.new hp)) _ _ g1, (Ex.new hp) _ _ g2⟩⟩
def sp_law (K : PySem.W.Frag) : Sp := fun vs H Q _ => ∃ (a : Addr) (ns : List Int), vs = [.ref a] ∧ SqL K H a (ns.map V.int) ∧ ns.length ≤ 63 ∧ ∀ H', Q (.bl true) H'
theorem ok_law (T : TX K mg) : FnOk P w K mg base CX0 4 T.a_law T.d_law ["script"] (sp_law K) := by
  refine T.F_law.ok sc_law (fun vs H Q E h => by obtain ⟨a, ns, rfl, _⟩ := h; rfl) (fun cdv A outer s H vs Q E hr h => ?_)
  obtain ⟨a, ns, rfl, hS, hlen, k⟩ := h
  refine ⟨_, (pss_cons (ps_set (i := 1) sc_law.nd rfl (Or.inl rfl) (pe_call (ok_law_cell T) (hr.mono (by decide)) (by rfl) T.g_law_cell T.F_law_cell.kp T.b_law_cell .nil pass0 (pa_cons (pv 0) (pa_cons pe_int pa_nil))))
      (pss_cons (ps_set (i := 2) sc_law.nd rfl (Or.inl rfl) (pe_ix (r := rIxL K) ix_list (pe_lst (pa_cons pe_str (pa_cons pe_str (pa_cons pe_str (pa_cons pe_str pa_nil))))) (pe_op op_mod (pv 1) pe_int) (fun _ _ => rfl)))
      (pss_cons (ps_set (i := 3) sc_law.nd rfl (Or.inr rfl) (pe_op op_add pe_int (pe_op op_mod (pe_op op_fdivW (pv 1) pe_int) pe_int)))
      (pss_cons (ps_setLc (i := 4) (own := [("k", 12)]) (g := gName 12) (tt := tYes) rfl sc_law.nd rfl rfl (sw_true rfl rfl rfl (by decide +kernel)) (pi_range2 (by rfl) T.m_range (pa_cons pe_int (pa_cons (pe_callB (r := rLenS K) call_len_seq (by rfl) T.m_len PySem.boot_len (pa_cons (pv 0) pa_nil)) pa_nil))) (blkOk_by (N := ["script", "cell", "assignment", "depth", "left", "right", "given", "rows", "depths", "handed", "back", "count", "k"]) (sc := defScope s_law) (by decide +kernel)) (fun _ _ _ _ _ => pg_name (i := 12) sc_law.nd rfl (Or.inl rfl)) (fun _ _ _ _ _ => pts_nil) (fun _ _ _ _ _ => (pe_call (ok_law_sample T) (hr.mono (by decide)) (by rfl) T.g_law_sample T.F_law_sample.kp T.b_law_sample .nil pass0 (pa_cons (pe_ix (r := rIxL K) ix_list (pv 0) (pv 12) (fun _ _ => rfl)) (pa_cons (pv 3) pa_nil)))))
      (pss_cons (ps_setLc (i := 5) (own := [("k", 12)]) (g := gName 12) (tt := tYes) rfl sc_law.nd rfl rfl (sw_true rfl rfl rfl (by decide +kernel)) (pi_range2 (by rfl) T.m_range (pa_cons pe_int (pa_cons (pe_callB (r := rLenS K) call_len_seq (by rfl) T.m_len PySem.boot_len (pa_cons (pv 0) pa_nil)) pa_nil))) (blkOk_by (N := ["script", "cell", "assignment", "depth", "left", "right", "given", "rows", "depths", "handed", "back", "count", "k"]) (sc := defScope s_law) (by decide +kernel)) (fun _ _ _ _ _ => pg_name (i := 12) sc_law.nd rfl (Or.inl rfl)) (fun _ _ _ _ _ => pts_nil) (fun _ _ _ _ _ => (pe_call (ok_law_sample T) (hr.mono (by decide)) (by rfl) T.g_law_sample T.F_law_sample.kp T.b_law_sample .nil pass0 (pa_cons (pe_op op_fdivW (pe_callTy call_int1 (by rfl) T.m_int PyProof.Rows.boot_int (pa_cons (pe_ix (r := rIxL K) ix_list (pv 0) (pv 12) (fun _ _ => rfl)) pa_nil)) (pe_op op_shl pe_int (pv 3))) (pa_cons (pv 3) pa_nil)))))
      (pss_cut (ps_if (pt_cmpR op_eq (pe_op op_mod (pe_op op_fdivW (pv 1) pe_int) pe_int) pe_int (nomark _)) (pss_one (ps_set (i := 5) sc_law.nd rfl (Or.inl rfl) (pe_callTy (r := rListS K) call_list_of (by rfl) T.m_list PyProof.Rows.boot_list (pa_cons (pv 4) pa_nil)))) pss_nil)
      (pss_cons (ps_set (i := 6) sc_law.nd rfl (Or.inl rfl) (pe_tup (pa_cons (pe_callTy (r := rListS K) call_list_of (by rfl) T.m_list PyProof.Rows.boot_list (pa_cons (pv 4) pa_nil)) (pa_cons (pe_callTy (r := rListS K) call_list_of (by rfl) T.m_list PyProof.Rows.boot_list (pa_cons (pv 5) pa_nil)) pa_nil))))
      (pss_cons (ps_set (i := 7) sc_law.nd rfl (Or.inl rfl) (pe_call (ok_split T) (hr.mono (by decide)) (by rfl) T.g_split T.F_split.kp T.b_split .nil pass0 (pa_cons (pv 2) (pa_cons (pe_ix (r := rIxT K) ix_tup (pv 6) pe_int (fun _ _ => rfl)) (pa_cons (pe_ix (r := rIxT K) ix_tup (pv 6) pe_int (fun _ _ => rfl)) pa_nil)))))
      (pss_cons (ps_if (PW.pt (pw_or (pt_not (pt_val (pe_call (ok_law_pair T) (hr.mono (by decide)) (by rfl) T.g_law_pair T.F_law_pair.kp T.b_law_pair .nil pass0 (pa_cons (pv 7) pa_nil)))) (pw_or1 (pt_cmpR (op_neD (hu64 hr)) (pv 7) (pe_call (ok_law_rows T) (hr.mono (by decide)) (by rfl) T.g_law_rows T.F_law_rows.kp T.b_law_rows .nil pass0 (pa_cons (pv 2) (pa_cons (pv 4) (pa_cons (pv 5) pa_nil)))) (nomark _))))) (pss_one (ps_ret pe_bl)) pss_nil)
      (pss_cons (ps_set (i := 8) sc_law.nd rfl (Or.inl rfl) (pe_call (ok_row_depths T) (hr.mono (by decide)) (by rfl) T.g_row_depths T.F_row_depths.kp T.b_row_depths .nil pass0 (pa_cons (pv 2) (pa_cons (pv 3) (pa_cons pe_int pa_nil)))))
      (pss_cons (ps_if (PW.pt (pw_or (pt_not (pt_val (pe_call (ok_law_integers T) (hr.mono (by decide)) (by rfl) T.g_law_integers T.F_law_integers.kp T.b_law_integers .nil pass0 (pa_cons (pv 8) pa_nil)))) (pw_or1 (pt_cmpR (op_neD (hu64 hr)) (pv 8) (pe_call (ok_law_depths T) (hr.mono (by decide)) (by rfl) T.g_law_depths T.F_law_depths.kp T.b_law_depths .nil pass0 (pa_cons (pv 2) (pa_cons (pv 3) pa_nil))) (nomark _))))) (pss_one (ps_ret pe_bl)) pss_nil)
      (pss_cons (ps_if (PW.pt (pw_or (pt_not (pt_val (pe_call (ok_law_within T) (hr.mono (by decide)) (by rfl) T.g_law_within T.F_law_within.kp T.b_law_within .nil pass0 (pa_cons (pe_ix (r := rIxT K) ix_tup (pv 7) pe_int (fun _ _ => rfl)) (pa_cons (pe_ix (r := rIxL K) ix_list (pv 8) pe_int (fun _ _ => rfl)) pa_nil))))) (pw_or1 (pt_not (pt_val (pe_call (ok_law_within T) (hr.mono (by decide)) (by rfl) T.g_law_within T.F_law_within.kp T.b_law_within .nil pass0 (pa_cons (pe_ix (r := rIxT K) ix_tup (pv 7) pe_int (fun _ _ => rfl)) (pa_cons (pe_ix (r := rIxL K) ix_list (pv 8) pe_int (fun _ _ => rfl)) pa_nil)))))))) (pss_one (ps_ret pe_bl)) pss_nil)
      (pss_cons (ps_set (i := 9) sc_law.nd rfl (Or.inl rfl) (pe_tup (pa_cons (pe_callTy (r := rListS K) call_list_of (by rfl) T.m_list PyProof.Rows.boot_list (pa_cons (pe_ix (r := rIxT K) ix_tup (pv 7) pe_int (fun _ _ => rfl)) pa_nil)) (pa_cons (pe_callTy (r := rListS K) call_list_of (by rfl) T.m_list PyProof.Rows.boot_list (pa_cons (pe_ix (r := rIxT K) ix_tup (pv 7) pe_int (fun _ _ => rfl)) pa_nil)) pa_nil))))
      (pss_cons (ps_set (i := 10) sc_law.nd rfl (Or.inl rfl) (pe_call (ok_join T) (hr.mono (by decide)) (by rfl) T.g_join T.F_join.kp T.b_join .nil pass0 (pa_cons (pv 2) (pa_cons (pe_ix (r := rIxT K) ix_tup (pv 9) pe_int (fun _ _ => rfl)) (pa_cons (pe_ix (r := rIxT K) ix_tup (pv 9) pe_int (fun _ _ => rfl)) pa_nil)))))
      (pss_cons (ps_if (PW.pt (pw_or (pt_not (pt_val (pe_call (ok_law_pair T) (hr.mono (by decide)) (by rfl) T.g_law_pair T.F_law_pair.kp T.b_law_pair .nil pass0 (pa_cons (pv 10) pa_nil)))) (pw_or1 (pt_cmpR (op_neD (hu64 hr)) (pv 10) (pe_tup (pa_cons (pv 4) (pa_cons (pv 5) pa_nil))) (nomark _))))) (pss_one (ps_ret pe_bl)) pss_nil)
      (pss_cons (ps_if (PW.pt (pw_or (pt_cmpR (op_neD (hu64 hr)) (pv 6) (pe_tup (pa_cons (pv 4) (pa_cons (pv 5) pa_nil))) (nomark _)) (pw_or1 (pt_cmpR (op_neD (hu64 hr)) (pv 9) (pe_call (ok_law_rows T) (hr.mono (by decide)) (by rfl) T.g_law_rows T.F_law_rows.kp T.b_law_rows .nil pass0 (pa_cons (pv 2) (pa_cons (pv 4) (pa_cons (pv 5) pa_nil)))) (nomark _))))) (pss_one (ps_ret pe_bl)) pss_nil)
      (pss_cons (ps_set (i := 11) sc_law.nd rfl (Or.inl rfl) (pe_op op_add pe_int (pe_op op_mod (pe_op op_fdivW (pv 1) pe_int) pe_int)))
      (pss_one (ps_ret (pe_cmpR (op_eqD (hu64 hr)) (pe_call (ok_row_depths T) (hr.mono (by decide)) (by rfl) T.g_row_depths T.F_row_depths.kp T.b_row_depths .nil pass0 (pa_cons pe_str (pa_cons (pv 3) (pa_cons (pv 11) pa_nil)))) (pe_lc (own := [("k", 12)]) (g := gName 12) (tt := tYes) rfl sc_law.nd (pi_range1 (by rfl) T.m_range (pa_cons (pv 11) pa_nil)) (blkOk_by (N := ["script", "cell", "assignment", "depth", "left", "right", "given", "rows", "depths", "handed", "back", "count", "k"]) (sc := defScope s_law) (by decide +kernel)) (fun _ _ _ _ _ => pg_name (i := 12) sc_law.nd rfl (Or.inl rfl)) (fun _ _ _ _ _ => pts_nil) (fun _ _ _ _ _ => (pv 3))) (nomark _))))))))))))))))))))), ?_⟩
  refine q_asg (v := .int (cellI ns 0)) (ev_cell (ev_var rfl) hS ev_c (by decide)) fun H1 e1 => ?_
  generalize cellI ns 0 = c0
  obtain ⟨m, hm⟩ : ∃ m : Nat, c0 % 4 = (m : Int) := ⟨(c0 % 4).toNat, by omega⟩
  have hm4 : m < 4 := by omega
  refine q_asg (v := .str (asg m)) (ev_ixS (i := 0) (n := (m : Int)) (EvR.s (EvL.r (el_lst (ea_cons ev_c (ea_cons ev_c (ea_cons ev_c (ea_cons ev_c ea_nil)))) (by decide)))) (Ev.is (ev_I (ev_var rfl) ev_c (by decide)) (congrArg V.int hm)) (at_of (j := m) rfl (by rcases four hm4 with rfl | rfl | rfl | rfl <;> rfl))) fun H2 e2 => ?_
  obtain ⟨d, hd⟩ : ∃ d : Nat, 4 + c0 / 4 % 29 = (d : Int) := ⟨(4 + c0 / 4 % 29).toNat, by omega⟩
  have hd1 : 4 ≤ d ∧ d ≤ 32 := by omega
  refine q_asg (v := .int (d : Int)) (Ev.is (ev_I0 ev_c (ev_I (ev_I (ev_var rfl) ev_c ⟨by decide, by decide⟩) ev_c (by decide))) (congrArg V.int hd)) fun H3 e3 => ?_
  have e13 := (e1.trans e2).trans e3
  have hnl : (ns.map V.int).length = ns.length := List.length_map ..
  have cells : ∀ (f : Int → Int) i, i < (((ns.drop 1).map f).map V.int).length → (((ns.drop 1).map f).map V.int)[i]? = some (V.int (f (ns.getD (1 + i) 0))) ∧ atI (ns.map V.int) (1 + (i : Int)) = some (V.int (ns.getD (1 + i) 0)) := fun f i hi => by
    rw [List.length_map, List.length_map, List.length_drop] at hi
    have h1 := gl_get (ns := ns) (i := 1 + i) (by omega)
    refine ⟨at_int (by rw [List.getElem?_map, List.getElem?_drop, h1]; rfl), at_of (j := 1 + i) (by omega) (at_int h1)⟩
  have hll : ∀ f : Int → Int, ((ns.drop 1).map f).length = ns.length - 1 := fun f => by rw [List.length_map, List.length_drop]
  refine q_asgL (xs := ((ns.drop 1).map (smp d)).map V.int) (el_lcR2 (lo := 1) (n := (ns.length : Int)) _ (ea_cons ev_c (ea_cons (Ev.is (ev_lenS (Ev.s (ev_var rfl) (ex_l e13 hS))) (by rw [hnl])) ea_nil)) (by omega) (by rw [List.length_map, hll]; omega) (by rw [List.length_map, hll]; omega) (fun _ => rfl) fun i H4 e4 hi => ?_) fun pl H4 hpl e4 g4 => ?_
  · obtain ⟨h1, h2⟩ := cells _ i hi
    exact ⟨_, h1, ev_sample (ev_ixS (i := 0) (Ev.s (ev_var rfl) (ex_l (e13.trans e4) hS)) (ev_var rfl) h2) (ev_var rfl) (by omega)⟩
  have e14 := e13.trans e4
  have hlog : ((2 : Int) ^ d).natAbs.log2 < 9000 := by
    have e : ((2 : Int) ^ d) = ((2 ^ d : Nat) : Int) := by rw [Int.natCast_pow]; rfl
    rw [e, Int.natAbs_natCast, Nat.log2_two_pow]
    omega
  refine q_asgL (xs := ((ns.drop 1).map fun c => smp d (c / 2 ^ d)).map V.int) (el_lcR2 (lo := 1) (n := (ns.length : Int)) _ (ea_cons ev_c (ea_cons (Ev.is (ev_lenS (Ev.s (ev_var rfl) (ex_l e14 hS))) (by rw [hnl])) ea_nil)) (by omega) (by rw [List.length_map, hll]; omega) (by rw [List.length_map, hll]; omega) (fun _ => rfl) fun i H5 e5 hi => ?_) fun pr H5 hpr e5 g5 => ?_
  · obtain ⟨h1, h2⟩ := cells _ i hi
    exact ⟨_, h1, ev_sample (ev_I (j := (2 : Int) ^ d) (ev_int1 (ev_ixS (i := 0) (Ev.s (ev_var rfl) (ex_l (e14.trans e5) hS)) (ev_var rfl) h2)) (Ev.is (ev_I ev_c (ev_var rfl) (show CPow 1 (d : Int) from ⟨by omega, by omega, by decide⟩)) (congrArg V.int (by rw [Int.toNat_natCast, Int.one_mul]))) ⟨p2pos d, hlog⟩) (ev_var rfl) (by omega)⟩
  have e15 := e14.trans e5
  have hl1 := hll (smp d)
  have hl2 := hll fun c => smp d (c / 2 ^ d)
  have hi1 : ∀ v ∈ (ns.drop 1).map (smp d), inR d v := fun v hv => by obtain ⟨c, _, rfl⟩ := List.mem_map.mp hv; exact smp_in d c
  have hi2 : ∀ v ∈ (ns.drop 1).map (fun c => smp d (c / 2 ^ d)), inR d v := fun v hv => by obtain ⟨c, _, rfl⟩ := List.mem_map.mp hv; exact smp_in d _
  have g45 := e5 _ _ g4
  clear cells hll
  generalize (ns.drop 1).map (smp d) = ls at *
  generalize ((ns.drop 1).map fun c => smp d (c / 2 ^ d)) = rs0 at *
  refine q_cut (M := fun σ' H' => ∃ (rs : List Int) (pr : Addr), σ' = [some (.ref a), some (.int c0), some (.str (asg m)), some (.int (d : Int)), some (.ref pl), some (.ref pr), none, none, none, none, none, none, none] ∧ Ex H5 H' ∧ H' pr = some (.lst (rs.map V.int)) ∧ rs.length = ls.length ∧ ∀ v ∈ rs, inR d v) ?_ ?_
  · refine s_when (et_test (ev_eq (ev_I (ev_I (ev_var rfl) ev_c ⟨by decide, by decide⟩) ev_c (by decide)) ev_c rfl)) (fun _ H6 e6 => ?_) (fun _ H6 e6 => ⟨rs0, pr, rfl, e6, e6 _ _ g5, by omega, hi2⟩)
    exact s_asgL (el_of (Ev.s (ev_var rfl) (sq_of (e6 _ _ g45)))) fun p H7 hp e7 g7 => ⟨ls, p, rfl, e6.trans e7, g7, rfl, hi1⟩
  rintro σ' H6 ⟨rs, pr, rfl, e6, gr, hrl, hir⟩
  have gl : H6 pl = some (.lst (ls.map V.int)) := e6 _ _ g45
  clear e1 e2 e3 e4 e5 e6 g4 g5 g45 hi2 e13 e14 hpr
  have hl63 : ls.length ≤ 1000 := by omega
  refine q_asgP (el_of (Ev.s (ev_var rfl) (sq_of gl))) (el_of (Ev.s (ev_var rfl) (sq_of gr))) fun pg ga gb H7 e7 hG => ?_
  refine q_asgC (vs := [.str (asg m), .ref ga, .ref gb]) (ea_cons (ev_var rfl) (ea_cons (hG.a (ev_var rfl)) (ea_cons (hG.b (ev_var rfl)) ea_nil))) fun H8 e8 => ⟨m, ga, gb, ls, rs, rfl, hm4, sq_of ((hG.ex e8).2.1), sq_of ((hG.ex e8).2.2), hl63, fun pw wa wb H9 hpw hwa hwb e9 w1 w2 w3 => ?_⟩
  have hW : PairAt H9 pw wa wb (rowA m ls rs) (rowB m ls rs) := ⟨w1, w2, w3⟩
  have e79 := (e7.trans e8).trans e9
  have shp := shaped_pair (rowA m ls rs) (rowB m ls rs)
  have lrows : ∀ {σ : L2.St} {H' : Hp} {E : XK}, Ex H6 H' → σ[2]? = some (some (.str (asg m))) → σ[4]? = some (some (.ref pl)) → σ[5]? = some (some (.ref pr)) → EvD K (tCall (sp_lrows K) [] E (tCons (tVar 2) (tCons (tVar 4) (tCons (tVar 5) tNil)))) σ H' (pairD (rowA m ls rs) (rowB m ls rs)) := fun e h1 h2 h3 => ed_lrows (ev_var h1) (Ev.s (ev_var h2) (sq_of (e _ _ gl))) (Ev.s (ev_var h3) (sq_of (e _ _ gr))) hm4 hrl hl63
  refine q_when (b := false) (et_is (et_or (a := false) (b := false) (et_is (et_not (et_B (ev_lpair (ev_var rfl) hW))) rfl) fun _ => et_test (ev_neDD (EvD.of (ev_var rfl) hW.d) (lrows e79 rfl rfl rfl) shp)) rfl) (fun hb => by cases hb) fun _ H10 e10 => ?_
  have hW10 := hW.ex e10
  have hG10 := hG.ex (e8.trans (e9.trans e10))
  have e6_10 := e79.trans e10
  have hdep : ∀ n ∈ [(depA m d : Int), (depB m d : Int)], True := fun _ _ => trivial
  refine q_asgL (xs := [(depA m d : Int), (depB m d : Int)].map V.int) (el_call (ea_cons (ev_var rfl) (ea_cons (ev_var rfl) (ea_cons ev_c ea_nil))) fun H11 e11 Q' q' _ => ⟨m, d, 2, rfl, hm4, by decide, ?_⟩) fun pd H11 hpd e11 g11 => ?_
  · have : (if m = 0 then (List.replicate 2 (d : Int)).map V.int else [V.int (depA m d : Int), V.int (depB m d : Int)]) = [(depA m d : Int), (depB m d : Int)].map V.int := by
      rcases four hm4 with rfl | rfl | rfl | rfl <;> rfl
    rw [this]
    exact q'
  have hW11 := hW10.ex e11
  have ldep : ∀ {σ : L2.St} {H' : Hp} {E : XK}, σ[2]? = some (some (.str (asg m))) → σ[3]? = some (some (.int (d : Int))) → EvL (tCall sp_ldepths [] E (tCons (tVar 2) (tCons (tVar 3) tNil))) σ H' ([(depA m d : Int), (depB m d : Int)].map V.int) := fun h1 h2 => el_call (ea_cons (ev_var h1) (ea_cons (ev_var h2) ea_nil)) fun H1 _ Q' q' _ => ⟨m, d, rfl, hm4, q'⟩
  refine q_when (b := false) (et_is (et_or (a := false) (b := false) (et_is (et_not (et_B (ev_ints (ns := [(depA m d : Int), (depB m d : Int)]) (Ev.r (ev_var rfl) g11)))) rfl) fun _ => et_is (et_test (ev_neI (ns := [(depA m d : Int), (depB m d : Int)]) (ms := [(depA m d : Int), (depB m d : Int)]) (Ev.s (ev_var rfl) (sq_of g11)) (EvR.s (EvL.r (ldep rfl rfl))))) (by simp)) rfl) (fun hb => by cases hb) fun _ H12 e12 => ?_
  have hW12 := hW11.ex e12
  have g12 := e12 _ _ g11
  obtain ⟨inA, inB⟩ := rows_in (m := m) (by omega) hi1 hir hm4
  have dA : 1 ≤ depA m d ∧ depA m d ≤ 1000 := by unfold depA; split <;> omega
  have dB : 1 ≤ depB m d ∧ depB m d ≤ 1000 := by unfold depB; split <;> omega
  refine q_when (b := false) (et_is (et_or (a := false) (b := false) (et_is (et_not (et_B (ev_within (d := depA m d) (Ev.s (hW12.a (ev_var rfl)) (sq_of hW12.2.1)) (ev_ixS (i := 0) (n := 0) (Ev.s (ev_var rfl) (sq_of g12)) ev_c (at_of (j := 0) rfl rfl)) dA inA))) rfl) fun _ => et_is (et_not (et_B (ev_within (d := depB m d) (Ev.s (hW12.b (ev_var rfl)) (sq_of hW12.2.2)) (ev_ixS (i := 0) (n := 1) (Ev.s (ev_var rfl) (sq_of g12)) ev_c (at_of (j := 1) rfl rfl)) dB inB))) rfl) rfl) (fun hb => by cases hb) fun _ H13 e13 => ?_
  have hW13 := hW12.ex e13
  refine q_asgP (el_of (Ev.s (hW13.a (ev_var rfl)) (sq_of hW13.2.1))) (el_of (Ev.s (hW13.b (ev_var rfl)) (sq_of hW13.2.2))) fun ph ha hb H14 e14 hH => ?_
  refine q_asgC (vs := [.str (asg m), .ref ha, .ref hb]) (ea_cons (ev_var rfl) (ea_cons (hH.a (ev_var rfl)) (ea_cons (hH.b (ev_var rfl)) ea_nil))) fun H15 e15' => ⟨m, ha, hb, ls, rs, rfl, hm4, sq_of ((hH.ex e15').2.1), sq_of ((hH.ex e15').2.2), hrl, hl63, fun pz za zb H16 _ _ _ e16 z1 z2 z3 => ?_⟩
  have hZ : PairAt H16 pz za zb ls rs := ⟨z1, z2, z3⟩
  have e10_16 := ((e11.trans e12).trans e13).trans ((e14.trans e15').trans e16)
  have e6_16 := e6_10.trans e10_16
  have gl16 := e6_16 _ _ gl
  have gr16 := e6_16 _ _ gr
  have both : ∀ {σ : L2.St} {H' : Hp}, Ex H16 H' → σ[4]? = some (some (.ref pl)) → σ[5]? = some (some (.ref pr)) → EvD K (tTup (tCons (tVar 4) (tCons (tVar 5) tNil))) σ H' (pairD ls rs) := fun e h1 h2 => ed_tup2 (EvS.toD (Ev.s (ev_var h1) (sq_of (e _ _ gl16)))) (EvS.toD (Ev.s (ev_var h2) (sq_of (e _ _ gr16))))
  refine q_when (b := false) (et_is (et_or (a := false) (b := false) (et_is (et_not (et_B (ev_lpair (ev_var rfl) hZ))) rfl) fun _ => et_test (ev_neDD (EvD.of (ev_var rfl) hZ.d) (both (Ex.refl _) rfl rfl) (shaped_pair ls rs))) rfl) (fun hb => by cases hb) fun _ H17 e17 => ?_
  have hG17 := hG10.ex (e10_16.trans e17)
  have hH17 := hH.ex ((e15'.trans e16).trans e17)
  refine q_when (b := false) (et_is (et_or (a := false) (b := false) (et_test (ev_neDD (EvD.of (ev_var rfl) hG17.d) (both e17 rfl rfl) (shaped_pair ls rs))) fun _ => et_test (ev_neDD (EvD.of (ev_var rfl) hH17.d) (lrows (e6_16.trans e17) rfl rfl rfl) shp)) rfl) (fun hb => by cases hb) fun _ H18 e18 => ?_
  obtain ⟨n, hn⟩ : ∃ n : Nat, 1 + c0 / 464 % 8 = (n : Int) := ⟨(1 + c0 / 464 % 8).toNat, by omega⟩
  refine q_asg (v := .int (n : Int)) (Ev.is (ev_I0 ev_c (ev_I (ev_I (ev_var rfl) ev_c ⟨by decide, by decide⟩) ev_c (by decide))) (congrArg V.int hn)) fun H19 e19 => ?_
  refine s_ret (v := .bl true) (Ev.is (ev_eqI (ns := List.replicate n (d : Int)) (ms := List.replicate n (d : Int)) (EvR.s (EvL.r (el_call (ea_cons ev_c (ea_cons (ev_var rfl) (ea_cons (ev_var rfl) ea_nil))) fun H1 _ Q' q' _ => ⟨0, d, n, rfl, by decide, by omega, q'⟩))) (EvR.s (EvL.r (el_lcR (n := (n : Int)) _ (ea_cons (ev_var rfl) ea_nil) (by omega) (by rw [List.length_map, List.length_replicate, Int.toNat_natCast]) (by rw [List.length_map, List.length_replicate]; omega) (fun _ => rfl) fun i H20 e20 hi => ?_)))) (congrArg V.bl (decide_eq_true rfl))) fun H20 e20 => k _
  rw [List.length_map, List.length_replicate] at hi
  exact ⟨_, at_int (by rw [List.getElem?_replicate, if_pos hi]), ev_var rfl⟩

end
theorem all_mk {l : PySem.W.OpenLaw} {w : World} {K : PySem.W.Frag} {h : Heap} {mg : Str → Option Value} {fa : Addr} {f1 f2 f3 f4 f5 f6 f7 f8 f9 f10 f11 f12 f13 f14 : Addr} (X : K.In h) (G : h.Ns mainGlobals mg) (hfa : mg "law" = some (.ref fa))
    {od1 an1 : Option Addr} {sl1 : Array (Option Value)} {oc1 dc1 pm1 cd1 ct1 : Value} {kV1 : Value} {od2 an2 : Option Addr} {sl2 : Array (Option Value)} {oc2 dc2 pm2 cd2 ct2 : Value} {kV2 : Value} {od3 an3 : Option Addr} {sl3 : Array (Option Value)} {oc3 dc3 pm3 cd3 ct3 : Value} {kV3 : Value} {od4 an4 : Option Addr} {sl4 : Array (Option Value)} {oc4 dc4 pm4 cd4 ct4 : Value} {kV4 : Value} {od5 an5 : Option Addr} {sl5 : Array (Option Value)} {oc5 dc5 pm5 cd5 ct5 : Value} {kV5 : Value} {od6 an6 : Option Addr} {sl6 : Array (Option Value)} {oc6 dc6 pm6 cd6 ct6 : Value} {kV6 : Value} {od7 an7 : Option Addr} {sl7 : Array (Option Value)} {oc7 dc7 pm7 cd7 ct7 : Value} {kV7 : Value} {od8 an8 : Option Addr} {sl8 : Array (Option Value)} {oc8 dc8 pm8 cd8 ct8 : Value} {kV8 : Value} {od9 an9 : Option Addr} {sl9 : Array (Option Value)} {oc9 dc9 pm9 cd9 ct9 : Value} {kV9 : Value} {od10 an10 : Option Addr} {sl10 : Array (Option Value)} {oc10 dc10 pm10 cd10 ct10 : Value} {kV10 : Value} {od11 an11 : Option Addr} {sl11 : Array (Option Value)} {oc11 dc11 pm11 cd11 ct11 : Value} {kV11 : Value} {od12 an12 : Option Addr} {sl12 : Array (Option Value)} {oc12 dc12 pm12 cd12 ct12 : Value} {kV12 : Value} {od13 an13 : Option Addr} {sl13 : Array (Option Value)} {oc13 dc13 pm13 cd13 ct13 : Value} {kV13 : Value} {od14 an14 : Option Addr} {sl14 : Array (Option Value)} {oc14 dc14 pm14 cd14 ct14 : Value} {kV14 : Value}
    (a1 : PySem.W.nsIn K mainGlobals "split" = some (some (.ref f1)))
    (l1 : K.lookup f1 = some ⟨oc1, od1, .func (PySem.W.fnOf "split" "split" (defArgs s_split) (defBody s_split) (defScope s_split) .none kV1 dc1 pm1 an1 cd1 ct1), sl1⟩) (c1 : PySem.W.codeIn K cd1 "split" = true) (k1 : PySem.W.keepIn K (.ref f1) = true)
    (a2 : PySem.W.nsIn K mainGlobals "join" = some (some (.ref f2)))
    (l2 : K.lookup f2 = some ⟨oc2, od2, .func (PySem.W.fnOf "join" "join" (defArgs s_join) (defBody s_join) (defScope s_join) .none kV2 dc2 pm2 an2 cd2 ct2), sl2⟩) (c2 : PySem.W.codeIn K cd2 "join" = true) (k2 : PySem.W.keepIn K (.ref f2) = true)
    (a3 : PySem.W.nsIn K mainGlobals "row_depths" = some (some (.ref f3)))
    (l3 : K.lookup f3 = some ⟨oc3, od3, .func (PySem.W.fnOf "row_depths" "row_depths" (defArgs s_row_depths) (defBody s_row_depths) (defScope s_row_depths) .none kV3 dc3 pm3 an3 cd3 ct3), sl3⟩) (c3 : PySem.W.codeIn K cd3 "row_depths" = true) (k3 : PySem.W.keepIn K (.ref f3) = true)
    (a4 : PySem.W.nsIn K mainGlobals "_side" = some (some (.ref f4)))
    (l4 : K.lookup f4 = some ⟨oc4, od4, .func (PySem.W.fnOf "_side" "_side" (defArgs s_side) (defBody s_side) (defScope s_side) .none kV4 dc4 pm4 an4 cd4 ct4), sl4⟩) (c4 : PySem.W.codeIn K cd4 "_side" = true) (k4 : PySem.W.keepIn K (.ref f4) = true)
    (a5 : PySem.W.nsIn K mainGlobals "_mid" = some (some (.ref f5)))
    (l5 : K.lookup f5 = some ⟨oc5, od5, .func (PySem.W.fnOf "_mid" "_mid" (defArgs s_mid) (defBody s_mid) (defScope s_mid) .none kV5 dc5 pm5 an5 cd5 ct5), sl5⟩) (c5 : PySem.W.codeIn K cd5 "_mid" = true) (k5 : PySem.W.keepIn K (.ref f5) = true)
    (a6 : PySem.W.nsIn K mainGlobals "_law_cell" = some (some (.ref f6)))
    (l6 : K.lookup f6 = some ⟨oc6, od6, .func (PySem.W.fnOf "_law_cell" "_law_cell" (defArgs s_law_cell) (defBody s_law_cell) (defScope s_law_cell) .none kV6 dc6 pm6 an6 cd6 ct6), sl6⟩) (c6 : PySem.W.codeIn K cd6 "_law_cell" = true) (k6 : PySem.W.keepIn K (.ref f6) = true)
    (a7 : PySem.W.nsIn K mainGlobals "_law_sample" = some (some (.ref f7)))
    (l7 : K.lookup f7 = some ⟨oc7, od7, .func (PySem.W.fnOf "_law_sample" "_law_sample" (defArgs s_law_sample) (defBody s_law_sample) (defScope s_law_sample) .none kV7 dc7 pm7 an7 cd7 ct7), sl7⟩) (c7 : PySem.W.codeIn K cd7 "_law_sample" = true) (k7 : PySem.W.keepIn K (.ref f7) = true)
    (a8 : PySem.W.nsIn K mainGlobals "_law_is_integer" = some (some (.ref f8)))
    (l8 : K.lookup f8 = some ⟨oc8, od8, .func (PySem.W.fnOf "_law_is_integer" "_law_is_integer" (defArgs s_law_is_integer) (defBody s_law_is_integer) (defScope s_law_is_integer) .none kV8 dc8 pm8 an8 cd8 ct8), sl8⟩) (c8 : PySem.W.codeIn K cd8 "_law_is_integer" = true) (k8 : PySem.W.keepIn K (.ref f8) = true)
    (a9 : PySem.W.nsIn K mainGlobals "_law_integers" = some (some (.ref f9)))
    (l9 : K.lookup f9 = some ⟨oc9, od9, .func (PySem.W.fnOf "_law_integers" "_law_integers" (defArgs s_law_integers) (defBody s_law_integers) (defScope s_law_integers) .none kV9 dc9 pm9 an9 cd9 ct9), sl9⟩) (c9 : PySem.W.codeIn K cd9 "_law_integers" = true) (k9 : PySem.W.keepIn K (.ref f9) = true)
    (a10 : PySem.W.nsIn K mainGlobals "_law_pair" = some (some (.ref f10)))
    (l10 : K.lookup f10 = some ⟨oc10, od10, .func (PySem.W.fnOf "_law_pair" "_law_pair" (defArgs s_law_pair) (defBody s_law_pair) (defScope s_law_pair) .none kV10 dc10 pm10 an10 cd10 ct10), sl10⟩) (c10 : PySem.W.codeIn K cd10 "_law_pair" = true) (k10 : PySem.W.keepIn K (.ref f10) = true)
    (a11 : PySem.W.nsIn K mainGlobals "_law_rows" = some (some (.ref f11)))
    (l11 : K.lookup f11 = some ⟨oc11, od11, .func (PySem.W.fnOf "_law_rows" "_law_rows" (defArgs s_law_rows) (defBody s_law_rows) (defScope s_law_rows) .none kV11 dc11 pm11 an11 cd11 ct11), sl11⟩) (c11 : PySem.W.codeIn K cd11 "_law_rows" = true) (k11 : PySem.W.keepIn K (.ref f11) = true)
    (a12 : PySem.W.nsIn K mainGlobals "_law_depths" = some (some (.ref f12)))
    (l12 : K.lookup f12 = some ⟨oc12, od12, .func (PySem.W.fnOf "_law_depths" "_law_depths" (defArgs s_law_depths) (defBody s_law_depths) (defScope s_law_depths) .none kV12 dc12 pm12 an12 cd12 ct12), sl12⟩) (c12 : PySem.W.codeIn K cd12 "_law_depths" = true) (k12 : PySem.W.keepIn K (.ref f12) = true)
    (a13 : PySem.W.nsIn K mainGlobals "_law_within" = some (some (.ref f13)))
    (l13 : K.lookup f13 = some ⟨oc13, od13, .func (PySem.W.fnOf "_law_within" "_law_within" (defArgs s_law_within) (defBody s_law_within) (defScope s_law_within) .none kV13 dc13 pm13 an13 cd13 ct13), sl13⟩) (c13 : PySem.W.codeIn K cd13 "_law_within" = true) (k13 : PySem.W.keepIn K (.ref f13) = true)
    (a14 : PySem.W.nsIn K mainGlobals "law" = some (some (.ref f14)))
    (l14 : K.lookup f14 = some ⟨oc14, od14, .func (PySem.W.fnOf "law" "law" (defArgs s_law) (defBody s_law) (defScope s_law) .none kV14 dc14 pm14 an14 cd14 ct14), sl14⟩) (c14 : PySem.W.codeIn K cd14 "law" = true) (k14 : PySem.W.keepIn K (.ref f14) = true)
    (z_list : PySem.W.nsIn K mainGlobals "list" = some none)
    (z_zip : PySem.W.nsIn K mainGlobals "zip" = some none)
    (z_len : PySem.W.nsIn K mainGlobals "len" = some none)
    (z_int : PySem.W.nsIn K mainGlobals "int" = some none)
    (z_isinstance : PySem.W.nsIn K mainGlobals "isinstance" = some none)
    (z_bool : PySem.W.nsIn K mainGlobals "bool" = some none)
    (z_tuple : PySem.W.nsIn K mainGlobals "tuple" = some none)
    (z_range : PySem.W.nsIn K mainGlobals "range" = some none)
    : ∃ fd : FuncData, (∀ (s : Shared) (v : Value), BindsTo s fd ⟨[v], []⟩ [("script", v)]) ∧ ∀ base : Heap, K.In base → base.Ns mainGlobals mg → FnOk l.prog w K mg base CX0 4 fa fd ["script"] (sp_law K) := by
  have e := hfa.symm.trans (PySem.W.mg_of X G a14)
  cases e
  have F1 := fun_mk (st := s_split) l1 c1 k1
  have b1 := F1.binds (ps := ["assignment", "left", "right"]) fun _ _ _ _ _ _ us hl => match us, hl with | [_, _, _], _ => rfl
  have F2 := fun_mk (st := s_join) l2 c2 k2
  have b2 := F2.binds (ps := ["assignment", "first", "second"]) fun _ _ _ _ _ _ us hl => match us, hl with | [_, _, _], _ => rfl
  have F3 := fun_mk (st := s_row_depths) l3 c3 k3
  have b3 := F3.binds (ps := ["assignment", "depth", "count"]) fun _ _ _ _ _ _ us hl => match us, hl with | [_, _, _], _ => rfl
  have F4 := fun_mk (st := s_side) l4 c4 k4
  have b4 := F4.binds (ps := ["left", "right"]) fun _ _ _ _ _ _ us hl => match us, hl with | [_, _], _ => rfl
  have F5 := fun_mk (st := s_mid) l5 c5 k5
  have b5 := F5.binds (ps := ["left", "right"]) fun _ _ _ _ _ _ us hl => match us, hl with | [_, _], _ => rfl
  have F6 := fun_mk (st := s_law_cell) l6 c6 k6
  have b6 := F6.binds (ps := ["script", "k"]) fun _ _ _ _ _ _ us hl => match us, hl with | [_, _], _ => rfl
  have F7 := fun_mk (st := s_law_sample) l7 c7 k7
  have b7 := F7.binds (ps := ["cell", "depth"]) fun _ _ _ _ _ _ us hl => match us, hl with | [_, _], _ => rfl
  have F8 := fun_mk (st := s_law_is_integer) l8 c8 k8
  have b8 := F8.binds (ps := ["actual"]) fun _ _ _ _ _ _ us hl => match us, hl with | [_], _ => rfl
  have F9 := fun_mk (st := s_law_integers) l9 c9 k9
  have b9 := F9.binds (ps := ["actual"]) fun _ _ _ _ _ _ us hl => match us, hl with | [_], _ => rfl
  have F10 := fun_mk (st := s_law_pair) l10 c10 k10
  have b10 := F10.binds (ps := ["actual"]) fun _ _ _ _ _ _ us hl => match us, hl with | [_], _ => rfl
  have F11 := fun_mk (st := s_law_rows) l11 c11 k11
  have b11 := F11.binds (ps := ["assignment", "left", "right"]) fun _ _ _ _ _ _ us hl => match us, hl with | [_, _, _], _ => rfl
  have F12 := fun_mk (st := s_law_depths) l12 c12 k12
  have b12 := F12.binds (ps := ["assignment", "depth"]) fun _ _ _ _ _ _ us hl => match us, hl with | [_, _], _ => rfl
  have F13 := fun_mk (st := s_law_within) l13 c13 k13
  have b13 := F13.binds (ps := ["row", "depth"]) fun _ _ _ _ _ _ us hl => match us, hl with | [_, _], _ => rfl
  have F14 := fun_mk (st := s_law) l14 c14 k14
  have b14 := F14.binds (ps := ["script"]) fun _ _ _ _ _ _ us hl => match us, hl with | [_], _ => rfl
  let T : TX K mg := ⟨f1, _, F1, b1, (PySem.W.mg_of X G a1), f2, _, F2, b2, (PySem.W.mg_of X G a2), f3, _, F3, b3, (PySem.W.mg_of X G a3), f4, _, F4, b4, (PySem.W.mg_of X G a4), f5, _, F5, b5, (PySem.W.mg_of X G a5), f6, _, F6, b6, (PySem.W.mg_of X G a6), f7, _, F7, b7, (PySem.W.mg_of X G a7), f8, _, F8, b8, (PySem.W.mg_of X G a8), f9, _, F9, b9, (PySem.W.mg_of X G a9), f10, _, F10, b10, (PySem.W.mg_of X G a10), f11, _, F11, b11, (PySem.W.mg_of X G a11), f12, _, F12, b12, (PySem.W.mg_of X G a12), f13, _, F13, b13, (PySem.W.mg_of X G a13), fa, _, F14, b14, (PySem.W.mg_of X G a14), (PySem.W.mg_none_of X G z_list), (PySem.W.mg_none_of X G z_zip), (PySem.W.mg_none_of X G z_len), (PySem.W.mg_none_of X G z_int), (PySem.W.mg_none_of X G z_isinstance), (PySem.W.mg_none_of X G z_bool), (PySem.W.mg_none_of X G z_tuple), (PySem.W.mg_none_of X G z_range)⟩
  exact ⟨_, fun s v => .of_eq rfl, fun base _ _ => ok_law T⟩
end K29
open PySem PySem.W PyProof.Rows
set_option maxRecDepth 100000 in
set_option maxHeartbeats 0 in
theorem PySem.Challenge.cw_monochord_k29_split_and_join_stereo_holds : PySem.Challenge.rw_monochord_k29_split_and_join_stereo.Holds := by
  w_on; o_law; k_head; (case hw => w_witness2)
  k_fill
  refine L2.walk_of (l := PySem.Challenge.rw_monochord_k29_split_and_join_stereo) (n := 63) (k := 4) (x := "script") (CX := fun _ => L2.CX0) (sp := fun w => K29.sp_law _) rfl (by decide) rfl ⟨rfl, by decide, by decide⟩ (fun w h Y => PySem.W.kIn_of Y) ?F (fun _ _ a ns hl _ hS => ⟨a, ns, rfl, hS, hl, fun _ => rfl⟩) (fun _ _ _ _ _ h => h)
  case F =>
    intro w mg fa h KX G hmg
    refine' K29.all_mk KX G hmg ?a1 ?l1 ?c1 ?k1 ?a2 ?l2 ?c2 ?k2 ?a3 ?l3 ?c3 ?k3 ?a4 ?l4 ?c4 ?k4 ?a5 ?l5 ?c5 ?k5 ?a6 ?l6 ?c6 ?k6 ?a7 ?l7 ?c7 ?k7 ?a8 ?l8 ?c8 ?k8 ?a9 ?l9 ?c9 ?k9 ?a10 ?l10 ?c10 ?k10 ?a11 ?l11 ?c11 ?k11 ?a12 ?l12 ?c12 ?k12 ?a13 ?l13 ?c13 ?k13 ?a14 ?l14 ?c14 ?k14 ?z_list ?z_zip ?z_len ?z_int ?z_isinstance ?z_bool ?z_tuple ?z_range
    (case a1 => k_is)
    (case l1 => k_is)
    (case c1 => k_is)
    (case k1 => k_is)
    (case a2 => k_is)
    (case l2 => k_is)
    (case c2 => k_is)
    (case k2 => k_is)
    (case a3 => k_is)
    (case l3 => k_is)
    (case c3 => k_is)
    (case k3 => k_is)
    (case a4 => k_is)
    (case l4 => k_is)
    (case c4 => k_is)
    (case k4 => k_is)
    (case a5 => k_is)
    (case l5 => k_is)
    (case c5 => k_is)
    (case k5 => k_is)
    (case a6 => k_is)
    (case l6 => k_is)
    (case c6 => k_is)
    (case k6 => k_is)
    (case a7 => k_is)
    (case l7 => k_is)
    (case c7 => k_is)
    (case k7 => k_is)
    (case a8 => k_is)
    (case l8 => k_is)
    (case c8 => k_is)
    (case k8 => k_is)
    (case a9 => k_is)
    (case l9 => k_is)
    (case c9 => k_is)
    (case k9 => k_is)
    (case a10 => k_is)
    (case l10 => k_is)
    (case c10 => k_is)
    (case k10 => k_is)
    (case a11 => k_is)
    (case l11 => k_is)
    (case c11 => k_is)
    (case k11 => k_is)
    (case a12 => k_is)
    (case l12 => k_is)
    (case c12 => k_is)
    (case k12 => k_is)
    (case a13 => k_is)
    (case l13 => k_is)
    (case c13 => k_is)
    (case k13 => k_is)
    (case a14 => k_is)
    (case l14 => k_is)
    (case c14 => k_is)
    (case k14 => k_is)
    (case z_list => k_is)
    (case z_zip => k_is)
    (case z_len => k_is)
    (case z_int => k_is)
    (case z_isinstance => k_is)
    (case z_bool => k_is)
    (case z_tuple => k_is)
    (case z_range => k_is)
