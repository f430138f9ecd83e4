import PyProof.Rows.All
import Wide.All
import OpenK.AllK
import Wide.FinOn
import HandS.ForMost
import HandS.Steps
import HandS.Evl
import HandS.IsInst
import HandS.Wide
import PyProof.P3Eq
import PySem.Challenge.RW_monochord_k47_points_of_frames
set_option Elab.async false
set_option linter.all false
set_option maxRecDepth 100000
set_option maxHeartbeats 4000000
namespace K47
open PySem PySem.Spec PyProof.Rows L2 Evl
def topS (i : Nat) : Stmt := PySem.Challenge.pw_monochord_k47_points_of_frames.main.body.getD i (.Pass ⟨0, 0, 0, 0⟩)
abbrev s_points_for : Stmt := topS 1
theorem sc_points_for : FnScope ["frames", "every", "sample", "offset", "count"] ["frames", "every"] (defScope s_points_for) := ⟨rfl, rfl, rfl, by decide +kernel, rfl, by decide +kernel, by decide +kernel⟩
abbrev s_nearest_point : Stmt := topS 2
theorem sc_nearest_point : FnScope ["points", "sample", "nearest", "point"] ["points", "sample"] (defScope s_nearest_point) := ⟨rfl, rfl, rfl, by decide +kernel, rfl, by decide +kernel, by decide +kernel⟩
abbrev s_holds_multiple : Stmt := topS 3
theorem sc_holds_multiple : FnScope ["sample", "count", "every"] ["sample", "count", "every"] (defScope s_holds_multiple) := ⟨rfl, rfl, rfl, by decide +kernel, rfl, by decide +kernel, by decide +kernel⟩
abbrev s_law_is_integer : Stmt := topS 5
theorem sc_law_is_integer : FnScope ["actual"] ["actual"] (defScope s_law_is_integer) := ⟨rfl, rfl, rfl, by decide +kernel, rfl, by decide +kernel, by decide +kernel⟩
abbrev s_law_refill : Stmt := topS 6
theorem sc_law_refill : FnScope ["script", "k", "cell"] ["script", "k"] (defScope s_law_refill) := ⟨rfl, rfl, rfl, by decide +kernel, rfl, by decide +kernel, by decide +kernel⟩
abbrev s_law_draw : Stmt := topS 7
theorem sc_law_draw : FnScope ["state", "script", "size", "digit"] ["state", "script", "size"] (defScope s_law_draw) := ⟨rfl, rfl, rfl, by decide +kernel, rfl, by decide +kernel, by decide +kernel⟩
abbrev s_law_wide : Stmt := topS 8
theorem sc_law_wide : FnScope ["state", "script", "size", "kind"] ["state", "script", "size"] (defScope s_law_wide) := ⟨rfl, rfl, rfl, by decide +kernel, rfl, by decide +kernel, by decide +kernel⟩
abbrev s_law_junk : Stmt := topS 9
theorem sc_law_junk : FnScope ["state", "script", "count", "k"] ["state", "script", "count"] (defScope s_law_junk) := ⟨rfl, rfl, rfl, by decide +kernel, rfl, by decide +kernel, by decide +kernel⟩
abbrev s_law_is_bytes : Stmt := topS 10
theorem sc_law_is_bytes : FnScope ["actual", "byte"] ["actual"] (defScope s_law_is_bytes) := ⟨rfl, rfl, rfl, by decide +kernel, rfl, by decide +kernel, by decide +kernel⟩
abbrev s_law_number_bytes : Stmt := topS 11
theorem sc_law_number_bytes : FnScope ["number", "count", "k"] ["number", "count"] (defScope s_law_number_bytes) := ⟨rfl, rfl, rfl, by decide +kernel, rfl, by decide +kernel, by decide +kernel⟩
abbrev s_law_frames : Stmt := topS 12
theorem sc_law_frames : FnScope ["state", "script", "frames", "sample", "offset", "great", "k", "count"] ["state", "script"] (defScope s_law_frames) := ⟨rfl, rfl, rfl, by decide +kernel, rfl, by decide +kernel, by decide +kernel⟩
abbrev s_law_holds : Stmt := topS 13
theorem sc_law_holds : FnScope ["frame", "every", "least"] ["frame", "every"] (defScope s_law_holds) := ⟨rfl, rfl, rfl, by decide +kernel, rfl, by decide +kernel, by decide +kernel⟩
abbrev s_law_nearest : Stmt := topS 14
theorem sc_law_nearest : FnScope ["points", "sample", "found", "point"] ["points", "sample"] (defScope s_law_nearest) := ⟨rfl, rfl, rfl, by decide +kernel, rfl, by decide +kernel, by decide +kernel⟩
abbrev s_law_tuples : Stmt := topS 15
theorem sc_law_tuples : FnScope ["actual", "one", "part"] ["actual"] (defScope s_law_tuples) := ⟨rfl, rfl, rfl, by decide +kernel, rfl, by decide +kernel, by decide +kernel⟩
abbrev s_law : Stmt := topS 16
theorem sc_law : FnScope ["script", "state", "frames", "every", "handed", "actual", "expected", "points", "end", "k", "sample", "told", "frame"] ["script"] (defScope s_law) := ⟨rfl, rfl, rfl, by decide +kernel, rfl, by decide +kernel, by decide +kernel⟩
theorem hu64 {A : Around} {k : Nat} (hr : Room k A) : A.units + 64 < cLine := hr.units
/-! ### short words for readings -/
theorem ret_eq {v w : V} {H H' : Hp} {Q : VK} (k : RetV v H Q) (ex : Ex H H') (e : w = v) : Q w H' := e ▸ k H' ex
/-- isinstance(x, T), T a built-in class -/
theorem ev_isi {K : PySem.W.Frag} {σ : L2.St} {H : Hp} {ta : TE} {x : V} {t : String} {T : String} {b : Bool} (ha : Ev ta σ H x) (ht : ∀ H1, Ex H H1 → TyX K H1 x (.type t)) (hk : kitB t T = some b) :
    Ev (tCB (rIsi K) (tCons ta (tCons (tC (.ty T)) tNil))) σ H (.bl b) :=
  ev_cb (ea_cons ha (ea_cons ev_c ea_nil)) fun H1 e Q q => ⟨x, .ty T, _, _, b, rfl, .ty T, ht H1 e, kit_ty hk, q H1 (Ex.refl H1)⟩
theorem isi_int {K : PySem.W.Frag} {H : Hp} {i : Int} : ∀ H1, Ex H H1 → TyX K H1 (V.int i) (.type "int") := fun _ _ => .base (.int _)
theorem isi_bl {K : PySem.W.Frag} {H : Hp} {b : Bool} : ∀ H1, Ex H H1 → TyX K H1 (V.bl b) (.type "bool") := fun _ _ => .base (.bl _)
theorem isi_non {K : PySem.W.Frag} {H : Hp} : ∀ H1, Ex H H1 → TyX K H1 V.non (.type "NoneType") := fun _ _ => .base .non
theorem isi_lst {K : PySem.W.Frag} {H : Hp} {a : Addr} {xs : List V} (h : H a = some (.lst xs)) : ∀ H1, Ex H H1 → TyX K H1 (V.ref a) (.type "list") := fun _ e => .base (.lst (e _ _ h))
theorem isi_tup {K : PySem.W.Frag} {H : Hp} {a : Addr} {xs : List V} (h : H a = some (.tup xs)) : ∀ H1, Ex H H1 → TyX K H1 (V.ref a) (.type "tuple") := fun _ e => .base (.tup (e _ _ h))
theorem kit_ii : kitB "int" "int" = some true := by decide +kernel
theorem kit_ib : kitB "int" "bool" = some false := by decide +kernel
theorem kit_bb : kitB "bool" "bool" = some true := by decide +kernel
theorem kit_bi : kitB "bool" "int" = some true := by decide +kernel
theorem kit_ll : kitB "list" "list" = some true := by decide +kernel
theorem kit_tt : kitB "tuple" "tuple" = some true := by decide +kernel
theorem ev_isiI {K : PySem.W.Frag} {σ : L2.St} {H : Hp} {ta : TE} {i : Int} (ha : Ev ta σ H (.int i)) : Ev (tCB (rIsi K) (tCons ta (tCons (tC (.ty "int")) tNil))) σ H (.bl true) := ev_isi ha isi_int kit_ii
theorem ev_isiB {K : PySem.W.Frag} {σ : L2.St} {H : Hp} {ta : TE} {i : Int} (ha : Ev ta σ H (.int i)) : Ev (tCB (rIsi K) (tCons ta (tCons (tC (.ty "bool")) tNil))) σ H (.bl false) := ev_isi ha isi_int kit_ib
theorem ev_isiL {K : PySem.W.Frag} {σ : L2.St} {H : Hp} {ta : TE} {a : Addr} {xs : List V} (ha : Ev ta σ H (.ref a)) (h : H a = some (.lst xs)) : Ev (tCB (rIsi K) (tCons ta (tCons (tC (.ty "list")) tNil))) σ H (.bl true) := ev_isi ha (isi_lst h) kit_ll
theorem ev_isiBB {K : PySem.W.Frag} {σ : L2.St} {H : Hp} {ta : TE} {b : Bool} (ha : Ev ta σ H (.bl b)) : Ev (tCB (rIsi K) (tCons ta (tCons (tC (.ty "bool")) tNil))) σ H (.bl true) := ev_isi ha isi_bl kit_bb
theorem ev_chain {σ : L2.St} {H : Hp} {ta tb tc : TE} {g g' : Int → Int → Bool} {a b c : Int} (ha : Ev ta σ H (.int a)) (hb : Ev tb σ H (.int b)) (hc : Ev tc σ H (.int c)) :
    Ev (tChain (rI0 fun i j => .bl (g i j)) (rI0 fun i j => .bl (g' i j)) ta tb tc) σ H (.bl (g a b && g' b c)) := fun H1 e Q q =>
  ha H1 e _ fun H2 e2 => hb H2 (e.trans e2) _ fun H3 e3 => ⟨a, b, rfl, rfl, g a b, rfl, by
    cases hg : g a b with
    | true =>
      rw [if_pos rfl]
      rw [hg, Bool.true_and] at q
      exact hc H3 ((e.trans e2).trans e3) _ fun H4 e4 => ⟨b, c, rfl, rfl, q H4 ((e2.trans e3).trans e4)⟩
    | false =>
      rw [if_neg (by decide)]
      rw [hg, Bool.false_and] at q
      exact q H3 (e2.trans e3)⟩
theorem ev_isN {σ : L2.St} {H : Hp} {ta : TE} {x : V} (ha : Ev ta σ H x) : Ev (tOp rIsN ta (tC .non)) σ H (.bl (decide (x = .non))) := fun H1 e Q q => ha H1 e _ fun H2 e2 => ⟨rfl, q H2 e2⟩
theorem ev_notN {σ : L2.St} {H : Hp} {ta : TE} {x : V} (ha : Ev ta σ H x) : Ev (tOp rNotN ta (tC .non)) σ H (.bl (!decide (x = .non))) := fun H1 e Q q => ha H1 e _ fun H2 e2 => ⟨rfl, q H2 e2⟩
theorem ev_min2 {σ : L2.St} {H : Hp} {ta tb : TE} {i j : Int} (ha : Ev ta σ H (.int i)) (hb : Ev tb σ H (.int j)) :
    Ev (tCB (fun xs H Q => ∃ i j, xs = [.int i, .int j] ∧ Q (.int (if j < i then j else i)) H) (tCons ta (tCons tb tNil))) σ H (.int (if j < i then j else i)) :=
  ev_cb (ea_cons ha (ea_cons hb ea_nil)) fun H1 _ _ q => ⟨i, j, rfl, q H1 (Ex.refl H1)⟩
theorem ev_negI {σ : L2.St} {H : Hp} {ta : TE} {i : Int} (ha : Ev ta σ H (.int i)) : Ev (tUn (rU fun i => .int (-i)) ta) σ H (.int (-i)) := ev_un ha ru_neg
theorem ev_I0 {σ : L2.St} {H : Hp} {ta tb : TE} {g : Int → Int → V} {i j : Int} (ha : Ev ta σ H (.int i)) (hb : Ev tb σ H (.int j)) : Ev (tOp (rI0 g) ta tb) σ H (g i j) := ev_op ha hb rv_I0
theorem ev_I {σ : L2.St} {H : Hp} {ta tb : TE} {C : Int → Int → Prop} {g : Int → Int → V} {i j : Int} (ha : Ev ta σ H (.int i)) (hb : Ev tb σ H (.int j)) (hc : C i j) : Ev (tOp (rI C g) ta tb) σ H (g i j) := ev_op ha hb (rv_I hc)
theorem ev_eq {σ : L2.St} {H : Hp} {ta tb : TE} {x y : V} (ha : Ev ta σ H x) (hb : Ev tb σ H y) (hs : scal x y = true) : Ev (tOp rEq ta tb) σ H (.bl (decide (x = y))) := ev_op ha hb (rv_eq hs)
theorem ev_ne {σ : L2.St} {H : Hp} {ta tb : TE} {x y : V} (ha : Ev ta σ H x) (hb : Ev tb σ H y) (hs : scal x y = true) : Ev (tOp rNe ta tb) σ H (.bl (!decide (x = y))) := ev_op ha hb (rv_ne hs)
theorem et_B' {σ : L2.St} {H : Hp} {te : TE} {x : V} {b : Bool} (h : Ev te σ H x) (e : x = .bl b) : EvT (tB te) σ H b := et_B (e ▸ h)
theorem dec_lt {a b : Nat} : decide ((a : Int) < (b : Int)) = decide (a < b) := by
  by_cases h : a < b
  · rw [decide_eq_true h, decide_eq_true (by omega)]
  · rw [decide_eq_false h, decide_eq_false (by omega)]
theorem int_at {ns : List Int} {i : Nat} {x : V} (hx : (ns.map V.int)[i]? = some x) : ∃ n, ns[i]? = some n ∧ i < ns.length ∧ x = V.int n := by
  rw [List.getElem?_map] at hx
  cases en : ns[i]? with
  | none => rw [en] at hx; cases hx
  | some n => rw [en] at hx; exact ⟨n, rfl, (List.getElem?_eq_some_iff.mp en).1, (Option.some.inj hx).symm⟩
theorem at_int {ns : List Int} {i : Nat} {n : Int} (h : ns[i]? = some n) : (ns.map V.int)[i]? = some (V.int n) := by rw [List.getElem?_map, h]; rfl
local macro_rules | `(tactic| walk_at "side") => `(tactic| first
  | omega | (show CMul _ _; unfold CMul; omega) | (show CDiv _ _; unfold CDiv; omega) | (show CPow _ _; unfold CPow; omega) | (show (_ : Int) < _; omega) | (show (_ : Int) ≤ _; omega) | decide)
local macro_rules | `(tactic| walk_at "ev") => `(tactic| first
  | exact ev_var rfl
  | exact ev_c
  | (refine' ev_I0 ?h1 ?h2; (case h1 => walk_at "ev"); (case h2 => walk_at "ev"))
  | (refine' ev_negI ?h1; (case h1 => walk_at "ev"))
  | (refine' ev_I ?h1 ?h2 ?hc; (case h1 => walk_at "ev"); (case h2 => walk_at "ev"); (case hc => walk_at "side"))
  | (refine' ev_eq ?h1 ?h2 ?hc; (case h1 => walk_at "ev"); (case h2 => walk_at "ev"); (case hc => rfl))
  | (refine' ev_ne ?h1 ?h2 ?hc; (case h1 => walk_at "ev"); (case h2 => walk_at "ev"); (case hc => rfl))
  | (refine' ev_max2 ?h1 ?h2; (case h1 => walk_at "ev"); (case h2 => walk_at "ev"))
  | (refine' ev_min2 ?h1 ?h2; (case h1 => walk_at "ev"); (case h2 => walk_at "ev"))
  | (refine' ev_chain ?h1 ?h2 ?h3; (case h1 => walk_at "ev"); (case h2 => walk_at "ev"); (case h3 => walk_at "ev"))
  | (refine' ev_isN ?h1; (case h1 => walk_at "ev"))
  | (refine' ev_notN ?h1; (case h1 => walk_at "ev"))
  | (refine' ev_isiI ?h1; (case h1 => walk_at "ev"))
  | (refine' ev_isiB ?h1; (case h1 => walk_at "ev"))
  | (refine' ev_isiBB ?h1; (case h1 => walk_at "ev"))
  | (refine' ev_andV ?h1 (fun _ => ?h2); (case h1 => walk_at "ev"); (case h2 => walk_at "ev"))
  | (refine' ev_orV ?h1 (fun _ => ?h2); (case h1 => walk_at "ev"); (case h2 => walk_at "ev"))
  | (refine' ev_notV ?h1; (case h1 => walk_at "ev"))
  | walk_at "evmore")
local macro_rules | `(tactic| walk_at "et") => `(tactic| first
  | (refine' et_test ?h1; (case h1 => walk_at "ev"))
  | (refine' et_B ?h1; (case h1 => walk_at "ev"))
  | (refine' et_not ?h1; (case h1 => walk_at "et"))
  | (refine' et_and ?h1 (fun _ => ?h2); (case h1 => walk_at "et"); (case h2 => walk_at "et"))
  | (refine' et_or ?h1 (fun _ => ?h2); (case h1 => walk_at "et"); (case h2 => walk_at "et")))
local macro_rules | `(tactic| walk_at "ea") => `(tactic| first
  | exact ea_nil
  | (refine' ea_cons ?h1 ?h2; (case h1 => walk_at "ev"); (case h2 => walk_at "ea")))
local macro_rules | `(tactic| walk_at "when") => `(tactic| (refine' q_when ?h ?h1 ?h2; (case h => walk_at "et")))
local macro_rules | `(tactic| walk_at "whenS") => `(tactic| (refine' s_when ?h ?h1 ?h2; (case h => walk_at "et")))
local macro_rules | `(tactic| walk_at "if") => `(tactic| (refine' q_if ?h ?h1 ?h2; (case h => walk_at "et")))
local macro_rules | `(tactic| walk_at "ifS") => `(tactic| (refine' s_if ?h ?h1 ?h2; (case h => walk_at "et")))
local macro_rules | `(tactic| walk_at "ret") => `(tactic| (refine' s_ret ?h ?h1; (case h => walk_at "ev")))
local macro_rules | `(tactic| walk_at "asg") => `(tactic| (refine' q_asg ?h ?h1; (case h => walk_at "ev")))
local macro_rules | `(tactic| walk_at "asgS") => `(tactic| (refine' s_asg ?h ?h1; (case h => walk_at "ev")))

/-! ### lists, existing or new -/
def EvR (te : TE) (σ : L2.St) (H : Hp) (xs : List V) : Prop := ∀ H1, Ex H H1 → ∀ Q : VK, (∀ p H2, Ex H1 H2 → H2 p = some (.lst xs) → Q (.ref p) H2) → te σ H1 Q
def EvS (K : PySem.W.Frag) (te : TE) (σ : L2.St) (H : Hp) (xs : List V) : Prop := ∀ H1, Ex H H1 → ∀ Q : VK, (∀ p H2, Ex H1 H2 → SqL K H2 p xs → Q (.ref p) H2) → te σ H1 Q
section
variable {K : PySem.W.Frag} {σ : L2.St} {H H' : Hp} {ta tb te : TE} {xs ys : List V} {a : Addr}
theorem EvL.r (h : EvL te σ H xs) : EvR te σ H xs := fun H1 e Q q => h H1 e Q fun p H2 _ e2 h2 => q p H2 e2 h2
theorem Ev.r (h : Ev te σ H (.ref a)) (hx : H a = some (.lst xs)) : EvR te σ H xs := fun H1 e Q q => h H1 e Q fun H2 e2 => q a H2 e2 (e2 _ _ (e _ _ hx))
theorem EvR.s (h : EvR te σ H xs) : EvS K te σ H xs := fun H1 e Q q => h H1 e Q fun p H2 e2 h2 => q p H2 e2 (sq_of h2)
theorem Ev.s (h : Ev te σ H (.ref a)) (hx : SqL K H a xs) : EvS K te σ H xs := fun H1 e Q q => h H1 e Q fun H2 e2 => q a H2 e2 (ex_l e2 (ex_l e hx))
theorem EvR.mono (e : Ex H H') (h : EvR te σ H xs) : EvR te σ H' xs := fun H1 a Q q => h H1 (e.trans a) Q q
theorem EvS.mono (e : Ex H H') (h : EvS K te σ H xs) : EvS K te σ H' xs := fun H1 a Q q => h H1 (e.trans a) Q q
theorem EvL.is (h : EvL te σ H xs) (e : xs = ys) : EvL te σ H ys := e ▸ h
theorem EvR.is (h : EvR te σ H xs) (e : xs = ys) : EvR te σ H ys := e ▸ h
theorem el_cat (ha : EvR ta σ H xs) (hb : EvR tb σ H ys) (hl : xs.length + ys.length ≤ 100000) : EvL (tOp rCat ta tb) σ H (xs ++ ys) := fun H1 e Q q =>
  ha H1 e _ fun p H2 e2 h2 => hb H2 (e.trans e2) _ fun r H3 e3 h3 => ⟨p, r, xs, ys, rfl, rfl, e3 _ _ h2, h3, sz_of hl, fun l hl => q l _ (fresh_back (e2.trans e3) hl) ((e2.trans e3).trans (Ex.new hl)) upd_same⟩
theorem el_rep {k : Int} (ha : EvR ta σ H xs) (hb : Ev tb σ H (.int k)) (hk : -(2 ^ 63) ≤ k ∧ k < 2 ^ 63) (hl : xs.length * k.toNat ≤ 100000) : EvL (tOp rRep ta tb) σ H (List.replicate k.toNat xs).flatten := fun H1 e Q q =>
  ha H1 e _ fun p H2 e2 h2 => hb H2 (e.trans e2) _ fun H3 e3 => ⟨p, k, xs, rfl, rfl, e3 _ _ h2, hk.1, hk.2, sz_of hl, fun l hl => q l _ (fresh_back (e2.trans e3) hl) ((e2.trans e3).trans (Ex.new hl)) upd_same⟩
theorem rep_one {x : V} (n : Nat) : (List.replicate n [x]).flatten = List.replicate n x := by
  induction n with
  | zero => rfl
  | succ n ih => rw [List.replicate_succ, List.replicate_succ, List.flatten_cons, ih]; rfl
theorem el_of {te : TE} (h : EvS K te σ H xs) : EvL (tCB (rListS K) (tCons te tNil)) σ H xs := fun H1 e Q q =>
  h H1 e _ fun p H2 e2 h2 => ⟨p, xs, rfl, .inl h2, fun l hl => q l _ (fresh_back e2 hl) (e2.trans (Ex.new hl)) upd_same⟩
theorem ev_lenS (h : EvS K te σ H xs) : Ev (tCB (rLenS K) (tCons te tNil)) σ H (.int (xs.length : Int)) := fun H1 e Q q =>
  h H1 e _ fun p H2 e2 h2 => ⟨p, xs, rfl, .inl h2, q H2 e2⟩
theorem ev_sum {ns : List Int} (h : EvS K te σ H (ns.map V.int)) : Ev (tCB (rSum K) (tCons te tNil)) σ H (.int ns.sum) := fun H1 e Q q =>
  h H1 e _ fun p H2 e2 h2 => ⟨p, ns, rfl, h2, q H2 e2⟩
theorem dp_ints {K : PySem.W.Frag} {H : Hp} : ∀ ns : List Int, DpAll K H (ns.map V.int) (ns.map PyData.int)
  | [] => .nil
  | n :: r => .cons (.int n) (dp_ints r)
theorem eqv_ints : ∀ ns ms : List Int, PyData.eqvAll (ns.map PyData.int) (ms.map PyData.int) = decide (ns = ms)
  | [], [] => by simp [PyData.eqvAll]
  | [], _ :: _ => by simp [PyData.eqvAll]
  | _ :: _, [] => by simp [PyData.eqvAll]
  | n :: r, m :: t => by
    show (PyData.eqv (.int n) (.int m) && PyData.eqvAll (r.map PyData.int) (t.map PyData.int)) = _
    rw [eqv_ints r t]
    show ((n == m) && decide (r = t)) = _
    by_cases h1 : n = m <;> by_cases h2 : r = t <;> simp [h1, h2]
theorem canLay_ints : ∀ ns : List Int, PyData.canLayAll0 (ns.map PyData.int) = true
  | [] => by simp [PyData.canLayAll0]
  | n :: r => by
    show PyData.canLayAll0 (PyData.int n :: r.map PyData.int) = true
    rw [PyData.canLayAll0, canLay_ints r]
    simp [PyData.canLay0]
theorem depth_ints : ∀ ns : List Int, PyData.depthAll (ns.map PyData.int) ≤ 1
  | [] => by simp [PyData.depthAll]
  | n :: r => by
    show PyData.depthAll (PyData.int n :: r.map PyData.int) ≤ 1
    have := depth_ints r
    simp only [PyData.depthAll, PyData.depth]
    omega
theorem shaped_ints (ns : List Int) : SeqAt.shaped (.list (ns.map PyData.int)) = true := by
  unfold SeqAt.shaped
  have h1 := canLay_ints ns
  have h2 := depth_ints ns
  have h3 : PyData.depth (.list (ns.map PyData.int)) ≤ 64 := by
    rw [PyData.depth]
    omega
  rw [decide_eq_true h3, Bool.and_true]
  simpa only [PyData.canLay0] using h1
theorem ev_eqI {ns ms : List Int} (ha : EvS K ta σ H (ns.map V.int)) (hb : EvS K tb σ H (ms.map V.int)) : Ev (tOp (rEqD K) ta tb) σ H (.bl (decide (ns = ms))) := fun H1 e Q q =>
  ha H1 e _ fun p H2 e2 h2 => hb H2 (e.trans e2) _ fun r H3 e3 h3 => ⟨.list (ns.map PyData.int), .list (ms.map PyData.int), .lst (ex_l e3 h2) (dp_ints ns), .lst h3 (dp_ints ms), shaped_ints ns, shaped_ints ms, by
    show Q (.bl (PyData.eqvAll (ns.map PyData.int) (ms.map PyData.int))) H3
    rw [eqv_ints]
    exact q H3 (e2.trans e3)⟩
theorem ev_neI {ns ms : List Int} (ha : EvS K ta σ H (ns.map V.int)) (hb : EvS K tb σ H (ms.map V.int)) : Ev (tOp (rNeD K) ta tb) σ H (.bl (!decide (ns = ms))) := fun H1 e Q q =>
  ha H1 e _ fun p H2 e2 h2 => hb H2 (e.trans e2) _ fun r H3 e3 h3 => ⟨.list (ns.map PyData.int), .list (ms.map PyData.int), .lst (ex_l e3 h2) (dp_ints ns), .lst h3 (dp_ints ms), shaped_ints ns, shaped_ints ms, by
    show Q (.bl (!PyData.eqvAll (ns.map PyData.int) (ms.map PyData.int))) H3
    rw [eqv_ints]
    exact q H3 (e2.trans e3)⟩
theorem ev_ixS {i : Nat} {n : Int} {tl ti : TE} {v : V} (h : EvS K tl σ H xs) (hi : Ev ti σ H (.int n)) (ha : atI xs n = some v) : Ev (tOp (rIxL K) tl ti) σ H v := fun H1 e Q q =>
  h H1 e _ fun p H2 e2 h2 => hi H2 (e.trans e2) _ fun H3 e3 => ⟨p, xs, n, v, rfl, rfl, ex_l e3 h2, ha, q H3 (e2.trans e3)⟩
theorem el_slS {tl th : TO} {lo hi : Option Int} (h : EvS K te σ H xs) (h1 : EvO tl σ H lo) (h2 : EvO th σ H hi) : EvL (tSl (rSlL K) te tl th) σ H (cutV xs lo hi) := fun H1 e _ q =>
  h H1 e _ fun a H2 e2 hs => h1 H2 (e.trans e2) _ fun H3 e3 => h2 H3 ((e.trans e2).trans e3) _ fun H4 e4 =>
    ⟨a, xs, rfl, ex_l (e3.trans e4) hs, fun p hp => q p _ (fresh_back ((e2.trans e3).trans e4) hp) (((e2.trans e3).trans e4).trans (Ex.new hp)) upd_same⟩
theorem ev_at {n : Int} {tl ti : TE} {v : V} (h : EvS K tl σ H xs) (hi : Ev ti σ H (.int n)) (ha : atI xs n = some v) : Ev (tOp (rIxL K) tl ti) σ H v := ev_ixS (i := 0) h hi ha
theorem cut_to (xs : List V) (i : Nat) : cutV xs none (some (i : Int)) = xs.take i := by
  unfold cutV
  rw [HT.sIx_none, HT.sIx_nat, List.drop_zero, Nat.sub_zero]
  by_cases h : i ≤ xs.length
  · rw [Nat.min_eq_left h]
  · rw [Nat.min_eq_right (by omega), List.take_of_length_le (Nat.le_refl _), List.take_of_length_le (by omega)]
theorem cut_from (xs : List V) (i : Nat) : cutV xs (some (i : Int)) none = xs.drop i := by
  unfold cutV
  rw [HT.sIx_none, HT.sIx_nat]
  by_cases h : i ≤ xs.length
  · rw [Nat.min_eq_left h, List.take_of_length_le (by rw [List.length_drop]; omega)]
  · rw [Nat.min_eq_right (by omega), List.drop_of_length_le (Nat.le_refl _), List.drop_of_length_le (show xs.length ≤ i by omega), List.take_nil]
theorem cut_mid (xs : List V) (i j : Nat) : cutV xs (some (i : Int)) (some (j : Int)) = (xs.drop i).take (j - i) := by
  unfold cutV
  rw [HT.sIx_nat, HT.sIx_nat]
  by_cases h : i ≤ xs.length
  · rw [Nat.min_eq_left h]
    by_cases h2 : j ≤ xs.length
    · rw [Nat.min_eq_left h2]
    · rw [Nat.min_eq_right (by omega), List.take_of_length_le (by rw [List.length_drop]; omega), List.take_of_length_le (by rw [List.length_drop]; omega)]
  · rw [Nat.min_eq_right (by omega : xs.length ≤ i), List.drop_of_length_le (Nat.le_refl _), List.drop_of_length_le (show xs.length ≤ i by omega)]
    simp
theorem el_to {th : TE} {ns : List Int} {i : Nat} (h : EvS K te σ H (ns.map V.int)) (h2 : Ev th σ H (.int i)) : EvL (tSl (rSlL K) te tNoPart (tPart th)) σ H ((ns.take i).map V.int) :=
  EvL.is (el_slS h eo_none (eo_some h2)) (by rw [List.map_take]; exact cut_to _ i)
theorem el_from {th : TE} {ns : List Int} {i : Nat} (h : EvS K te σ H (ns.map V.int)) (h2 : Ev th σ H (.int i)) : EvL (tSl (rSlL K) te (tPart th) tNoPart) σ H ((ns.drop i).map V.int) :=
  EvL.is (el_slS h (eo_some h2) eo_none) (by rw [List.map_drop]; exact cut_from _ i)
theorem el_mid {t1 t2 : TE} {ns : List Int} {i j : Nat} (h : EvS K te σ H (ns.map V.int)) (h1 : Ev t1 σ H (.int i)) (h2 : Ev t2 σ H (.int j)) : EvL (tSl (rSlL K) te (tPart t1) (tPart t2)) σ H (((ns.drop i).take (j - i)).map V.int) :=
  EvL.is (el_slS h (eo_some h1) (eo_some h2)) (by rw [List.map_take, List.map_drop]; exact cut_mid _ i j)
section
variable {D : Ends} {tz : TS} {sp : Sp} {dvs vs : List V} {E : XK} {tA : TA}
/-- x = f(..), whatever f promises -/
theorem q_asgC {i : Nat} (h : EvA tA σ H vs) (k : ∀ H1, Ex H H1 → sp (vs ++ dvs) H1 (fun x H2 => tz D (σ.set i (some x)) H2) E) : tSeq (tAsg (tCall sp dvs E tA) (gName i)) tz D σ H := h H (Ex.refl H) _ fun H1 e => k H1 e
theorem s_asgC {i : Nat} (h : EvA tA σ H vs) (k : ∀ H1, Ex H H1 → sp (vs ++ dvs) H1 (fun x H2 => D.nx (σ.set i (some x)) H2) E) : tAsg (tCall sp dvs E tA) (gName i) D σ H := h H (Ex.refl H) _ fun H1 e => k H1 e
theorem q_dropC (h : EvA tA σ H vs) (k : ∀ H1, Ex H H1 → sp (vs ++ dvs) H1 (fun _ H2 => tz D σ H2) E) : tSeq (tDrop (tCall sp dvs E tA)) tz D σ H := h H (Ex.refl H) _ fun H1 e => k H1 e
theorem s_retC (h : EvA tA σ H vs) (k : ∀ H1, Ex H H1 → sp (vs ++ dvs) H1 D.rt E) : tRet (tCall sp dvs E tA) D σ H := h H (Ex.refl H) _ fun H1 e => k H1 e
end
theorem gl_get {ns : List Int} {i : Nat} (h : i < ns.length) : ns[i]? = some (ns.getD i 0) := by
  rw [List.getD_eq_getElem?_getD, List.getElem?_eq_getElem h]
  rfl
theorem q_asgRaw {te : TE} {i : Nat} {D : Ends} {tz : TS} (P : V → Hp → Prop) (h : ∀ Q : VK, (∀ x H2, P x H2 → Q x H2) → te σ H Q) (k : ∀ x H2, P x H2 → tz D (σ.set i (some x)) H2) : tSeq (tAsg te (gName i)) tz D σ H := h _ k
/-- a, b = a pair -/
theorem q_asgT {te : TE} {i j : Nat} {D : Ends} {tz : TS} (P : V → V → Hp → Prop) (h : ∀ Q : VK, (∀ t x y H2, P x y H2 → SqT K H2 t [x, y] → Q (.ref t) H2) → te σ H Q) (k : ∀ x y H2, P x y H2 → tz D ((σ.set i (some x)).set j (some y)) H2) :
    tSeq (tAsg te (gTup K 2 (gCons (gName i) (gCons (gName j) gNil)))) tz D σ H := h _ fun t x y H2 hP hT => ⟨t, [x, y], rfl, hT, rfl, x, [y], rfl, y, [], rfl, rfl, k x y H2 hP⟩
/-- the law's cell -/
def cellI (ns : List Int) (k : Int) : Int := ns.getD k.toNat 0
theorem cellI_in {ns : List Int} {k : Int} (h0 : 0 ≤ k) (h : k < ns.length) : ns[k.toNat]? = some (cellI ns k) := by
  unfold cellI
  rw [List.getD_eq_getElem?_getD, List.getElem?_eq_getElem (by omega)]
  rfl
theorem cellI_out {ns : List Int} {k : Int} (h : ¬ k < ns.length) : cellI ns k = 0 := by
  unfold cellI
  rw [List.getD_eq_getElem?_getD, List.getElem?_eq_none (by omega)]
  rfl
end
theorem Ex.get {H H' : Hp} {a : Addr} {o : HO} (e : Ex H H') (h : H a = some o) : H' a = some o := e a o h
local macro_rules | `(tactic| walk_at "hp") => `(tactic| first
  | assumption
  | exact upd_same
  | (refine' Ex.get (by assumption) ?h1; (case h1 => walk_at "hp")))
local macro_rules | `(tactic| walk_at "ex") => `(tactic| first
  | assumption
  | exact Ex.refl _
  | (refine' Ex.trans ?h1 (by assumption); (case h1 => walk_at "ex")))
local macro_rules | `(tactic| walk_at "sq") => `(tactic| first
  | assumption
  | (refine' sq_of ?h1; (case h1 => walk_at "hp"))
  | (refine' ex_l (by assumption) ?h1; (case h1 => walk_at "sq")))
local macro_rules | `(tactic| walk_at "evs") => `(tactic| first
  | (refine' Ev.s ?h1 ?h2; (case h1 => exact ev_var rfl); (case h2 => walk_at "sq"))
  | (refine' EvR.s ?h1; (case h1 => walk_at "evr")))
local macro_rules | `(tactic| walk_at "evr") => `(tactic| first
  | (refine' Ev.r ?h1 ?h2; (case h1 => exact ev_var rfl); (case h2 => walk_at "hp"))
  | (refine' EvL.r ?h1; (case h1 => walk_at "el")))
local macro_rules | `(tactic| walk_at "eo") => `(tactic| first
  | exact eo_none
  | (refine' eo_some ?h1; (case h1 => walk_at "ev")))
local macro_rules | `(tactic| walk_at "el") => `(tactic| first
  | (refine' el_lst ?h1 ?h2; (case h1 => walk_at "ea"); (case h2 => exact Nat.le_of_ble_eq_true rfl))
  | (refine' el_cat ?h1 ?h2 ?h3; (case h1 => walk_at "evr"); (case h2 => walk_at "evr"); (case h3 => walk_at "len"))
  | (refine' el_rep ?h1 ?h2 ?h3 ?h4; (case h1 => walk_at "evr"); (case h2 => walk_at "ev"); (case h3 => walk_at "side2"); (case h4 => walk_at "len"))
  | (refine' el_of ?h1; (case h1 => walk_at "evs"))
  | (refine' el_to ?h1 ?h2; (case h1 => walk_at "evs"); (case h2 => walk_at "ev"))
  | (refine' el_from ?h1 ?h2; (case h1 => walk_at "evs"); (case h2 => walk_at "ev"))
  | (refine' el_mid ?h1 ?h2 ?h3; (case h1 => walk_at "evs"); (case h2 => walk_at "ev"); (case h3 => walk_at "ev"))
  | (refine' el_slS ?h1 ?h2 ?h3; (case h1 => walk_at "evs"); (case h2 => walk_at "eo"); (case h3 => walk_at "eo"))
  | walk_at "elmore")
local macro_rules | `(tactic| walk_at "evmore") => `(tactic| first
  | (refine' ev_lenS ?h1; (case h1 => walk_at "evs"))
  | (refine' ev_sum ?h1; (case h1 => walk_at "evs"))
  | (refine' ev_eqI ?h1 ?h2; (case h1 => walk_at "evs"); (case h2 => walk_at "evs"))
  | (refine' ev_neI ?h1 ?h2; (case h1 => walk_at "evs"); (case h2 => walk_at "evs"))
  | (refine' ev_at ?h1 ?h2 ?h3; (case h1 => walk_at "evs"); (case h2 => walk_at "ev"); (case h3 => walk_at "at"))
  | (refine' ev_isiL ?h1 ?h2; (case h1 => walk_at "ev"); (case h2 => walk_at "hp"))
  | walk_at "evown")
local macro_rules | `(tactic| walk_at "at") => `(tactic| first
  | exact at_of rfl (at_int (by assumption))
  | exact at_of rfl (by assumption))
local macro_rules | `(tactic| walk_at "asgL") => `(tactic| (refine' q_asgL ?h ?h1; (case h => walk_at "el")))
local macro_rules | `(tactic| walk_at "retL") => `(tactic| (refine' s_retL ?h ?h1; (case h => walk_at "el")))

/-- a walk's reading said in other words -/
theorem PI.k {X : Cx} {tg e : Expr} {wi wi' : TI} (h : PI X tg e wi) (q : wi = wi') : PI X tg e wi' := q ▸ h
/-! ### comprehensions whose items are said in a list -/
theorem et_yes {σ : L2.St} {H : Hp} : EvT tYes σ H true := fun H1 _ _ q => q H1 (Ex.refl H1)
section
variable {K : PySem.W.Frag} {σ : L2.St} {H : Hp} {t1 t2 te : TE} {xs ys zs : List V} {vs : List Nat}
theorem take_snoc {zs : List V} {i : Nat} {z : V} (h : zs[i]? = some z) : zs.take (i + 1) = zs.take i ++ [z] := by
  rw [List.take_add_one, h]
  rfl
theorem el_lcZ {j1 j2 : Nat} (zs : List V) (h1 : EvS K t1 σ H xs) (h2 : EvS K t2 σ H ys) (hz : zs.length = min xs.length ys.length) (hb : zs.length ≤ 50000)
    (hw : ∀ x y, wipe (((wipe σ vs).set j1 (some x)).set j2 (some y)) vs = wipe σ vs)
    (he : ∀ (i : Nat) (x y : V) H1, Ex H H1 → xs[i]? = some x → ys[i]? = some y → ∃ z, zs[i]? = some z ∧ Ev te (((wipe σ vs).set j1 (some x)).set j2 (some y)) H1 z) :
    EvL (tLc (iZip K (tCons t1 (tCons t2 tNil))) (gTup K 2 (gCons (gName j1) (gCons (gName j2) gNil))) tYes te vs) σ H zs := fun H0 e Q q =>
  h1 H0 e _ fun p H1 e1 hp => h2 H1 (e.trans e1) _ fun r H2 e2 hr => ⟨p, r, xs, ys, rfl, ex_l e2 hp, hr, fun D hD =>
    ⟨fun i m H' => m = zs.length - i ∧ i ≤ zs.length ∧ Ex H2 H' ∧ H' D = some (.lst (zs.take i)), ⟨zs.length, rfl, Nat.zero_le _, Ex.new hD, upd_same⟩, by
      rintro i m H' ⟨rfl, hi, ex, hd⟩
      have qx : SqL K H' p xs := ex_l (e2.trans ex) hp
      have qy : SqL K H' r ys := ex_l ex hr
      by_cases hlt : i < zs.length
      · have hx : xs[i]? = some xs[i] := List.getElem?_eq_getElem (by omega)
        have hy : ys[i]? = some ys[i] := List.getElem?_eq_getElem (by omega)
        refine .inr ⟨⟨xs, ys, _, _, qx, qy, hx, hy⟩, fun H3 => i + 1 ≤ zs.length ∧ Ex H2 H3 ∧ H3 D = some (.lst (zs.take (i + 1))), fun H3 h3 => ⟨zs.length - (i + 1), by omega, rfl, h3⟩, fun v H3 hv => ?_⟩
        obtain ⟨T, x, y, rfl, hT, rfl, f1, f2⟩ := hv
        have ex3 : Ex H' (upd H' T (.tup [x, y])) := Ex.new hT
        obtain ⟨z, hz1, hz2⟩ := he i x y (upd H' T (.tup [x, y])) ((((e.trans e1).trans e2).trans ex).trans ex3) (f1 _ qx) (f2 _ qy)
        refine ⟨T, [x, y], rfl, st_of upd_same, rfl, x, [y], rfl, y, [], rfl, rfl, hw x y, ?_⟩
        refine hz2 _ (Ex.refl _) _ fun H4 e4 => ⟨zs.take i, e4 _ _ (ex3 _ _ hd), sz_lt (by rw [List.length_take]; omega), hlt, ?_, ?_⟩
        · exact Ex.mut ((ex.trans ex3).trans e4) hD
        · rw [upd_same, take_snoc hz1]
      · have ei : i = zs.length := by omega
        refine .inl ⟨⟨xs, ys, qx, qy, by omega⟩, ?_⟩
        rw [ei, List.take_length] at hd
        exact q D H' (fresh_back (e1.trans e2) hD) ((e1.trans e2).trans ex) hd⟩⟩
/-- over a list, each item kept -/
theorem el_lcS {j : Nat} (zs : List V) (h1 : EvS K t1 σ H xs) (hz : zs.length = xs.length) (hb : zs.length ≤ 50000) (hw : ∀ x, wipe ((wipe σ vs).set j (some x)) vs = wipe σ vs)
    (he : ∀ (i : Nat) (x : V) H1, Ex H H1 → xs[i]? = some x → ∃ z, zs[i]? = some z ∧ Ev te ((wipe σ vs).set j (some x)) H1 z) :
    EvL (tLc (iList K t1) (gName j) tYes te vs) σ H zs := fun H0 e Q q =>
  h1 H0 e _ fun p H1 e1 hp => ⟨p, rfl, ⟨xs, hp⟩, fun D hD => lc_list (xs := xs) (fun i H' => Ex H1 H' ∧ H' D = some (.lst (zs.take i))) ⟨Ex.new hD, upd_same⟩ (fun i H' _ h => ex_l h.1 hp)
    (fun i x H' hi h => ⟨hw x, by
      obtain ⟨z, hz1, hz2⟩ := he i x H' ((e.trans e1).trans h.1) hi
      have hl : i < xs.length := (List.getElem?_eq_some_iff.mp hi).1
      refine hz2 H' (Ex.refl _) _ fun H4 e4 => ⟨zs.take i, e4 _ _ h.2, sz_lt (by rw [List.length_take]; omega), Ex.mut (h.1.trans e4) hD, ?_⟩
      rw [upd_same, take_snoc hz1]⟩)
    (fun H' h => q D H' (fresh_back e1 hD) (e1.trans h.1) (by rw [h.2, ← hz, List.take_length]))⟩
/-- over range(n) -/
theorem el_lcR {ta : TA} {n : Int} {j : Nat} (zs : List V) (h1 : EvA ta σ H [.int n]) (hn : -100000 ≤ n) (hz : zs.length = n.toNat) (hb : zs.length ≤ 50000) (hw : ∀ x, wipe ((wipe σ vs).set j (some x)) vs = wipe σ vs)
    (he : ∀ (i : Nat) H1, Ex H H1 → i < zs.length → ∃ z, zs[i]? = some z ∧ Ev te ((wipe σ vs).set j (some (.int (i : Int)))) H1 z) :
    EvL (tLc (iRng1 ta) (gName j) tYes te vs) σ H zs := fun H0 e Q q =>
  h1 H0 e _ fun H1 e1 => ⟨n, rfl, by omega, by omega, fun D hD => lc_range (lo := 0) (n := n.toNat) (fun i H' => Ex H1 H' ∧ H' D = some (.lst (zs.take i))) ⟨Ex.new hD, upd_same⟩
    (fun i H' hi h => by
      have e0 : (0 : Int) + (i : Int) = (i : Int) := Int.zero_add _
      rw [e0]
      obtain ⟨z, hz1, hz2⟩ := he i H' ((e.trans e1).trans h.1) (by omega)
      refine ⟨hw _, hz2 H' (Ex.refl _) _ fun H4 e4 => ⟨zs.take i, e4 _ _ h.2, sz_lt (by rw [List.length_take]; omega), Ex.mut (h.1.trans e4) hD, ?_⟩⟩
      rw [upd_same, take_snoc hz1])
    (fun H' h => q D H' (fresh_back e1 hD) (e1.trans h.1) (by rw [h.2, show n.toNat = zs.length by omega, List.take_length]))⟩
/-- y = [.. for x in f(..)], whatever f promises -/
theorem s_asgLC {sp : Sp} {dvs args : List V} {E : XK} {ta : TA} {g : TG} {tt : TT} {D : Ends} {i : Nat} (h : EvA ta σ H args) (k : ∀ H1, Ex H H1 → sp (args ++ dvs) H1 (fun x H2 => tAsg (tLc (iList K (tC x)) g tt te vs) (gName i) D σ H2) E) :
    tAsg (tLc (iList K (tCall sp dvs E ta)) g tt te vs) (gName i) D σ H := h H (Ex.refl H) _ fun H1 e => k H1 e
theorem q_asgLC {sp : Sp} {dvs args : List V} {E : XK} {ta : TA} {g : TG} {tt : TT} {D : Ends} {i : Nat} {tz : TS} (h : EvA ta σ H args) (k : ∀ H1, Ex H H1 → sp (args ++ dvs) H1 (fun x H2 => tSeq (tAsg (tLc (iList K (tC x)) g tt te vs) (gName i)) tz D σ H2) E) :
    tSeq (tAsg (tLc (iList K (tCall sp dvs E ta)) g tt te vs) (gName i)) tz D σ H := h H (Ex.refl H) _ fun H1 e => k H1 e
end

/-! ### data at any depth -/
mutual
theorem dp_ex {K : PySem.W.Frag} {H H' : Hp} (e : Ex H H') : ∀ (d : PyData) (v : V), Dp K H v d → Dp K H' v d
  | .none, _, h => by cases h; exact .non
  | .bool b, _, h => by cases h; exact .bl b
  | .int i, _, h => by cases h; exact .int i
  | .str x, _, h => by cases h; exact .str x
  | .list ds, _, h => by cases h with | lst hs ha => exact .lst (ex_l e hs) (dpa_ex e ds _ ha)
  | .tuple ds, _, h => by cases h with | tup hs ha => exact .tup (ex_t e hs) (dpa_ex e ds _ ha)
  | .dict _, _, h => by cases h
theorem dpa_ex {K : PySem.W.Frag} {H H' : Hp} (e : Ex H H') : ∀ (ds : List PyData) (vs : List V), DpAll K H vs ds → DpAll K H' vs ds
  | [], _, h => by cases h; exact .nil
  | d :: ds, _, h => by cases h with | cons h1 h2 => exact .cons (dp_ex e d _ h1) (dpa_ex e ds _ h2)
end
def EvD (K : PySem.W.Frag) (te : TE) (σ : L2.St) (H : Hp) (d : PyData) : Prop := ∀ H1, Ex H H1 → ∀ Q : VK, (∀ v H2, Ex H1 H2 → Dp K H2 v d → Q v H2) → te σ H1 Q
section
variable {K : PySem.W.Frag} {σ : L2.St} {H : Hp} {te ta tb t1 t2 t3 : TE} {d d1 d2 d3 : PyData} {v : V}
theorem EvD.of (h : Ev te σ H v) (hd : Dp K H v d) : EvD K te σ H d := fun H1 e Q q => h H1 e _ fun H2 e2 => q v H2 e2 (dp_ex (e.trans e2) d v hd)
theorem EvS.toD {ns : List Int} (h : EvS K te σ H (ns.map V.int)) : EvD K te σ H (.list (ns.map .int)) := fun H1 e Q q => h H1 e _ fun p H2 e2 hp => q (.ref p) H2 e2 (.lst hp (dp_ints ns))
theorem ed_tup2 (h1 : EvD K t1 σ H d1) (h2 : EvD K t2 σ H d2) : EvD K (tTup (tCons t1 (tCons t2 tNil))) σ H (.tuple [d1, d2]) := fun H1 e Q q => h1 H1 e _ fun v H2 e2 hv => h2 H2 (e.trans e2) _ fun u H3 e3 hu =>
  ⟨sz_of (show 2 ≤ 100000 by decide), fun p hp => q (.ref p) _ ((e2.trans e3).trans (Ex.new hp)) (.tup (st_of upd_same) (.cons (dp_ex (e3.trans (Ex.new hp)) _ _ hv) (.cons (dp_ex (Ex.new hp) _ _ hu) .nil)))⟩
theorem ev_eqDD (h1 : EvD K ta σ H d) (h2 : EvD K tb σ H d) (hs : SeqAt.shaped d = true) : Ev (tOp (rEqD K) ta tb) σ H (.bl true) := fun H1 e Q q => h1 H1 e _ fun v H2 e2 hv => h2 H2 (e.trans e2) _ fun u H3 e3 hu =>
  ⟨d, d, dp_ex e3 d v hv, hu, hs, hs, by rw [SeqAt.eqv_refl d (SeqAt.canLay_of_shaped hs)]; exact q H3 (e2.trans e3)⟩
theorem ev_neDD (h1 : EvD K ta σ H d) (h2 : EvD K tb σ H d) (hs : SeqAt.shaped d = true) : Ev (tOp (rNeD K) ta tb) σ H (.bl false) := fun H1 e Q q => h1 H1 e _ fun v H2 e2 hv => h2 H2 (e.trans e2) _ fun u H3 e3 hu =>
  ⟨d, d, dp_ex e3 d v hv, hu, hs, hs, by rw [SeqAt.eqv_refl d (SeqAt.canLay_of_shaped hs)]; exact q H3 (e2.trans e3)⟩
end
theorem shaped_pair (ns ms : List Int) : SeqAt.shaped (.tuple [.list (ns.map .int), .list (ms.map .int)]) = true := by
  unfold SeqAt.shaped
  have h1 := canLay_ints ns
  have h2 := depth_ints ns
  have h3 := canLay_ints ms
  have h4 := depth_ints ms
  rw [Bool.and_eq_true, decide_eq_true_iff]
  refine ⟨by simp only [PyData.canLay0, PyData.canLayAll0, h1, h3, Bool.and_self], ?_⟩
  simp only [PyData.depth, PyData.depthAll]
  omega

/-- what the top has left -/
structure TX (K : PySem.W.Frag) (mg : Str → Option Value) where
  a_points_for : Addr
  d_points_for : FuncData
  F_points_for : Fun K "points_for" "points_for" s_points_for a_points_for d_points_for
  b_points_for : Binds K d_points_for ["frames", "every"] []
  g_points_for : mg "points_for" = some (.ref a_points_for)
  a_nearest_point : Addr
  d_nearest_point : FuncData
  F_nearest_point : Fun K "nearest_point" "nearest_point" s_nearest_point a_nearest_point d_nearest_point
  b_nearest_point : Binds K d_nearest_point ["points", "sample"] []
  g_nearest_point : mg "nearest_point" = some (.ref a_nearest_point)
  a_holds_multiple : Addr
  d_holds_multiple : FuncData
  F_holds_multiple : Fun K "_holds_multiple" "_holds_multiple" s_holds_multiple a_holds_multiple d_holds_multiple
  b_holds_multiple : Binds K d_holds_multiple ["sample", "count", "every"] []
  g_holds_multiple : mg "_holds_multiple" = some (.ref a_holds_multiple)
  a_law_is_integer : Addr
  d_law_is_integer : FuncData
  F_law_is_integer : Fun K "_law_is_integer" "_law_is_integer" s_law_is_integer a_law_is_integer d_law_is_integer
  b_law_is_integer : Binds K d_law_is_integer ["actual"] []
  g_law_is_integer : mg "_law_is_integer" = some (.ref a_law_is_integer)
  a_law_refill : Addr
  d_law_refill : FuncData
  F_law_refill : Fun K "_law_refill" "_law_refill" s_law_refill a_law_refill d_law_refill
  b_law_refill : Binds K d_law_refill ["script", "k"] []
  g_law_refill : mg "_law_refill" = some (.ref a_law_refill)
  a_law_draw : Addr
  d_law_draw : FuncData
  F_law_draw : Fun K "_law_draw" "_law_draw" s_law_draw a_law_draw d_law_draw
  b_law_draw : Binds K d_law_draw ["state", "script", "size"] []
  g_law_draw : mg "_law_draw" = some (.ref a_law_draw)
  a_law_wide : Addr
  d_law_wide : FuncData
  F_law_wide : Fun K "_law_wide" "_law_wide" s_law_wide a_law_wide d_law_wide
  b_law_wide : Binds K d_law_wide ["state", "script", "size"] []
  g_law_wide : mg "_law_wide" = some (.ref a_law_wide)
  a_law_junk : Addr
  d_law_junk : FuncData
  F_law_junk : Fun K "_law_junk" "_law_junk" s_law_junk a_law_junk d_law_junk
  b_law_junk : Binds K d_law_junk ["state", "script", "count"] []
  g_law_junk : mg "_law_junk" = some (.ref a_law_junk)
  a_law_is_bytes : Addr
  d_law_is_bytes : FuncData
  F_law_is_bytes : Fun K "_law_is_bytes" "_law_is_bytes" s_law_is_bytes a_law_is_bytes d_law_is_bytes
  b_law_is_bytes : Binds K d_law_is_bytes ["actual"] []
  g_law_is_bytes : mg "_law_is_bytes" = some (.ref a_law_is_bytes)
  a_law_number_bytes : Addr
  d_law_number_bytes : FuncData
  F_law_number_bytes : Fun K "_law_number_bytes" "_law_number_bytes" s_law_number_bytes a_law_number_bytes d_law_number_bytes
  b_law_number_bytes : Binds K d_law_number_bytes ["number", "count"] []
  g_law_number_bytes : mg "_law_number_bytes" = some (.ref a_law_number_bytes)
  a_law_frames : Addr
  d_law_frames : FuncData
  F_law_frames : Fun K "_law_frames" "_law_frames" s_law_frames a_law_frames d_law_frames
  b_law_frames : Binds K d_law_frames ["state", "script"] []
  g_law_frames : mg "_law_frames" = some (.ref a_law_frames)
  a_law_holds : Addr
  d_law_holds : FuncData
  F_law_holds : Fun K "_law_holds" "_law_holds" s_law_holds a_law_holds d_law_holds
  b_law_holds : Binds K d_law_holds ["frame", "every"] []
  g_law_holds : mg "_law_holds" = some (.ref a_law_holds)
  a_law_nearest : Addr
  d_law_nearest : FuncData
  F_law_nearest : Fun K "_law_nearest" "_law_nearest" s_law_nearest a_law_nearest d_law_nearest
  b_law_nearest : Binds K d_law_nearest ["points", "sample"] []
  g_law_nearest : mg "_law_nearest" = some (.ref a_law_nearest)
  a_law_tuples : Addr
  d_law_tuples : FuncData
  F_law_tuples : Fun K "_law_tuples" "_law_tuples" s_law_tuples a_law_tuples d_law_tuples
  b_law_tuples : Binds K d_law_tuples ["actual"] []
  g_law_tuples : mg "_law_tuples" = some (.ref a_law_tuples)
  a_law : Addr
  d_law : FuncData
  F_law : Fun K "law" "law" s_law a_law d_law
  b_law : Binds K d_law ["script"] []
  g_law : mg "law" = some (.ref a_law)
  m_isinstance : mg "isinstance" = none
  m_int : mg "int" = none
  m_bool : mg "bool" = none
  m_len : mg "len" = none
  m_range : mg "range" = none
  m_list : mg "list" = none
  m_all : mg "all" = none
  m_tuple : mg "tuple" = none
  m_max : mg "max" = none
section
variable {P : Program} {w : World} {K : PySem.W.Frag} {mg : Str → Option Value} {base : Heap}
/-! ### int(x), bits of a number -/
theorem Ev.is {σ : L2.St} {H : Hp} {te : TE} {x y : V} (h : Ev te σ H x) (e : x = y) : Ev te σ H y := e ▸ h
theorem ev_int1 {σ : L2.St} {H : Hp} {te : TE} {i : Int} (h : Ev te σ H (.int i)) : Ev (tCB (fun xs H Q => (∃ i, xs = [V.int i] ∧ Q (V.int i) H) ∨ ∃ k, xs = [V.bl k] ∧ Q (V.int (if k = true then 1 else 0)) H) (tCons te tNil)) σ H (.int i) :=
  ev_cb (ea_cons h ea_nil) fun H1 _ Q q => .inl ⟨i, rfl, q H1 (Ex.refl H1)⟩
theorem q_augR {σ : L2.St} {H : Hp} {te : TE} {D : Ends} {tz : TS} {i : Nat} {g : Int → Int → V} {a b : Int} (h1 : σ[i]? = some (some (.int a))) (h : Ev te σ H (.int b)) (k : ∀ H1, Ex H H1 → tz D (σ.set i (some (g a b))) H1) : tSeq (tAug i te (rI0 g)) tz D σ H :=
  ⟨_, h1, h H (Ex.refl H) _ fun H1 e => ⟨a, b, rfl, rfl, k H1 e⟩⟩
theorem s_augR {σ : L2.St} {H : Hp} {te : TE} {D : Ends} {i : Nat} {g : Int → Int → V} {a b : Int} (h1 : σ[i]? = some (some (.int a))) (h : Ev te σ H (.int b)) (k : ∀ H1, Ex H H1 → D.nx (σ.set i (some (g a b))) H1) : tAug i te (rI0 g) D σ H :=
  ⟨_, h1, h H (Ex.refl H) _ fun H1 e => ⟨a, b, rfl, rfl, k H1 e⟩⟩
theorem ev_atT {K : PySem.W.Frag} {σ : L2.St} {H : Hp} {tl ti : TE} {t : Addr} {xs : List V} {n : Int} {v : V} (h : Ev tl σ H (.ref t)) (hT : SqT K H t xs) (hi : Ev ti σ H (.int n)) (ha : atI xs n = some v) : Ev (tOp (rIxT K) tl ti) σ H v := fun H1 e Q q =>
  h H1 e _ fun H2 e2 => hi H2 (e.trans e2) _ fun H3 e3 => ⟨t, xs, n, v, rfl, rfl, ex_t ((e.trans e2).trans e3) hT, ha, q H3 (e2.trans e3)⟩
local macro_rules | `(tactic| walk_at "side") => `(tactic| first
  | omega
  | (show CDivW _ _; exact ⟨by omega, by decide⟩)
  | (show CDivW _ _; exact wide_div (b := 80) (by omega) (by omega) (by decide) (by decide)))
local macro_rules | `(tactic| walk_at "evown") => `(tactic| (refine' ev_int1 ?h1; (case h1 => walk_at "ev")))
/-- numbers from 0 on, as such -/
def cs (ds : List Nat) : List Int := ds.map fun d : Nat => (d : Int)
theorem cs_of {ns : List Int} {b : Int} (h : ∀ n ∈ ns, 0 ≤ n ∧ n < b) : ∃ ds : List Nat, ns = cs ds ∧ ds.length = ns.length ∧ ∀ d ∈ ds, (d : Int) < b := by
  refine ⟨ns.map Int.toNat, ?_, List.length_map .., fun d hd => ?_⟩
  · unfold cs
    rw [List.map_map]
    conv => lhs; rw [← List.map_id ns]
    refine List.map_congr_left fun n hn => ?_
    have := (h n hn).1
    show n = ((n.toNat : Nat) : Int)
    omega
  · obtain ⟨n, hn, rfl⟩ := List.mem_map.mp hd
    have := h n hn
    omega
theorem cs_len (ds : List Nat) : (cs ds).length = ds.length := List.length_map ..
theorem cs_at {ds : List Nat} {i : Nat} {d : Nat} (h : ds[i]? = some d) : (cs ds)[i]? = some (d : Int) := by unfold cs; rw [List.getElem?_map, h]; rfl
theorem cs_take (ds : List Nat) (i : Nat) : (cs ds).take i = cs (ds.take i) := by unfold cs; rw [List.map_take]
theorem cs_drop (ds : List Nat) (i : Nat) : (cs ds).drop i = cs (ds.drop i) := by unfold cs; rw [List.map_drop]
theorem cs_append (ds es : List Nat) : cs (ds ++ es) = cs ds ++ cs es := List.map_append ..

theorem ev_all {σ : L2.St} {H : Hp} {te : TE} {bs : List Bool} {b : Bool} (h : EvS K te σ H (bs.map V.bl)) (hb : bs.all id = b) : Ev (tCB (rAll K) (tCons te tNil)) σ H (.bl b) := fun H1 e Q q => h H1 e _ fun p H2 e2 hp => ⟨p, bs, rfl, hp, by rw [hb]; exact q H2 e2⟩

/-! ### from what is evaluated to what follows -/
theorem ev_go {te : TE} {σ : L2.St} {H : Hp} {v : V} {Q : VK} (h : Ev te σ H v) (k : ∀ H2, Ex H H2 → Q v H2) : te σ H Q := h H (Ex.refl H) Q k
theorem et_go {t : TT} {σ : L2.St} {H : Hp} {b : Bool} {Q : Bool → Hp → Prop} (h : EvT t σ H b) (k : ∀ H2, Ex H H2 → Q b H2) : t σ H Q := h H (Ex.refl H) Q k
theorem el_go {te : TE} {σ : L2.St} {H : Hp} {xs : List V} {Q : VK} (h : EvL te σ H xs) (k : ∀ p H2, H p = none → Ex H H2 → H2 p = some (.lst xs) → Q (.ref p) H2) : te σ H Q := h H (Ex.refl H) Q k
theorem eu_go {te : TE} {σ : L2.St} {H : Hp} {xs : List V} {Q : VK} (h : EvU te σ H xs) (k : ∀ p H2, H p = none → Ex H H2 → H2 p = some (.tup xs) → Q (.ref p) H2) : te σ H Q := h H (Ex.refl H) Q k
theorem ea_go {t : TA} {σ : L2.St} {H : Hp} {vs : List V} {Q : List V → Hp → Prop} (h : EvA t σ H vs) (k : ∀ H2, Ex H H2 → Q vs H2) : t σ H Q := h H (Ex.refl H) Q k
/-! ### the law's state, a list of two numbers, which draws change -/
theorem et_tru {σ : L2.St} {H : Hp} {te : TE} {a : Addr} {xs : List V} (h : Ev te σ H (.ref a)) (hs : SqL K H a xs) : EvT (fun σ H Q => te σ H fun x H' => ∃ k, TruV K x H' k ∧ Q k H') σ H (!xs.isEmpty) := fun H1 e Q q => h H1 e _ fun H2 e2 => ⟨_, .inl ⟨xs, ex_l (e.trans e2) hs, rfl⟩, q H2 e2⟩
def StAt (H : Hp) (s : Addr) : Prop := ∃ k c : Int, H s = some (.lst [.int k, .int c])
def Fr (s : Addr) (H H' : Hp) : Prop := (∀ b o, b ≠ s → H b = some o → H' b = some o) ∧ StAt H' s
theorem Fr.refl {s : Addr} {H : Hp} (st : StAt H s) : Fr s H H := ⟨fun _ _ _ h => h, st⟩
theorem Fr.ex {s : Addr} {H H' : Hp} (st : StAt H s) (e : Ex H H') : Fr s H H' := ⟨fun b o _ h => e b o h, by obtain ⟨k, c, h⟩ := st; exact ⟨k, c, e _ _ h⟩⟩
theorem Fr.trans {s : Addr} {H H1 H2 : Hp} (h : Fr s H H1) (g : Fr s H1 H2) : Fr s H H2 := ⟨fun b o n e => g.1 b o n (h.1 b o n e), g.2⟩
theorem Fr.tex {s : Addr} {H H1 H2 : Hp} (h : Fr s H H1) (e : Ex H1 H2) : Fr s H H2 := h.trans (Fr.ex h.2 e)
theorem Fr.fresh {s p : Addr} {H H' : Hp} (h : Fr s H H') (hp : H' p = none) : H p = none := by
  have hs : p ≠ s := by
    rintro rfl
    obtain ⟨k, c, g⟩ := h.2
    rw [g] at hp
    cases hp
  cases e : H p with
  | none => rfl
  | some o =>
    have := h.1 p o hs e
    rw [this] at hp
    cases hp
theorem ne_st {s p : Addr} {H : Hp} (st : StAt H s) (hp : H p = none) : p ≠ s := by
  rintro rfl
  obtain ⟨k, c, g⟩ := st
  rw [g] at hp
  cases hp
theorem Fr.mut {s p : Addr} {H H1 : Hp} {o : HO} (h : Fr s H H1) (hp : H p = none) (hs : p ≠ s) : Fr s H (upd H1 p o) := ⟨fun b u n e => by rw [upd_ne (ne_of_none e hp)]; exact h.1 b u n e, by obtain ⟨k, c, g⟩ := h.2; exact ⟨k, c, by rw [upd_ne (Ne.symm hs)]; exact g⟩⟩
theorem Fr.l {s a : Addr} {H H' : Hp} {xs : List V} (h : Fr s H H') (hs : a ≠ s) (q : H a = some (.lst xs)) : H' a = some (.lst xs) := h.1 a _ hs q
/-- a list, seen through all draws -/
def Scr (K : PySem.W.Frag) (s a : Addr) (H : Hp) (xs : List V) : Prop := ∀ H', Fr s H H' → SqL K H' a xs
theorem scr_mk {s a : Addr} {H H1 : Hp} {xs : List V} (hs : H s = none) (e : Ex H H1) (q : SqL K H a xs) : Scr K s a H1 xs := fun H' fr => by
  rcases q with q | q
  · rcases q with q | ⟨o, q⟩
    · exact .inl (.inl (fr.1 _ _ (ne_of_none q hs) (e _ _ q)))
    · exact .inl (.inr ⟨o, fr.1 _ _ (ne_of_none q hs) (e _ _ q)⟩)
  · exact .inr q
def DrS (K : PySem.W.Frag) (H : Hp) (s a : Addr) (ns : List Int) : Prop := StAt H s ∧ Scr K s a H (ns.map V.int)
theorem DrS.fr {H H' : Hp} {s a : Addr} {ns : List Int} (h : DrS K H s a ns) (f : Fr s H H') : DrS K H' s a ns := ⟨f.2, fun H2 g => h.2 H2 (f.trans g)⟩
theorem DrS.ex {H H' : Hp} {s a : Addr} {ns : List Int} (h : DrS K H s a ns) (e : Ex H H') : DrS K H' s a ns := h.fr (Fr.ex h.1 e)
theorem DrS.sq {H : Hp} {s a : Addr} {ns : List Int} (h : DrS K H s a ns) : SqL K H a (ns.map V.int) := h.2 H (Fr.refl h.1)
/-! numbers, tests that draw on the way -/
def EvI (s : Addr) (te : TE) (σ : L2.St) (H : Hp) (p : Int → Prop) : Prop := ∀ Q : VK, (∀ i H2, Fr s H H2 → p i → Q (.int i) H2) → te σ H Q
def EvTW (s : Addr) (t : TT) (σ : L2.St) (H : Hp) (p : Bool → Prop) : Prop := ∀ Q : Bool → Hp → Prop, (∀ b H2, Fr s H H2 → p b → Q b H2) → t σ H Q
section
variable {s : Addr} {σ : L2.St} {H : Hp} {ta tb te : TE} {p q : Int → Prop}
theorem wi_ev {i : Int} (st : StAt H s) (h : Ev te σ H (.int i)) : EvI s te σ H (fun z => z = i) := fun Q q => h H (Ex.refl H) _ fun H2 e2 => q i H2 (Fr.ex st e2) rfl
theorem wi_imp {p q : Int → Prop} (h : EvI s te σ H p) (hi : ∀ z, p z → q z) : EvI s te σ H q := fun Q k => h Q fun i H2 f hp => k i H2 f (hi i hp)
theorem wi_op {g : Int → Int → Int} (ha : EvI s ta σ H p) (hb : ∀ H1, Fr s H H1 → EvI s tb σ H1 q) : EvI s (tOp (rI0 fun i j => .int (g i j)) ta tb) σ H (fun z => ∃ i j, p i ∧ q j ∧ z = g i j) := fun Q k =>
  ha _ fun i H1 f1 hp => hb H1 f1 _ fun j H2 f2 hq => ⟨i, j, rfl, rfl, k _ H2 (f1.trans f2) ⟨i, j, hp, hq, rfl⟩⟩
theorem wi_opC {C : Int → Int → Prop} {g : Int → Int → Int} (ha : EvI s ta σ H p) (hb : ∀ H1, Fr s H H1 → EvI s tb σ H1 q) (hc : ∀ i j, p i → q j → C i j) : EvI s (tOp (rI C fun i j => .int (g i j)) ta tb) σ H (fun z => ∃ i j, p i ∧ q j ∧ z = g i j) := fun Q k =>
  ha _ fun i H1 f1 hp => hb H1 f1 _ fun j H2 f2 hq => ⟨i, j, rfl, rfl, hc i j hp hq, k _ H2 (f1.trans f2) ⟨i, j, hp, hq, rfl⟩⟩
theorem wt_cmp {g : Int → Int → Bool} (ha : EvI s ta σ H p) (hb : ∀ H1, Fr s H H1 → EvI s tb σ H1 q) : EvTW s (tTest (tOp (rI0 fun i j => .bl (g i j)) ta tb)) σ H (fun b => ∃ i j, p i ∧ q j ∧ b = g i j) := fun Q k =>
  ha _ fun i H1 f1 hp => hb H1 f1 _ fun j H2 f2 hq => ⟨i, j, rfl, rfl, g i j, rfl, k _ H2 (f1.trans f2) ⟨i, j, hp, hq, rfl⟩⟩
theorem wt_eq (ha : EvI s ta σ H p) (hb : ∀ H1, Fr s H H1 → EvI s tb σ H1 q) : EvTW s (tTest (tOp rEq ta tb)) σ H (fun b => ∃ i j, p i ∧ q j ∧ b = decide (i = j)) := fun Q k =>
  ha _ fun i H1 f1 hp => hb H1 f1 _ fun j H2 f2 hq => ⟨rfl, decide (V.int i = V.int j), rfl, k _ H2 (f1.trans f2) ⟨i, j, hp, hq, by simp⟩⟩
theorem wt_ev {t : TT} {b : Bool} (st : StAt H s) (h : EvT t σ H b) : EvTW s t σ H (fun z => z = b) := fun Q q => h H (Ex.refl H) _ fun H2 e2 => q b H2 (Fr.ex st e2) rfl
theorem wt_and {t u : TT} {p q : Bool → Prop} (h1 : EvTW s t σ H p) (h2 : ∀ H1, Fr s H H1 → p true → EvTW s u σ H1 q) : EvTW s (tAnd t u) σ H (fun b => (p false ∧ b = false) ∨ (p true ∧ q b)) := fun Q k => h1 _ fun b H1 f1 hb => by
  cases b with
  | true => exact h2 H1 f1 hb _ fun c H2 f2 hc => k c H2 (f1.trans f2) (.inr ⟨hb, hc⟩)
  | false => exact k false H1 f1 (.inl ⟨hb, rfl⟩)
theorem wt_not {t : TT} {p : Bool → Prop} (h1 : EvTW s t σ H p) : EvTW s (tNot t) σ H (fun b => p (!b)) := fun Q k => h1 _ fun b H1 f1 hb => k (!b) H1 f1 (by show p (!!b); rw [Bool.not_not]; exact hb)
variable {D : Ends} {tz tu : TS}
theorem qw_asg {j : Nat} (h : EvI s te σ H p) (k : ∀ i H1, Fr s H H1 → p i → tz D (σ.set j (some (.int i))) H1) : tSeq (tAsg te (gName j)) tz D σ H := h _ k
theorem sw_asg {j : Nat} (h : EvI s te σ H p) (k : ∀ i H1, Fr s H H1 → p i → D.nx (σ.set j (some (.int i))) H1) : tAsg te (gName j) D σ H := h _ k
theorem sw_ret (h : EvI s te σ H p) (k : ∀ i H1, Fr s H H1 → p i → D.rt (.int i) H1) : tRet te D σ H := h _ k
theorem qw_when {t : TT} {p : Bool → Prop} (h : EvTW s t σ H p) (h1 : p true → ∀ H1, Fr s H H1 → tu { D with nx := tz D } σ H1) (h2 : p false → ∀ H1, Fr s H H1 → tz D σ H1) : tSeq (tIfS t tu tNext) tz D σ H := h _ fun b H1 f hb => by
  cases b with
  | true => exact h1 hb H1 f
  | false => exact h2 hb H1 f
theorem sw_when {t : TT} {p : Bool → Prop} (h : EvTW s t σ H p) (h1 : p true → ∀ H1, Fr s H H1 → tu D σ H1) (h2 : p false → ∀ H1, Fr s H H1 → D.nx σ H1) : tIfS t tu tNext D σ H := h _ fun b H1 f hb => by
  cases b with
  | true => exact h1 hb H1 f
  | false => exact h2 hb H1 f
theorem sw_if {t : TT} {tw : TS} {p : Bool → Prop} (h : EvTW s t σ H p) (h1 : p true → ∀ H1, Fr s H H1 → tu D σ H1) (h2 : p false → ∀ H1, Fr s H H1 → tw D σ H1) : tIfS t tu tw D σ H := h _ fun b H1 f hb => by
  cases b with
  | true => exact h1 hb H1 f
  | false => exact h2 hb H1 f
theorem qw_forR1 {j : Nat} (h : EvI s te σ H p) (hp : ∀ i, p i → 0 ≤ i ∧ i ≤ 100000) (Pv : Int → Nat → L2.St → Hp → Prop) (h0 : ∀ n H1, p n → Fr s H H1 → Pv n 0 σ H1)
    (hs : ∀ n (i : Nat) σ' H', p n → (i : Int) < n → Pv n i σ' H' → tu { D with nx := Pv n (i + 1), ct := Pv n (i + 1), bk := tz D } (σ'.set j (some (.int (i : Int)))) H') (hd : ∀ n σ' H', p n → Pv n n.toNat σ' H' → tz D σ' H') : tSeq (tFor (iRng1 (tCons te tNil)) (gName j) tu) tz D σ H :=
  h _ fun n H1 f hn => ⟨n, rfl, by have := hp n hn; omega, by have := hp n hn; omega, for_range (D := { D with nx := tz D }) (lo := 0) (n := n.toNat) (Pv n) (h0 n H1 hn f) (fun i σ' H' hi q => by
    have e0 : (0 : Int) + (i : Int) = (i : Int) := Int.zero_add _
    show tu { D with nx := Pv n (i + 1), ct := Pv n (i + 1), bk := tz D } (σ'.set j (some (.int ((0 : Int) + (i : Int))))) H'
    rw [e0]
    exact hs n i σ' H' hn (by have := hp n hn; omega) q) fun σ' H' q => hd n σ' H' hn q⟩
end
/-- [e for j in range(n)] whose element draws -/
theorem tlc_rngW {ta : TA} {te : TE} {vs : List Nat} {n : Int} {j : Nat} {σ : L2.St} {H : Hp} {Q : VK} (h : EvA ta σ H [.int n]) (hn : -100000 ≤ n ∧ n ≤ 100000)
    (k : ∀ H1, Ex H H1 → ∀ Dl, H1 Dl = none → ∃ Pv : Nat → Hp → Prop, Pv 0 (upd H1 Dl (.lst [])) ∧ (∀ (i : Nat) H', i < n.toNat → Pv i H' → wipe ((wipe σ vs).set j (some (.int (i : Int)))) vs = wipe σ vs ∧ te ((wipe σ vs).set j (some (.int (i : Int)))) H' fun y H4 => ∃ acc, H4 Dl = some (.lst acc) ∧ acc.length < sizeLine ∧ Pv (i + 1) (upd H4 Dl (.lst (acc ++ [y])))) ∧ (∀ H', Pv n.toNat H' → Q (.ref Dl) H')) :
    tLc (iRng1 ta) (gName j) tYes te vs σ H Q := h H (Ex.refl H) _ fun H1 e1 => ⟨n, rfl, by omega, by omega, fun Dl hD => by
  obtain ⟨Pv, h0, hs, hd⟩ := k H1 e1 Dl hD
  refine lc_range (lo := 0) (n := n.toNat) Pv h0 (fun i H' hi p => ?_) hd
  rw [Int.zero_add]
  exact hs i H' hi p⟩
/-- xs[j] = e, e of a kind -/
theorem q_setLR {σ : L2.St} {H : Hp} {te ta tb : TE} {l : Addr} {xs : List V} {j : Nat} {D : Ends} {tz : TS} {P : V → Prop} (h : ∀ Q : VK, (∀ v H1, Ex H H1 → P v → Q v H1) → te σ H Q) (hl : H l = some (.lst xs)) (ho : ∀ H1, Ev ta σ H1 (.ref l)) (hi : ∀ H1, Ev tb σ H1 (.int (j : Int))) (hj : j < xs.length) (k : ∀ v H1, P v → Ex H H1 → tz D σ (upd H1 l (.lst (xs.set j v)))) : tSeq (tAsg te (gSub ta tb rSetL)) tz D σ H :=
  h _ fun v H1 e1 hv => ho H1 H1 (Ex.refl _) _ fun H2 e2 => hi H2 H2 (Ex.refl _) _ fun H3 e3 => ⟨l, xs, (j : Int), j, rfl, rfl, ((e1.trans e2).trans e3) l _ hl, ixN_nat hj, k v H3 hv ((e1.trans e2).trans e3)⟩
/-! ### the law's draws -/
def sp_isint : Sp := fun vs H Q _ => ∃ n : Int, vs = [.int n] ∧ RetV (.bl true) H Q
theorem ok_law_is_integer (T : TX K mg) : FnOk P w K mg base CX0 1 T.a_law_is_integer T.d_law_is_integer ["actual"] sp_isint := by
  refine T.F_law_is_integer.ok sc_law_is_integer (fun vs H Q E h => by obtain ⟨n, rfl, _⟩ := h; rfl) (fun cdv A outer s H vs Q E hr h => ?_)
  obtain ⟨n, rfl, k⟩ := h
  refine ⟨_, (pss_one (ps_ret (pe_and (pe_callB (r := rIsi K) call_isi (by rfl) T.m_isinstance PyProof.Rows.boot_isinstance (pa_cons (pv 0) (pa_cons (pe_bltn (v := V.ty "int") (by rfl) T.m_int PyProof.Rows.boot_int rfl) pa_nil))) (pe_one (pe_not (pe_callB (r := rIsi K) call_isi (by rfl) T.m_isinstance PyProof.Rows.boot_isinstance (pa_cons (pv 0) (pa_cons (pe_bltn (v := V.ty "bool") (by rfl) T.m_bool PyProof.Rows.boot_bool rfl) pa_nil)))))))), ?_⟩
  walk_at "ret"
  intro H2 e2
  exact ret_eq k e2 rfl
theorem ev_isint {σ : L2.St} {H : Hp} {te : TE} {E : XK} {n : Int} (h : Ev te σ H (.int n)) : Ev (tCall sp_isint [] E (tCons te tNil)) σ H (.bl true) := ev_call (ea_cons h ea_nil) fun H1 _ Q q _ => ⟨n, rfl, q⟩

def sp_refill (K : PySem.W.Frag) : Sp := fun vs H Q _ => ∃ (a : Addr) (ns : List Int) (k : Int), vs = [.ref a, .int k] ∧ SqL K H a (ns.map V.int) ∧ ∀ c : Int, RetV (.int c) H Q
theorem ok_law_refill (T : TX K mg) : FnOk P w K mg base CX0 1 T.a_law_refill T.d_law_refill ["script", "k"] (sp_refill K) := by
  refine T.F_law_refill.ok sc_law_refill (fun vs H Q E h => by obtain ⟨a, ns, k, rfl, _⟩ := h; rfl) (fun cdv A outer s0 H vs Q E hr h => ?_)
  obtain ⟨a, ns, k, rfl, hS, q⟩ := h
  refine ⟨_, (pss_cons (ps_set (i := 2) sc_law_refill.nd rfl (Or.inl rfl) pe_int)
      (pss_cons (ps_if (pt_truth (pv 0) (by intro _; rfl)) (pss_one (ps_set (i := 2) sc_law_refill.nd rfl (Or.inl rfl) (pe_ix (r := rIxL K) ix_list (pv 0) (pe_op op_mod (pv 1) (pe_callB (r := rLenS K) call_len_seq (by rfl) T.m_len PySem.boot_len (pa_cons (pv 0) pa_nil))) (fun _ _ => rfl)))) pss_nil)
      (pss_cons (ps_if (pt_cmpR op_lt (pv 2) pe_int (nomark _)) (pss_one (ps_set (i := 2) sc_law_refill.nd rfl (Or.inl rfl) (pe_op op_sub pe_int (pe_op op_mul pe_int (pv 2))))) pss_nil)
      (pss_cons (ps_if (PW.pt (pw_and (pt_cmpR op_ge (pv 2) (pe_op op_pow pe_int pe_int) (nomark _)) (pw_and1 (pt_cmpR op_lt (pv 1) (pe_callB (r := rLenS K) call_len_seq (by rfl) T.m_len PySem.boot_len (pa_cons (pv 0) pa_nil)) (nomark _))))) (pss_one (ps_ret (pv 2))) pss_nil)
      (pss_one (ps_ret (pe_op op_mod (pe_callTy call_int1 (by rfl) T.m_int PyProof.Rows.boot_int (pa_cons (pe_op op_add (pe_op op_mul (pe_callTy call_int1 (by rfl) T.m_int PyProof.Rows.boot_int (pa_cons (pe_op op_add (pe_op op_add (pe_op op_mul (pv 2) pe_int) (pe_op op_mul (pv 1) pe_int)) pe_int) pa_nil)) pe_int) pe_int) pa_nil)) pe_int))))))), ?_⟩
  refine q_asg ev_c fun H1 e1 => ?_
  have hl : (ns.map V.int).length = ns.length := List.length_map ..
  have rest : ∀ (c : Int) (H2 : Hp), Ex H H2 → tSeq (tIfS (tTest (tOp (rI0 fun i j => .bl (decide (i < j))) (tVar 2) (tC (.int 0)))) (tAsg (tOp (rI0 fun i j => .int (i - j)) (tC (.int 1)) (tOp (rI CMul fun i j => .int (i * j)) (tC (.int 2)) (tVar 2))) (gName 2)) tNext) (tSeq (tIfS (tAnd (tTest (tOp (rI0 fun i j => .bl (decide (j ≤ i))) (tVar 2) (tOp (rI CPow fun i j => .int (i ^ j.toNat)) (tC (.int 10)) (tC (.int 18))))) (tTest (tOp (rI0 fun i j => .bl (decide (i < j))) (tVar 1) (tCB (rLenS K) (tCons (tVar 0) tNil))))) (tRet (tVar 2)) tNext) (tRet (tOp (rI (fun _ j => 0 < j) fun i j => .int (i % j)) (tCB (fun xs H Q => (∃ i, xs = [V.int i] ∧ Q (V.int i) H) ∨ ∃ k, xs = [V.bl k] ∧ Q (V.int (if k = true then 1 else 0)) H) (tCons (tOp (rI0 fun i j => .int (i + j)) (tOp (rI CMul fun i j => .int (i * j)) (tCB (fun xs H Q => (∃ i, xs = [V.int i] ∧ Q (V.int i) H) ∨ ∃ k, xs = [V.bl k] ∧ Q (V.int (if k = true then 1 else 0)) H) (tCons (tOp (rI0 fun i j => .int (i + j)) (tOp (rI0 fun i j => .int (i + j)) (tOp (rI CMul fun i j => .int (i * j)) (tVar 2) (tC (.int 48271))) (tOp (rI CMul fun i j => .int (i * j)) (tVar 1) (tC (.int 69621)))) (tC (.int 12345))) tNil)) (tC (.int 40692))) (tC (.int 7))) tNil)) (tC (.int 2147483399))))) { nx := fun _ H' => Q .non H', rt := Q } [some (.ref a), some (.int k), some (.int c)] H2 := fun c H2 e2 => by
    obtain ⟨c1, hc1⟩ : ∃ c1 : Int, (if c < 0 then 1 - 2 * c else c) = c1 := ⟨_, rfl⟩
    refine q_ifAsg (b := decide (c < 0)) (v := .int c1) (et_test (ev_I0 (ev_var rfl) ev_c)) (fun h => Ev.is (ev_I0 ev_c (ev_I ev_c (ev_var rfl) (.inl (by decide)))) (congrArg V.int (by rw [← hc1, if_pos (of_decide_eq_true h)]))) (fun h => by rw [← hc1, if_neg (of_decide_eq_false h)]; rfl) fun H3 e3 => ?_
    refine q_when (et_and (et_test (ev_I0 (ev_var rfl) (ev_I ev_c ev_c ⟨by decide, by decide, by decide⟩))) fun _ => et_test (ev_I0 (ev_var rfl) (ev_lenS (Ev.s (ev_var rfl) (ex_l (e2.trans e3) hS))))) (fun _ H4 e4 => ?_) (fun _ H4 e4 => ?_)
    · exact s_ret (ev_var rfl) fun H5 e5 => (q _).go ((e2.trans e3).trans (e4.trans e5))
    · exact s_ret (ev_I (ev_int1 (ev_I0 (ev_I (ev_int1 (ev_I0 (ev_I0 (ev_I (ev_var rfl) ev_c (.inr (by decide))) (ev_I (ev_var rfl) ev_c (.inr (by decide)))) ev_c)) ev_c (.inr (by decide))) ev_c)) ev_c (by decide)) fun H5 e5 => (q _).go ((e2.trans e3).trans (e4.trans e5))
  refine q_when (et_tru (ev_var rfl) (ex_l e1 hS)) (fun hb H2 e2 => ?_) (fun _ H2 e2 => rest 0 H2 (e1.trans e2))
  have h0 : 0 < ns.length := by
    cases ns with
    | nil => cases hb
    | cons x r => rw [List.length_cons]; omega
  have h1 := Int.emod_nonneg k (show (ns.length : Int) ≠ 0 by omega)
  have h2 := Int.emod_lt_of_pos k (show (0 : Int) < ns.length by omega)
  refine s_asg (v := .int (ns.getD (k % (ns.length : Int)).toNat 0)) (ev_ixS (i := 0) (n := k % (ns.length : Int)) (Ev.s (ev_var rfl) (ex_l (e1.trans e2) hS)) (ev_I (ev_var rfl) (Ev.is (ev_lenS (Ev.s (ev_var rfl) (ex_l (e1.trans e2) hS))) (by rw [hl])) (by omega)) (at_of (j := (k % (ns.length : Int)).toNat) (by omega) (at_int (gl_get (by omega))))) fun H3 e3 => rest _ H3 (e1.trans (e2.trans e3))
def sp_draw (K : PySem.W.Frag) : Sp := fun vs H Q _ => ∃ (s a : Addr) (ns : List Int) (n : Int), vs = [.ref s, .ref a, .int n] ∧ DrS K H s a ns ∧ 0 < n ∧ n ≤ 2 ^ 80 ∧ ∀ (d : Nat) H', (d : Int) < n → Fr s H H' → Q (.int (d : Int)) H'
theorem ok_law_draw (T : TX K mg) : FnOk P w K mg base CX0 2 T.a_law_draw T.d_law_draw ["state", "script", "size"] (sp_draw K) := by
  refine T.F_law_draw.ok sc_law_draw (fun vs H Q E h => by obtain ⟨s, a, ns, n, rfl, _⟩ := h; rfl) (fun cdv A outer s0 H vs Q E hr h => ?_)
  obtain ⟨s, a, ns, n, rfl, hd, hn0, hn, k⟩ := h
  have hn' : n ≤ 1208925819614629174706176 := hn
  have hlog : n.natAbs.log2 < 9000 := by
    have : n.natAbs < 2 ^ 81 := by omega
    have := (Nat.log2_lt (n := n.natAbs) (k := 81) (by omega)).mpr this
    omega
  refine ⟨_, (pss_cut (ps_if (pt_cmpR op_eq (pe_ix (r := rIxL K) ix_list (pv 0) pe_int (fun _ _ => rfl)) pe_int (nomark _)) (pss_cons (ps_asg (pe_call (ok_law_refill T) (hr.mono (by decide)) (by rfl) T.g_law_refill T.F_law_refill.kp T.b_law_refill .nil pass0 (pa_cons (pv 1) (pa_cons (pe_ix (r := rIxL K) ix_list (pv 0) pe_int (fun _ _ => rfl)) pa_nil))) (pg_sub (pv 0) pe_int set_list))
        (pss_one (ps_asg (pe_op op_add (pe_ix (r := rIxL K) ix_list (pv 0) pe_int (fun _ _ => rfl)) pe_int) (pg_sub (pv 0) pe_int set_list)))) pss_nil)
      (pss_cons (ps_set (i := 3) sc_law_draw.nd rfl (Or.inl rfl) (pe_op op_mod (pe_callTy call_int1 (by rfl) T.m_int PyProof.Rows.boot_int (pa_cons (pe_ix (r := rIxL K) ix_list (pv 0) pe_int (fun _ _ => rfl)) pa_nil)) (pv 2)))
      (pss_cons (ps_asg (pe_op op_fdivW (pe_ix (r := rIxL K) ix_list (pv 0) pe_int (fun _ _ => rfl)) (pv 2)) (pg_sub (pv 0) pe_int set_list))
      (pss_one (ps_ret (pv 3)))))), ?_⟩
  refine q_cut (M := fun σ' H' => ∃ kk cc : Int, σ' = [some (.ref s), some (.ref a), some (.int n), none] ∧ (∀ b o, b ≠ s → H b = some o → H' b = some o) ∧ H' s = some (.lst [.int kk, .int cc])) ?_ ?_
  · obtain ⟨kk, cc, g⟩ := hd.1
    refine s_when (et_test (ev_eq (ev_ixS (i := 0) (n := 1) (Ev.s (ev_var rfl) (sq_of g)) ev_c (at_of (j := 1) rfl rfl)) ev_c rfl)) (fun _ H1 e1 => ?_) (fun _ H1 e1 => ⟨kk, cc, rfl, fun b o _ h => e1 b o h, e1 _ _ g⟩)
    have g1 := e1 _ _ g
    refine q_setLR (l := s) (xs := [.int kk, .int cc]) (j := 1) (P := fun v => ∃ c : Int, v = .int c) (fun Q' q' => (ea_cons (ev_var rfl) (ea_cons (ev_ixS (K := K) (i := 0) (n := 0) (v := .int kk) (xs := [.int kk, .int cc]) (Ev.s (ev_var rfl) (sq_of g1)) ev_c (at_of (j := 0) rfl rfl)) ea_nil)) H1 (Ex.refl _) _ fun H2 e2 => ⟨a, ns, kk, rfl, (hd.ex (e1.trans e2)).sq, fun c H3 e3 => q' _ _ (e2.trans e3) ⟨c, rfl⟩⟩) g1 (fun _ => ev_var rfl) (fun _ => ev_c) (Nat.le_of_ble_eq_true rfl) fun v H2 hv e2 => ?_
    obtain ⟨c, rfl⟩ := hv
    have u2 : (upd H2 s (.lst [V.int kk, V.int c])) s = some (.lst [V.int kk, V.int c]) := upd_same
    refine s_setL (l := s) (j := 0) (v := .int (kk + 1)) u2 (ev_I0 (ev_ixS (i := 0) (n := 0) (Ev.s (ev_var rfl) (sq_of u2)) ev_c (at_of (j := 0) rfl rfl)) ev_c) (ev_var rfl) ev_c (Nat.le_of_ble_eq_true rfl) fun H3 e3 => ⟨kk + 1, c, rfl, fun b o hb h => ?_, upd_same⟩
    rw [upd_ne hb]
    exact e3 _ _ (by rw [upd_ne hb]; exact e2 _ _ (e1 _ _ h))
  · rintro σ' H1 ⟨kk, cc, rfl, fr, g⟩
    have h0 := Int.emod_nonneg cc (show n ≠ 0 by omega)
    have h1 := Int.emod_lt_of_pos cc hn0
    obtain ⟨d, hd'⟩ : ∃ d : Nat, cc % n = (d : Int) := ⟨(cc % n).toNat, by omega⟩
    refine q_asg (v := .int (d : Int)) (Ev.is (ev_I (ev_int1 (ev_ixS (i := 0) (n := 1) (Ev.s (ev_var rfl) (sq_of g)) ev_c (at_of (j := 1) rfl rfl))) (ev_var rfl) hn0) (congrArg V.int hd')) fun H2 e2 => ?_
    refine q_setL (l := s) (j := 1) (v := .int (cc / n)) (e2 _ _ g) (ev_I (ev_ixS (i := 0) (n := 1) (Ev.s (ev_var rfl) (sq_of (e2 _ _ g))) ev_c (at_of (j := 1) rfl rfl)) (ev_var rfl) ⟨hn0, hlog⟩) (ev_var rfl) ev_c (Nat.le_of_ble_eq_true rfl) fun H3 e3 => ?_
    refine s_ret (v := .int (d : Int)) (ev_var rfl) fun H4 e4 => k d H4 (by omega) ⟨fun b o hb h => e4 _ _ (by rw [upd_ne hb]; exact e3 _ _ (e2 _ _ (fr b o hb h))), ⟨kk, cc / n, e4 _ _ upd_same⟩⟩
theorem wi_draw {s a : Addr} {ns : List Int} {σ : L2.St} {H : Hp} {tn : TE} {E : XK} {n : Int} {i j : Nat} (hd : DrS K H s a ns) (h1 : σ[i]? = some (some (.ref s))) (h2 : σ[j]? = some (some (.ref a))) (h3 : Ev tn σ H (.int n)) (h0 : 0 < n) (hn : n ≤ 2 ^ 80) :
    EvI s (tCall (sp_draw K) [] E (tCons (tVar i) (tCons (tVar j) (tCons tn tNil)))) σ H (fun z => ∃ d : Nat, z = (d : Int) ∧ (d : Int) < n) := fun Q q =>
  (ea_cons (ev_var h1) (ea_cons (ev_var h2) (ea_cons h3 ea_nil))) H (Ex.refl _) _ fun H1 e1 => ⟨s, a, ns, n, rfl, hd.ex e1, h0, hn, fun d H2 hdn f => q _ H2 ((Fr.ex hd.1 e1).trans f) ⟨d, rfl, hdn⟩⟩
theorem ok_law_wide (T : TX K mg) : FnOk P w K mg base CX0 3 T.a_law_wide T.d_law_wide ["state", "script", "size"] (sp_draw K) := by
  refine T.F_law_wide.ok sc_law_wide (fun vs H Q E h => by obtain ⟨s, a, ns, n, rfl, _⟩ := h; rfl) (fun cdv A outer s0 H vs Q E hr h => ?_)
  obtain ⟨s, a, ns, n, rfl, hd, hn0, hn, k⟩ := h
  refine ⟨_, (pss_cons (ps_set (i := 3) sc_law_wide.nd rfl (Or.inl rfl) (pe_call (ok_law_draw T) (hr.mono (by decide)) (by rfl) T.g_law_draw T.F_law_draw.kp T.b_law_draw .nil pass0 (pa_cons (pv 0) (pa_cons (pv 1) (pa_cons pe_int pa_nil)))))
      (pss_cons (ps_if (pt_cmpR op_eq (pv 3) pe_int (nomark _)) (pss_one (ps_ret pe_int)) pss_nil)
      (pss_cons (ps_if (pt_cmpR op_eq (pv 3) pe_int (nomark _)) (pss_one (ps_ret (pe_op op_sub (pv 2) pe_int))) pss_nil)
      (pss_one (ps_ret (pe_call (ok_law_draw T) (hr.mono (by decide)) (by rfl) T.g_law_draw T.F_law_draw.kp T.b_law_draw .nil pass0 (pa_cons (pv 0) (pa_cons (pv 1) (pa_cons (pv 2) pa_nil))))))))), ?_⟩
  refine qw_asg (wi_draw hd rfl rfl ev_c (by decide) (by decide)) fun z H1 f1 hz => ?_
  have hd1 := hd.fr f1
  refine q_when (et_test (ev_eq (ev_var rfl) ev_c rfl)) (fun _ H2 e2 => s_ret (v := .int ((0 : Nat) : Int)) ev_c fun H3 e3 => k 0 H3 (by omega) (f1.tex (e2.trans e3))) (fun _ H2 e2 => ?_)
  refine q_when (et_test (ev_eq (ev_var rfl) ev_c rfl)) (fun _ H3 e3 => s_ret (v := .int ((n.toNat - 1 : Nat) : Int)) (Ev.is (ev_I0 (ev_var rfl) ev_c) (congrArg V.int (by omega))) fun H4 e4 => k _ H4 (by omega) (f1.tex ((e2.trans e3).trans e4))) (fun _ H3 e3 => ?_)
  refine sw_ret (wi_draw (hd1.ex (e2.trans e3)) rfl rfl (ev_var rfl) hn0 hn) fun i H4 f4 hi => ?_
  obtain ⟨d, rfl, hdn⟩ := hi
  exact k d H4 hdn ((f1.tex (e2.trans e3)).trans f4)
def sp_junk (K : PySem.W.Frag) : Sp := fun vs H Q _ => ∃ (s a : Addr) (ns : List Int) (m : Nat), vs = [.ref s, .ref a, .int (m : Int)] ∧ DrS K H s a ns ∧ m ≤ 1000 ∧ ∀ p (ds : List Nat) H', H p = none → Fr s H H' → H' p = some (.lst ((cs ds).map V.int)) → ds.length = m → (∀ d ∈ ds, d < 256) → Q (.ref p) H'
theorem ok_law_junk (T : TX K mg) : FnOk P w K mg base CX0 3 T.a_law_junk T.d_law_junk ["state", "script", "count"] (sp_junk K) := by
  refine T.F_law_junk.ok sc_law_junk (fun vs H Q E h => by obtain ⟨s, a, ns, m, rfl, _⟩ := h; rfl) (fun cdv A outer s0 H vs Q E hr h => ?_)
  obtain ⟨s, a, ns, m, rfl, hd, hm, k⟩ := h
  refine ⟨_, (pss_one (ps_ret (pe_lc (own := [("k", 3)]) (g := gName 3) (tt := tYes) rfl sc_law_junk.nd (pi_range1 (by rfl) T.m_range (pa_cons (pv 2) pa_nil)) (blkOk_by (N := ["state", "script", "count", "k"]) (sc := defScope s_law_junk) (by decide +kernel)) (fun _ _ _ _ _ => pg_name (i := 3) sc_law_junk.nd rfl (Or.inl rfl)) (fun _ _ _ _ _ => pts_nil) (fun _ _ _ _ _ => (pe_call (ok_law_draw T) (hr.mono (by decide)) (by rfl) T.g_law_draw T.F_law_draw.kp T.b_law_draw .nil pass0 (pa_cons (pv 0) (pa_cons (pv 1) (pa_cons pe_int pa_nil)))))))), ?_⟩
  refine tlc_rngW (n := (m : Int)) (ea_cons (ev_var rfl) ea_nil) (by omega) fun H1 e1 Dl hD => ⟨fun i H' => ∃ ds : List Nat, Fr s H H' ∧ H' Dl = some (.lst ((cs ds).map V.int)) ∧ ds.length = i ∧ ∀ d ∈ ds, d < 256, ⟨[], ?_, upd_same, rfl, fun d hd => by cases hd⟩, ?_, ?_⟩
  · exact Fr.ex hd.1 (Ex.mut e1 (fresh_back e1 hD))
  · rintro i H' hi ⟨ds, f, g, hl, hb⟩
    have hi : i < m := by omega
    have hDs : Dl ≠ s := ne_st hd.1 (fresh_back e1 hD)
    refine ⟨rfl, wi_draw (hd.fr f) rfl rfl ev_c (by decide) (by decide) _ fun z H2 f2 hz => ?_⟩
    obtain ⟨d, rfl, hdn⟩ := hz
    refine ⟨(cs ds).map V.int, f2.l hDs g, sz_lt (by rw [List.length_map, cs_len]; omega), ds ++ [d], (f.trans f2).mut (fresh_back e1 hD) hDs, ?_, by rw [List.length_append, hl]; rfl, fun y hy => ?_⟩
    · rw [upd_same, cs_append, List.map_append]
      rfl
    · rcases List.mem_append.mp hy with h | h
      · exact hb y h
      · rw [List.mem_singleton.mp h]
        omega
  · rintro H' ⟨ds, f, g, hl, hb⟩
    exact k Dl ds H' (fresh_back e1 hD) f g (by omega) hb
def sp_isbytes (K : PySem.W.Frag) : Sp := fun vs H Q _ => ∃ (p : Addr) (ds : List Nat), vs = [.ref p] ∧ H p = some (.lst ((cs ds).map V.int)) ∧ ds.length ≤ 40000 ∧ (∀ d ∈ ds, d < 256) ∧ RetV (.bl true) H Q
theorem ok_law_is_bytes (T : TX K mg) : FnOk P w K mg base CX0 2 T.a_law_is_bytes T.d_law_is_bytes ["actual"] (sp_isbytes K) := by
  refine T.F_law_is_bytes.ok sc_law_is_bytes (fun vs H Q E h => by obtain ⟨p, ds, rfl, _⟩ := h; rfl) (fun cdv A outer s0 H vs Q E hr h => ?_)
  obtain ⟨p, ds, rfl, hp, hl, hb, k⟩ := h
  refine ⟨_, (pss_cons (ps_if (pt_not (pt_val (pe_callB (r := rIsi K) call_isi (by rfl) T.m_isinstance PyProof.Rows.boot_isinstance (pa_cons (pv 0) (pa_cons (pe_bltn (v := V.ty "list") (by rfl) T.m_list PyProof.Rows.boot_list rfl) pa_nil))))) (pss_one (ps_ret pe_bl)) pss_nil)
      (pss_one (ps_ret (pe_callB (r := rAll K) (cr_all rfl) (by rfl) T.m_all PyProof.Rows.boot_all (pa_cons (pe_lc (own := [("byte", 1)]) (g := gName 1) (tt := tYes) rfl sc_law_is_bytes.nd (pi_list (pv 0)) (blkOk_by (N := ["actual", "byte"]) (sc := defScope s_law_is_bytes) (by decide +kernel)) (fun _ _ _ _ _ => pg_name (i := 1) sc_law_is_bytes.nd rfl (Or.inl rfl)) (fun _ _ _ _ _ => pts_nil) (fun _ _ _ _ _ => (pe_and (pe_call (ok_law_is_integer T) (hr.mono (by decide)) (by rfl) T.g_law_is_integer T.F_law_is_integer.kp T.b_law_is_integer .nil pass0 (pa_cons (pv 1) pa_nil)) (pe_one (pe_chain op_le op_le pe_int (pv 1) pe_int))))) pa_nil))))), ?_⟩
  refine q_when (b := false) (et_is (et_not (et_B (ev_isiL (ev_var rfl) hp))) rfl) (fun h => by cases h) fun _ H1 e1 => ?_
  refine s_ret (v := .bl true) (ev_all (bs := (cs ds).map fun _ => true) (EvR.s (EvL.r (EvL.is (xs := (cs ds).map fun _ => V.bl true) (el_lcS _ (Ev.s (ev_var rfl) (sq_of (e1 _ _ hp))) (by rw [List.length_map, List.length_map]) (by rw [List.length_map, cs_len]; omega) (fun _ => rfl) fun i x H2 e2 hx => ?_) (by rw [List.map_map]; rfl)))) (by simp)) fun H2 e2 => k.go (e1.trans e2)
  obtain ⟨n, hn, hi, rfl⟩ := int_at hx
  obtain ⟨d, hd, rfl⟩ := List.mem_map.mp (List.mem_of_getElem? hn)
  have := hb d hd
  exact ⟨.bl true, by rw [List.getElem?_map, hn]; rfl, Ev.is (ev_andV (a := true) (b := true) (ev_isint (ev_var rfl)) fun _ => Ev.is (ev_chain ev_c (ev_var rfl) ev_c) (congrArg V.bl (by rw [Bool.and_eq_true, decide_eq_true_iff, decide_eq_true_iff]; omega))) rfl⟩
theorem ev_isbytes {σ : L2.St} {H : Hp} {te : TE} {E : XK} {ds : List Nat} (h : EvR te σ H ((cs ds).map V.int)) (hl : ds.length ≤ 40000) (hb : ∀ d ∈ ds, d < 256) : Ev (tCall (sp_isbytes K) [] E (tCons te tNil)) σ H (.bl true) := fun H1 e Q q =>
  h H1 e _ fun p H2 e2 hp => ⟨p, ds, rfl, hp, hl, hb, fun H3 e3 => q H3 (e2.trans e3)⟩
theorem and_mask255 (x : Nat) : Builtin.bitAnd (x : Int) 255 = ((x % 256 : Nat) : Int) := by
  have h := _root_.Bits.bitAnd_mask (x := (x : Int)) 8 (by omega)
  have e : (2 : Int) ^ 8 - 1 = 255 := rfl
  rw [e] at h
  rw [h]
  have e2 : (2 : Int) ^ 8 = 256 := rfl
  rw [e2]
  omega
def bigB (x n : Nat) : List Nat := (List.range n).map fun k => x / 2 ^ (8 * (n - 1 - k)) % 256
theorem bigB_len (x n : Nat) : (bigB x n).length = n := by unfold bigB; rw [List.length_map, List.length_range]
theorem bigB_lt (x n : Nat) : ∀ d ∈ bigB x n, d < 256 := fun d hd => by
  unfold bigB at hd
  obtain ⟨k, _, rfl⟩ := List.mem_map.mp hd
  exact Nat.mod_lt _ (by decide)
theorem p2n (j : Nat) : ((2 : Int) ^ j) = ((2 ^ j : Nat) : Int) := by rw [Int.natCast_pow]; rfl
theorem ev_byte {σ : L2.St} {H : Hp} {t1 t2 : TE} {x j : Nat} (h1 : Ev t1 σ H (.int (x : Int))) (h2 : Ev t2 σ H (.int (j : Int))) : Ev (tOp (rI0 fun i j => .int (Builtin.bitAnd i j)) (tOp (rI (fun _ j => 0 ≤ j) fun i j => .int (i / 2 ^ j.toNat)) t1 t2) (tC (.int 255))) σ H (.int ((x / 2 ^ j % 256 : Nat) : Int)) :=
  Ev.is (ev_I0 (Ev.is (ev_I h1 h2 (by omega)) (congrArg V.int (show (x : Int) / 2 ^ (j : Int).toNat = ((x / 2 ^ j : Nat) : Int) by rw [Int.toNat_natCast, p2n, Int.natCast_ediv]))) ev_c) (congrArg V.int (and_mask255 _))
def sp_numb : Sp := fun vs H Q _ => ∃ (x n : Nat), vs = [.int (x : Int), .int (n : Int)] ∧ n ≤ 1000 ∧ RetL ((cs (bigB x n)).map V.int) H Q
theorem ok_law_number_bytes (T : TX K mg) : FnOk P w K mg base CX0 1 T.a_law_number_bytes T.d_law_number_bytes ["number", "count"] sp_numb := by
  refine T.F_law_number_bytes.ok sc_law_number_bytes (fun vs H Q E h => by obtain ⟨x, n, rfl, _⟩ := h; rfl) (fun cdv A outer s0 H vs Q E hr h => ?_)
  obtain ⟨x, n, rfl, hn, k⟩ := h
  refine ⟨_, (pss_one (ps_ret (pe_lc (own := [("k", 2)]) (g := gName 2) (tt := tYes) rfl sc_law_number_bytes.nd (pi_range1 (by rfl) T.m_range (pa_cons (pv 1) pa_nil)) (blkOk_by (N := ["number", "count", "k"]) (sc := defScope s_law_number_bytes) (by decide +kernel)) (fun _ _ _ _ _ => pg_name (i := 2) sc_law_number_bytes.nd rfl (Or.inl rfl)) (fun _ _ _ _ _ => pts_nil) (fun _ _ _ _ _ => (pe_op op_and (pe_op op_shr (pv 0) (pe_op op_mul pe_int (pe_op op_sub (pe_op op_sub (pv 1) pe_int) (pv 2)))) pe_int))))), ?_⟩
  refine s_retL (el_lcR (n := (n : Int)) ((cs (bigB x n)).map V.int) (ea_cons (ev_var rfl) ea_nil) (by omega) (by rw [List.length_map, cs_len, bigB_len]; omega) (by rw [List.length_map, cs_len, bigB_len]; omega) (fun _ => rfl) fun i H1 e1 hi => ?_) k
  rw [List.length_map, cs_len, bigB_len] at hi
  exact ⟨_, at_int (cs_at (d := x / 2 ^ (8 * (n - 1 - i)) % 256) (by unfold bigB; rw [List.getElem?_map, List.getElem?_range hi]; rfl)), ev_byte (ev_var rfl) (Ev.is (ev_I ev_c (ev_I0 (ev_I0 (ev_var rfl) ev_c) (ev_var rfl)) (.inl (by decide))) (congrArg V.int (by omega)))⟩
theorem el_numb {σ : L2.St} {H : Hp} {t1 t2 : TE} {E : XK} {x n : Nat} (h1 : Ev t1 σ H (.int (x : Int))) (h2 : Ev t2 σ H (.int (n : Int))) (hn : n ≤ 1000) : EvL (tCall sp_numb [] E (tCons t1 (tCons t2 tNil))) σ H ((cs (bigB x n)).map V.int) := el_call (ea_cons h1 (ea_cons h2 ea_nil)) fun H1 _ Q q _ => ⟨x, n, rfl, hn, q⟩

/-! ### lists of triples -/
abbrev T3 := Nat × Nat × Nat
def triV (t : T3) : List V := [.int (t.1 : Int), .int (t.2.1 : Int), .int (t.2.2 : Int)]
def triD (t : T3) : PyData := .tuple [.int (t.1 : Int), .int (t.2.1 : Int), .int (t.2.2 : Int)]
def TupsAt (H : Hp) : List Addr → List T3 → Prop
  | [], [] => True
  | p :: ps, f :: fs => H p = some (.tup (triV f)) ∧ TupsAt H ps fs
  | _, _ => False
theorem TupsAt.len {H : Hp} : ∀ {ps : List Addr} {fs : List T3}, TupsAt H ps fs → ps.length = fs.length
  | [], [], _ => rfl
  | _ :: _, _ :: _, h => by rw [List.length_cons, List.length_cons, TupsAt.len h.2]
  | [], _ :: _, h => h.elim
  | _ :: _, [], h => h.elim
theorem TupsAt.get {H : Hp} : ∀ {ps : List Addr} {fs : List T3}, TupsAt H ps fs → ∀ (i : Nat) (p : Addr), ps[i]? = some p → ∃ f, fs[i]? = some f ∧ H p = some (.tup (triV f))
  | [], _, _, i, p, hp => by simp at hp
  | q :: ps, f :: fs, h, 0, p, hp => ⟨f, rfl, by cases hp; exact h.1⟩
  | q :: ps, f :: fs, h, i + 1, p, hp => TupsAt.get h.2 i p hp
  | _ :: _, [], h, _, _, _ => h.elim
theorem TupsAt.rel {H H' : Hp} (r : ∀ p t, H p = some (.tup t) → H' p = some (.tup t)) : ∀ {ps : List Addr} {fs : List T3}, TupsAt H ps fs → TupsAt H' ps fs
  | [], [], _ => trivial
  | _ :: _, _ :: _, h => ⟨r _ _ h.1, TupsAt.rel r h.2⟩
  | [], _ :: _, h => h.elim
  | _ :: _, [], h => h.elim
theorem TupsAt.ex {H H' : Hp} {ps : List Addr} {fs : List T3} (h : TupsAt H ps fs) (e : Ex H H') : TupsAt H' ps fs := h.rel fun p t g => e p _ g
theorem TupsAt.updL {H : Hp} {D : Addr} {xs ys : List V} {ps : List Addr} {fs : List T3} (h : TupsAt H ps fs) (hD : H D = some (.lst xs)) : TupsAt (upd H D (.lst ys)) ps fs := h.rel fun p t g => by
  have : p ≠ D := by rintro rfl; rw [hD] at g; cases g
  rw [upd_ne this]
  exact g
theorem TupsAt.fr {s : Addr} {H H' : Hp} {ps : List Addr} {fs : List T3} (h : TupsAt H ps fs) (st : StAt H s) (f : Fr s H H') : TupsAt H' ps fs := h.rel fun p t g => by
  have : p ≠ s := by rintro rfl; obtain ⟨k, c, q⟩ := st; rw [q] at g; cases g
  exact f.1 p _ this g
theorem TupsAt.snoc {H : Hp} {p : Addr} {f : T3} (hp : H p = some (.tup (triV f))) : ∀ {ps : List Addr} {fs : List T3}, TupsAt H ps fs → TupsAt H (ps ++ [p]) (fs ++ [f])
  | [], [], _ => ⟨hp, trivial⟩
  | _ :: _, _ :: _, h => ⟨h.1, TupsAt.snoc hp h.2⟩
  | [], _ :: _, h => h.elim
  | _ :: _, [], h => h.elim
theorem TupsAt.d {H : Hp} : ∀ {ps : List Addr} {fs : List T3}, TupsAt H ps fs → DpAll K H (ps.map V.ref) (fs.map triD)
  | [], [], _ => .nil
  | _ :: _, _ :: _, h => .cons (.tup (st_of h.1) (.cons (.int _) (.cons (.int _) (.cons (.int _) .nil)))) (TupsAt.d h.2)
  | [], _ :: _, h => h.elim
  | _ :: _, [], h => h.elim
theorem canLay_tris : ∀ fs : List T3, PyData.canLayAll0 (fs.map triD) = true
  | [] => by simp [PyData.canLayAll0]
  | f :: r => by
    show PyData.canLayAll0 (triD f :: r.map triD) = true
    rw [PyData.canLayAll0, canLay_tris r]
    simp [triD, PyData.canLay0, PyData.canLayAll0]
theorem depth_tris : ∀ fs : List T3, PyData.depthAll (fs.map triD) ≤ 3
  | [] => by simp [PyData.depthAll]
  | f :: r => by
    show PyData.depthAll (triD f :: r.map triD) ≤ 3
    have := depth_tris r
    simp only [triD, PyData.depthAll, PyData.depth] at *
    omega
theorem shaped_tris (fs : List T3) : SeqAt.shaped (.list (fs.map triD)) = true := by
  unfold SeqAt.shaped
  have h1 := canLay_tris fs
  have h2 := depth_tris fs
  rw [Bool.and_eq_true, decide_eq_true_iff]
  refine ⟨by simpa only [PyData.canLay0] using h1, ?_⟩
  rw [PyData.depth]
  omega
theorem shaped_tri (f : T3) : SeqAt.shaped (triD f) = true := by
  unfold SeqAt.shaped
  rw [Bool.and_eq_true, decide_eq_true_iff]
  exact ⟨by simp [triD, PyData.canLay0, PyData.canLayAll0], by simp only [triD, PyData.depth, PyData.depthAll]; omega⟩
/-- a, b, c = a triple -/
theorem ref_at {ps : List Addr} {i : Nat} {x : V} (hx : (ps.map V.ref)[i]? = some x) : ∃ p, ps[i]? = some p ∧ i < ps.length ∧ x = V.ref p := by
  rw [List.getElem?_map] at hx
  cases en : ps[i]? with
  | none => rw [en] at hx; cases hx
  | some n => rw [en] at hx; exact ⟨n, rfl, (List.getElem?_eq_some_iff.mp en).1, (Option.some.inj hx).symm⟩
theorem at_ref {ps : List Addr} {i : Nat} {p : Addr} (h : ps[i]? = some p) : (ps.map V.ref)[i]? = some (V.ref p) := by rw [List.getElem?_map, h]; rfl
theorem tups_take {H : Hp} : ∀ {ps : List Addr} {fs : List T3}, TupsAt H ps fs → ∀ i, TupsAt H (ps.take i) (fs.take i)
  | [], [], _, i => by rw [List.take_nil, List.take_nil]; trivial
  | _ :: _, _ :: _, _, 0 => trivial
  | _ :: _, _ :: _, h, i + 1 => ⟨h.1, tups_take h.2 i⟩
  | [], _ :: _, h, _ => h.elim
  | _ :: _, [], h, _ => h.elim

/-! ### the program -/
def holdA (e : Int) (t : T3) : Bool := decide ((t.1 : Int) ≤ ((t.1 : Int) + (t.2.2 : Int) - 1) / e * e)
def sp_hm : Sp := fun vs H Q _ => ∃ (t : T3) (e : Int), vs = [.int (t.1 : Int), .int (t.2.2 : Int), .int e] ∧ 0 < e ∧ e < 2 ^ 30 ∧ RetV (.bl (holdA e t)) H Q
theorem ok_holds_multiple (T : TX K mg) : FnOk P w K mg base CX0 1 T.a_holds_multiple T.d_holds_multiple ["sample", "count", "every"] sp_hm := by
  refine T.F_holds_multiple.ok sc_holds_multiple (fun vs H Q E h => by obtain ⟨t, e, rfl, _⟩ := h; rfl) (fun cdv A outer s0 H vs Q E hr h => ?_)
  obtain ⟨t, e, rfl, h0, h1, k⟩ := h
  refine ⟨_, (pss_one (ps_ret (pe_cmpR op_ge (pe_op op_mul (pe_op op_fdiv (pe_op op_sub (pe_op op_add (pv 0) (pv 1)) pe_int) (pv 2)) (pv 2)) (pv 0) (nomark _)))), ?_⟩
  have he : (2 : Int) ^ 30 = 1073741824 := rfl
  exact s_ret (v := .bl (holdA e t)) (ev_I0 (ev_I (ev_I (ev_I0 (ev_I0 (ev_var rfl) (ev_var rfl)) ev_c) (ev_var rfl) ⟨by omega, by omega⟩) (ev_var rfl) (.inr ⟨by omega, by omega⟩)) (ev_var rfl)) fun H1 e1 => k H1 e1
def RetT (fs : List T3) (H : Hp) (Q : VK) : Prop := ∀ p qs H', H p = none → Ex H H' → H' p = some (.lst (qs.map V.ref)) → TupsAt H' qs fs → Q (.ref p) H'
def sp_pfor (K : PySem.W.Frag) : Sp := fun vs H Q _ => ∃ (a : Addr) (ps : List Addr) (fs : List T3) (e : Int), vs = [.ref a, .int e] ∧ SqL K H a (ps.map V.ref) ∧ TupsAt H ps fs ∧ fs.length ≤ 1000 ∧ 0 < e ∧ e < 2 ^ 30 ∧ RetT (fs.filter (holdA e)) H Q
theorem filter_take {α : Type} (f : α → Bool) {xs : List α} {i : Nat} {x : α} (h : xs[i]? = some x) : (xs.take (i + 1)).filter f = (xs.take i).filter f ++ if f x = true then [x] else [] := by
  have : xs.take (i + 1) = xs.take i ++ [x] := by rw [List.take_add_one, h]; rfl
  rw [this, List.filter_append, List.filter_cons]
  rfl
theorem ok_points_for (T : TX K mg) : FnOk P w K mg base CX0 2 T.a_points_for T.d_points_for ["frames", "every"] (sp_pfor K) := by
  refine T.F_points_for.ok sc_points_for (fun vs H Q E h => by obtain ⟨a, ps, fs, e, rfl, _⟩ := h; rfl) (fun cdv A outer s0 H vs Q E hr h => ?_)
  obtain ⟨a, ps, fs, e, rfl, hS, hT, hl, h0, h1, k⟩ := h
  refine ⟨_, (pss_one (ps_ret (pe_lc (own := [("sample", 2), ("offset", 3), ("count", 4)]) (g := (gTup K 3 (gCons (gName 2) (gCons (gName 3) (gCons (gName 4) gNil)))))  rfl sc_points_for.nd (pi_list (pv 0)) (blkOk_by (N := ["frames", "every", "sample", "offset", "count"]) (sc := defScope s_points_for) (by decide +kernel)) (fun _ _ _ _ _ => (pg_tup rfl (pgs_cons (pg_name (i := 2) sc_points_for.nd rfl (Or.inl rfl)) (pgs_cons (pg_name (i := 3) sc_points_for.nd rfl (Or.inl rfl)) (pgs_cons (pg_name (i := 4) sc_points_for.nd rfl (Or.inl rfl)) pgs_nil))))) (fun _ _ _ _ _ => pts_one (pt_val (pe_call (ok_holds_multiple T) (hr.mono (by decide)) (by rfl) T.g_holds_multiple T.F_holds_multiple.kp T.b_holds_multiple .nil pass0 (pa_cons (pv 2) (pa_cons (pv 4) (pa_cons (pv 1) pa_nil)))))) (fun _ _ _ _ _ => (pe_tup (pa_cons (pv 2) (pa_cons (pv 3) (pa_cons (pv 4) pa_nil)))))))), ?_⟩
  have hpl := hT.len
  refine ⟨.ref a, rfl, a, rfl, ⟨_, hS⟩, fun D hD => lc_list (xs := ps.map V.ref) (fun i H' => ∃ qs : List Addr, Ex H H' ∧ H' D = some (.lst (qs.map V.ref)) ∧ TupsAt H' qs ((fs.take i).filter (holdA e))) ⟨[], Ex.new hD, upd_same, trivial⟩ (fun i H' _ h => by obtain ⟨_, ex, _⟩ := h; exact ex_l ex hS) (fun i x H' hi h => ?_) (fun H' h => ?_)⟩
  · obtain ⟨qs, ex, gD, hQ⟩ := h
    obtain ⟨p, hp, hlt, rfl⟩ := ref_at hi
    obtain ⟨f, hf, hpt⟩ := hT.get i p hp
    have hpt' := ex _ _ hpt
    refine ⟨p, triV f, rfl, st_of hpt', rfl, .int (f.1 : Int), [.int (f.2.1 : Int), .int (f.2.2 : Int)], rfl, .int (f.2.1 : Int), [.int (f.2.2 : Int)], rfl, .int (f.2.2 : Int), [], rfl, rfl, ⟨rfl, ?_⟩⟩
    refine' et_go (b := holdA e f) ?hh ?kk
    case hh => exact et_B (ev_call (ea_cons (ev_var rfl) (ea_cons (ev_var rfl) (ea_cons (ev_var rfl) ea_nil))) fun H2 _ Q' q' _ => ⟨f, e, rfl, h0, h1, q'⟩)
    intro H2 e2
    have hfl := List.length_filter_le (holdA e) (fs.take i)
    have hql : qs.length ≤ 1000 := by
      have h3 := hQ.len
      have h4 : (fs.take i).length ≤ fs.length := by rw [List.length_take]; omega
      omega
    cases hb : holdA e f with
    | true =>
      rw [if_pos rfl]
      refine' eu_go (xs := triV f) ?hh2 ?kk2
      case hh2 => exact eu_tup (ea_cons (ev_var rfl) (ea_cons (ev_var rfl) (ea_cons (ev_var rfl) ea_nil))) (Nat.le_of_ble_eq_true rfl)
      intro t H3 ht e3 g3
      refine ⟨qs.map V.ref, e3 _ _ (e2 _ _ gD), sz_lt (by rw [List.length_map]; omega), qs ++ [t], ?_, ?_, ?_⟩
      · exact Ex.mut (ex.trans (e2.trans e3)) hD
      · rw [upd_same, List.map_append]
        rfl
      · rw [filter_take _ hf, if_pos hb]
        exact ((hQ.ex (e2.trans e3)).snoc g3).updL (e3 _ _ (e2 _ _ gD))
    | false =>
      refine ⟨qs, ex.trans e2, e2 _ _ gD, ?_⟩
      rw [filter_take _ hf, if_neg (by rw [hb]; decide), List.append_nil]
      exact hQ.ex e2
  · obtain ⟨qs, ex, gD, hQ⟩ := h
    rw [List.length_map, hpl, List.take_length] at hQ
    exact k D qs H' hD ex gD hQ
def Pts (H : Hp) (L : List (V × Option T3)) : Prop := ∀ x ∈ L, match x.2 with | none => x.1 = .non | some t => ∃ p, x.1 = .ref p ∧ H p = some (.tup (triV t))
theorem Pts.rel {H H' : Hp} {L : List (V × Option T3)} (r : ∀ p t, H p = some (.tup t) → H' p = some (.tup t)) (h : Pts H L) : Pts H' L := fun x hx => by
  have := h x hx
  revert this
  cases x.2 with
  | none => exact id
  | some t => exact fun ⟨p, h1, h2⟩ => ⟨p, h1, r _ _ h2⟩
theorem Pts.ex {H H' : Hp} {L : List (V × Option T3)} (h : Pts H L) (e : Ex H H') : Pts H' L := h.rel fun p t g => e p _ g
theorem Pts.fr {s : Addr} {H H' : Hp} {L : List (V × Option T3)} (h : Pts H L) (st : StAt H s) (f : Fr s H H') : Pts H' L := h.rel fun p t g => by
  have : p ≠ s := by rintro rfl; obtain ⟨k, c, q⟩ := st; rw [q] at g; cases g
  exact f.1 p _ this g
def nstep (smp : Int) (acc : V) (x : V × Option T3) : V := match x.2 with | none => acc | some t => if (t.1 : Int) ≤ smp then x.1 else acc
def nearF (smp : Int) (L : List (V × Option T3)) : V := L.foldl (nstep smp) .non
theorem near_snoc (smp : Int) {L : List (V × Option T3)} {i : Nat} {x : V × Option T3} (h : L[i]? = some x) : nearF smp (L.take (i + 1)) = nstep smp (nearF smp (L.take i)) x := by
  have : L.take (i + 1) = L.take i ++ [x] := by rw [List.take_add_one, h]; rfl
  unfold nearF
  rw [this, List.foldl_append]
  rfl
theorem near_dp {H : Hp} {smp : Int} : ∀ {L : List (V × Option T3)} {acc : V}, Pts H L → (∃ d, Dp K H acc d ∧ SeqAt.shaped d = true) → ∃ d, Dp K H (L.foldl (nstep smp) acc) d ∧ SeqAt.shaped d = true
  | [], _, _, h => h
  | (xv, none) :: L, acc, hP, h => near_dp (L := L) (acc := acc) (fun y hy => hP y (List.mem_cons_of_mem _ hy)) h
  | (xv, some t) :: L, acc, hP, h => by
    obtain ⟨p, h1, h2⟩ := hP _ (List.mem_cons_self ..)
    refine near_dp (L := L) (acc := if (t.1 : Int) ≤ smp then xv else acc) (fun y hy => hP y (List.mem_cons_of_mem _ hy)) ?_
    split
    · rw [show xv = V.ref p from h1]
      exact ⟨triD t, .tup (st_of h2) (.cons (.int _) (.cons (.int _) (.cons (.int _) .nil))), shaped_tri t⟩
    · exact h
def sp_near (K : PySem.W.Frag) : Sp := fun vs H Q _ => ∃ (a : Addr) (L : List (V × Option T3)) (smp : Int), vs = [.ref a, .int smp] ∧ SqL K H a (L.map (·.1)) ∧ Pts H L ∧ RetV (nearF smp L) H Q
theorem pt_at {L : List (V × Option T3)} {i : Nat} {x : V} (h : (L.map (·.1))[i]? = some x) : ∃ y, L[i]? = some y ∧ x = y.1 := by
  rw [List.getElem?_map] at h
  cases e : L[i]? with
  | none => rw [e] at h; cases h
  | some y => rw [e] at h; exact ⟨y, rfl, (Option.some.inj h).symm⟩
theorem ok_nearest_point (T : TX K mg) : FnOk P w K mg base CX0 1 T.a_nearest_point T.d_nearest_point ["points", "sample"] (sp_near K) := by
  refine T.F_nearest_point.ok sc_nearest_point (fun vs H Q E h => by obtain ⟨a, L, smp, rfl, _⟩ := h; rfl) (fun cdv A outer s0 H vs Q E hr h => ?_)
  obtain ⟨a, L, smp, rfl, hS, hP, k⟩ := h
  refine ⟨_, (pss_cons (ps_set (i := 2) sc_nearest_point.nd rfl (Or.inl rfl) pe_non)
      (pss_cons (ps_for PassesOwn.never rfl (pi_list (pv 0)) (pg_name (i := 3) sc_nearest_point.nd rfl (Or.inl rfl)) (pss_one (ps_if (PW.pt (pw_and (pt_cmpR op_notN1 (pv 3) pe_non (nomark _)) (pw_and1 (pt_cmpR op_le (pe_ix (r := rIxT K) ix_tup (pv 3) pe_int (fun _ _ => rfl)) (pv 1) (nomark _))))) (pss_one (ps_set (i := 2) sc_nearest_point.nd rfl (Or.inl rfl) (pv 3))) pss_nil)))
      (pss_one (ps_ret (pv 2))))), ?_⟩
  refine q_asg ev_c fun H1 e1 => ?_
  refine q_forLn (K := K) (a := a) (ev_var rfl) (ex_l e1 hS) (fun i σ' H' => ∃ z, σ' = [some (.ref a), some (.int smp), some (nearF smp (L.take i)), z] ∧ Ex H H') (fun H2 e2 => ⟨none, rfl, e1.trans e2⟩) (fun i σ' H' _ h => by obtain ⟨_, _, ex⟩ := h; exact ex_l ex hS) ?_ ?_
  · rintro i x σ' H2 hx ⟨z, rfl, ex⟩
    obtain ⟨y, hy, rfl⟩ := pt_at hx
    have hPy := hP y (List.mem_of_getElem? hy)
    have hst := near_snoc smp hy
    unfold nstep at hst
    revert hPy hst
    cases h2 : y.2 with
    | none =>
      intro hPy hst
      have hPy : y.1 = .non := hPy
      have hst : nearF smp (L.take (i + 1)) = nearF smp (L.take i) := hst
      refine s_when (b := false) (et_is (et_and (a := false) (b := false) (et_is (et_test (ev_notN (ev_var rfl))) (by rw [hPy]; decide)) fun h => by cases h) rfl) (fun h => by cases h) fun _ H3 e3 => ⟨_, by rw [hst]; rfl, ex.trans e3⟩
    | some t =>
      rintro ⟨p, h1, hp⟩ hst
      have hst : nearF smp (L.take (i + 1)) = if (t.1 : Int) ≤ smp then y.1 else nearF smp (L.take i) := hst
      refine s_when (b := decide ((t.1 : Int) ≤ smp)) (et_is (et_and (a := true) (b := decide ((t.1 : Int) ≤ smp)) (et_is (et_test (ev_notN (ev_var rfl))) (by rw [h1]; rfl)) fun _ => et_test (ev_I0 (ev_atT (t := p) (xs := triV t) (n := 0) (v := .int (t.1 : Int)) (ev_var (by rw [h1]; rfl)) (st_of (ex _ _ hp)) ev_c (at_of (j := 0) rfl rfl)) (ev_var rfl))) rfl) (fun h H3 e3 => ?_) (fun h H3 e3 => ?_)
      · exact s_asg (ev_var rfl) fun H4 e4 => ⟨_, by rw [hst, if_pos (of_decide_eq_true h)]; rfl, ex.trans (e3.trans e4)⟩
      · exact ⟨_, by rw [hst, if_neg (of_decide_eq_false h)]; rfl, ex.trans e3⟩
  · rintro σ' H2 ⟨z, rfl, ex⟩
    rw [List.length_map, List.take_length]
    exact s_ret (ev_var rfl) fun H3 e3 => k.go (ex.trans e3)
theorem ok_law_nearest (T : TX K mg) : FnOk P w K mg base CX0 1 T.a_law_nearest T.d_law_nearest ["points", "sample"] (sp_near K) := by
  refine T.F_law_nearest.ok sc_law_nearest (fun vs H Q E h => by obtain ⟨a, L, smp, rfl, _⟩ := h; rfl) (fun cdv A outer s0 H vs Q E hr h => ?_)
  obtain ⟨a, L, smp, rfl, hS, hP, k⟩ := h
  refine ⟨_, (pss_cons (ps_set (i := 2) sc_law_nearest.nd rfl (Or.inl rfl) pe_non)
      (pss_cons (ps_for PassesOwn.never rfl (pi_list (pv 0)) (pg_name (i := 3) sc_law_nearest.nd rfl (Or.inl rfl)) (pss_one (ps_if (pt_cmpR op_notN1 (pv 3) pe_non (nomark _)) (pss_one (ps_if (pt_cmpR op_le (pe_ix (r := rIxT K) ix_tup (pv 3) pe_int (fun _ _ => rfl)) (pv 1) (nomark _)) (pss_one (ps_set (i := 2) sc_law_nearest.nd rfl (Or.inl rfl) (pv 3))) pss_nil)) pss_nil)))
      (pss_one (ps_ret (pv 2))))), ?_⟩
  refine q_asg ev_c fun H1 e1 => ?_
  refine q_forLn (K := K) (a := a) (ev_var rfl) (ex_l e1 hS) (fun i σ' H' => ∃ z, σ' = [some (.ref a), some (.int smp), some (nearF smp (L.take i)), z] ∧ Ex H H') (fun H2 e2 => ⟨none, rfl, e1.trans e2⟩) (fun i σ' H' _ h => by obtain ⟨_, _, ex⟩ := h; exact ex_l ex hS) ?_ ?_
  · rintro i x σ' H2 hx ⟨z, rfl, ex⟩
    obtain ⟨y, hy, rfl⟩ := pt_at hx
    have hPy := hP y (List.mem_of_getElem? hy)
    have hst := near_snoc smp hy
    unfold nstep at hst
    revert hPy hst
    cases h2 : y.2 with
    | none =>
      intro hPy hst
      have hPy : y.1 = .non := hPy
      have hst : nearF smp (L.take (i + 1)) = nearF smp (L.take i) := hst
      refine s_when (b := false) (et_is (et_test (ev_notN (ev_var rfl))) (by rw [hPy]; decide)) (fun h => by cases h) fun _ H3 e3 => ⟨_, by rw [hst]; rfl, ex.trans e3⟩
    | some t =>
      rintro ⟨p, h1, hp⟩ hst
      have hst : nearF smp (L.take (i + 1)) = if (t.1 : Int) ≤ smp then y.1 else nearF smp (L.take i) := hst
      refine s_when (b := true) (et_is (et_test (ev_notN (ev_var rfl))) (by rw [h1]; rfl)) (fun _ H3 e3 => ?_) (fun h => by cases h)
      refine s_when (b := decide ((t.1 : Int) ≤ smp)) (et_test (ev_I0 (ev_atT (t := p) (xs := triV t) (n := 0) (v := .int (t.1 : Int)) (ev_var (by rw [h1]; rfl)) (st_of ((ex.trans e3) _ _ hp)) ev_c (at_of (j := 0) rfl rfl)) (ev_var rfl))) (fun h H4 e4 => ?_) (fun h H4 e4 => ?_)
      · exact s_asg (ev_var rfl) fun H5 e5 => ⟨_, by rw [hst, if_pos (of_decide_eq_true h)]; rfl, ex.trans (e3.trans (e4.trans e5))⟩
      · exact ⟨_, by rw [hst, if_neg (of_decide_eq_false h)]; rfl, ex.trans (e3.trans e4)⟩
  · rintro σ' H2 ⟨z, rfl, ex⟩
    rw [List.length_map, List.take_length]
    exact s_ret (ev_var rfl) fun H3 e3 => k.go (ex.trans e3)
/-! ### the law -/
def sp_lframes (K : PySem.W.Frag) : Sp := fun vs H Q _ => ∃ (s a : Addr) (ns : List Int), vs = [.ref s, .ref a] ∧ DrS K H s a ns ∧ ∀ p ps (fs : List T3) H', H p = none → Fr s H H' → H' p = some (.lst (ps.map V.ref)) → TupsAt H' ps fs → fs.length ≤ 12 → (∀ f ∈ fs, f.1 ≤ 1000000 ∧ 1 ≤ f.2.2 ∧ f.2.2 ≤ 65535) → Q (.ref p) H'
theorem ok_law_frames (T : TX K mg) : FnOk P w K mg base CX0 4 T.a_law_frames T.d_law_frames ["state", "script"] (sp_lframes K) := by
  refine T.F_law_frames.ok sc_law_frames (fun vs H Q E h => by obtain ⟨s, a, ns, rfl, _⟩ := h; rfl) (fun cdv A outer s0 H vs Q E hr h => ?_)
  obtain ⟨s, a, ns, rfl, hd, k⟩ := h
  refine ⟨_, (pss_cons (ps_set (i := 2) sc_law_frames.nd rfl (Or.inl rfl) (pe_lst pa_nil))
      (pss_cons (ps_set (i := 3) sc_law_frames.nd rfl (Or.inl rfl) pe_int)
      (pss_cons (ps_set (i := 4) sc_law_frames.nd rfl (Or.inl rfl) pe_int)
      (pss_cons (ps_set (i := 5) sc_law_frames.nd rfl (Or.inl rfl) (pe_cmpR op_eq (pe_call (ok_law_draw T) (hr.mono (by decide)) (by rfl) T.g_law_draw T.F_law_draw.kp T.b_law_draw .nil pass0 (pa_cons (pv 0) (pa_cons (pv 1) (pa_cons pe_int pa_nil)))) pe_int (nomark _)))
      (pss_cons (ps_for PassesOwn.never rfl (pi_range1 (by rfl) T.m_range (pa_cons (pe_call (ok_law_draw T) (hr.mono (by decide)) (by rfl) T.g_law_draw T.F_law_draw.kp T.b_law_draw .nil pass0 (pa_cons (pv 0) (pa_cons (pv 1) (pa_cons pe_int pa_nil)))) pa_nil)) (pg_name (i := 6) sc_law_frames.nd rfl (Or.inl rfl)) (pss_cons (ps_set (i := 7) sc_law_frames.nd rfl (Or.inl rfl) (pe_op op_add pe_int (pe_call (ok_law_draw T) (hr.mono (by decide)) (by rfl) T.g_law_draw T.F_law_draw.kp T.b_law_draw .nil pass0 (pa_cons (pv 0) (pa_cons (pv 1) (pa_cons pe_int pa_nil))))))
        (pss_cut (ps_if (pt_val (pv 5)) (pss_one (ps_set (i := 7) sc_law_frames.nd rfl (Or.inl rfl) (pe_op op_add pe_int (pe_call (ok_law_wide T) (hr.mono (by decide)) (by rfl) T.g_law_wide T.F_law_wide.kp T.b_law_wide .nil pass0 (pa_cons (pv 0) (pa_cons (pv 1) (pa_cons pe_int pa_nil))))))) pss_nil)
        (pss_cons (ps_expr (pe_bm PySem.F.plainAttrs_list PySem.F.slot_list_append PySem.F.type_list_append mt_append (pv 2) (pa_cons (pe_tup (pa_cons (pv 3) (pa_cons (pv 4) (pa_cons (pv 7) pa_nil)))) pa_nil)))
        (pss_cons (ps_set (i := 3) sc_law_frames.nd rfl (Or.inl rfl) (pe_op op_add (pv 3) (pv 7)))
        (pss_one (ps_set (i := 4) sc_law_frames.nd rfl (Or.inl rfl) (pe_op op_add (pe_op op_add (pv 4) pe_int) (pe_call (ok_law_draw T) (hr.mono (by decide)) (by rfl) T.g_law_draw T.F_law_draw.kp T.b_law_draw .nil pass0 (pa_cons (pv 0) (pa_cons (pv 1) (pa_cons pe_int pa_nil))))))))))))
      (pss_one (ps_ret (pv 2)))))))), ?_⟩
  refine q_asgL (xs := []) (el_lst ea_nil (by decide)) fun p H1 hp e1 g1 => ?_
  have hps : p ≠ s := ne_st hd.1 hp
  refine q_asg ev_c fun H2 e2 => q_asg ev_c fun H3 e3 => ?_
  have f3 := Fr.ex hd.1 (e1.trans (e2.trans e3))
  have g3 := (e2.trans e3) _ _ g1
  refine q_asgRaw (fun x H4 => ∃ b : Bool, x = .bl b ∧ Fr s H3 H4) (fun Q' q' => wi_draw (hd.fr f3) rfl rfl ev_c (by decide) (by decide) _ fun z H4 f4 hz => ⟨rfl, q' _ H4 ⟨_, rfl, f4⟩⟩) ?_
  rintro _ H4 ⟨great, rfl, f4⟩
  have f04 := f3.trans f4
  refine qw_forR1 (wi_draw (hd.fr f04) rfl rfl ev_c (by decide) (by decide)) (fun i hi => by obtain ⟨d, rfl, h⟩ := hi; omega) (fun n i σ' H' => ∃ (smp off : Nat) (ps : List Addr) (fs : List T3) (z6 z7 : Option V), σ' = [some (.ref s), some (.ref a), some (.ref p), some (.int (smp : Int)), some (.int (off : Int)), some (.bl great), z6, z7] ∧ Fr s H H' ∧ H' p = some (.lst (ps.map V.ref)) ∧ TupsAt H' ps fs ∧ fs.length = i ∧ smp ≤ 65535 * i ∧ ∀ f ∈ fs, f.1 ≤ 1000000 ∧ 1 ≤ f.2.2 ∧ f.2.2 ≤ 65535) ?_ ?_ ?_
  · rintro n H5 hn f5
    exact ⟨0, 0, [], [], none, none, rfl, f04.trans f5, (f4.trans f5).l hps g3, trivial, rfl, by omega, fun f hf => by cases hf⟩
  · rintro n i σ' H5 hn hi ⟨smp, off, ps, fs, z6, z7, rfl, f5, gp, hT, hfl, hsm, hfs⟩
    obtain ⟨nd, rfl, hnd⟩ := hn
    refine qw_asg (wi_op (wi_ev f5.2 ev_c) fun H6 f6 => wi_draw (hd.fr (f5.trans f6)) rfl rfl ev_c (by decide) (by decide)) fun z H6 f6 hz => ?_
    obtain ⟨_, _, rfl, ⟨c0, rfl, hc0⟩, rfl⟩ := hz
    refine q_cut (M := fun σ2 H7 => ∃ c : Nat, 1 ≤ c ∧ c ≤ 65535 ∧ σ2 = [some (.ref s), some (.ref a), some (.ref p), some (.int (smp : Int)), some (.int (off : Int)), some (.bl great), some (.int (i : Int)), some (.int (c : Int))] ∧ Fr s H5 H7) ?_ ?_
    · refine s_when (b := great) (et_B (ev_var rfl)) (fun _ H7 e7 => ?_) (fun _ H7 e7 => ⟨1 + c0, by omega, by omega, by show [_, _, _, _, _, _, _, some (V.int (1 + (c0 : Int)))] = _; rw [show (1 : Int) + (c0 : Int) = ((1 + c0 : Nat) : Int) by omega], f6.tex e7⟩)
      refine sw_asg (wi_op (wi_ev (f6.tex e7).2 ev_c) fun H8 f8 => wi_draw (hd.fr (f5.trans ((f6.tex e7).trans f8))) rfl rfl ev_c (by decide) (by decide)) fun z H8 f8 hz => ?_
      obtain ⟨_, _, rfl, ⟨c1, rfl, hc1⟩, rfl⟩ := hz
      exact ⟨1 + c1, by omega, by omega, by show [_, _, _, _, _, _, _, some (V.int (1 + (c1 : Int)))] = _; rw [show (1 : Int) + (c1 : Int) = ((1 + c1 : Nat) : Int) by omega], (f6.tex e7).trans f8⟩
    rintro σ2 H7 ⟨c, hc1, hc2, rfl, f7⟩
    have gp7 := f7.l hps gp
    have hT7 := hT.fr f5.2 f7
    refine q_appU gp7 (ev_var rfl) (eu_tup (ea_cons (ev_var rfl) (ea_cons (ev_var rfl) (ea_cons (ev_var rfl) ea_nil))) (Nat.le_of_ble_eq_true rfl)) (by rw [List.length_map]; have := hT7.len; omega) fun t H8 ht e8 g8 => ?_
    have hT8 := ((hT7.ex e8).snoc (f := (smp, off, c)) g8).updL (ys := (ps.map V.ref) ++ [V.ref t]) (e8 _ _ gp7)
    have f8 : Fr s H (upd H8 p (.lst ((ps.map V.ref) ++ [V.ref t]))) := ((f5.trans f7).tex e8).mut hp hps
    have g8' : (upd H8 p (.lst ((ps.map V.ref) ++ [V.ref t]))) p = some (.lst ((ps ++ [t]).map V.ref)) := by rw [upd_same, List.map_append]; rfl
    generalize upd H8 p (.lst ((ps.map V.ref) ++ [V.ref t])) = H9 at *
    refine q_asg (v := .int ((smp + c : Nat) : Int)) (Ev.is (ev_I0 (ev_var rfl) (ev_var rfl)) (congrArg V.int (by omega))) fun H10 e10 => ?_
    refine sw_asg (wi_op (wi_ev (f8.tex e10).2 (ev_I0 (ev_var rfl) ev_c)) fun H11 f11 => wi_draw (hd.fr ((f8.tex e10).trans f11)) rfl rfl ev_c (by decide) (by decide)) fun z H11 f11 hz => ?_
    obtain ⟨_, _, rfl, ⟨o1, rfl, ho1⟩, rfl⟩ := hz
    refine ⟨smp + c, off + 1 + o1, ps ++ [t], fs ++ [(smp, off, c)], some (.int (i : Int)), some (.int (c : Int)), ?_, (f8.tex e10).trans f11, f11.l hps (e10 _ _ g8'), (hT8.ex e10).fr (f8.tex e10).2 f11, by rw [List.length_append, hfl]; rfl, by omega, fun f hf => ?_⟩
    · show [_, _, _, _, some (V.int ((off : Int) + 1 + (o1 : Int))), _, _, _] = _
      rw [show (off : Int) + 1 + (o1 : Int) = ((off + 1 + o1 : Nat) : Int) by omega]
    · rcases List.mem_append.mp hf with h | h
      · exact hfs f h
      · rw [List.mem_singleton.mp h]
        exact ⟨by show smp ≤ _; omega, hc1, hc2⟩
  · rintro n σ' H5 hn ⟨smp, off, ps, fs, z6, z7, rfl, f5, gp, hT, hfl, hsm, hfs⟩
    obtain ⟨nd, rfl, hnd⟩ := hn
    exact s_ret (v := .ref p) (ev_var rfl) fun H6 e6 => k p ps fs H6 hp (f5.tex e6) (e6 _ _ gp) (hT.ex e6) (by omega) hfs

theorem hold_iff {s c e : Nat} (he : 0 < e) (hc : 1 ≤ c) : decide ((s : Int) ≤ ((s : Int) + (c : Int) - 1) / (e : Int) * (e : Int)) = (decide ((s : Int) ≤ -(-(s : Int) / (e : Int)) * (e : Int)) && decide (-(-(s : Int) / (e : Int)) * (e : Int) < (s : Int) + (c : Int))) := by
  generalize hq : ((s : Int) + (c : Int) - 1) / (e : Int) = q
  generalize ht : -(s : Int) / (e : Int) = t
  have he' : (0 : Int) < (e : Int) := by omega
  have q1 := Int.emod_add_mul_ediv ((s : Int) + (c : Int) - 1) (e : Int)
  have q2 := Int.emod_nonneg ((s : Int) + (c : Int) - 1) (show (e : Int) ≠ 0 by omega)
  have q3 := Int.emod_lt_of_pos ((s : Int) + (c : Int) - 1) he'
  have t1 := Int.emod_add_mul_ediv (-(s : Int)) (e : Int)
  have t2 := Int.emod_nonneg (-(s : Int)) (show (e : Int) ≠ 0 by omega)
  have t3 := Int.emod_lt_of_pos (-(s : Int)) he'
  rw [hq] at q1
  rw [ht] at t1
  rw [Int.mul_comm q, Int.neg_mul, Int.mul_comm t]
  generalize ((s : Int) + (c : Int) - 1) % (e : Int) = r at *
  generalize -(s : Int) % (e : Int) = u at *
  have hA : (s : Int) ≤ -((e : Int) * t) := by omega
  rw [decide_eq_true hA, Bool.true_and, decide_eq_decide]
  constructor
  · intro h
    have h1 : (e : Int) * (-t) < (e : Int) * (q + 1) := by
      rw [Int.mul_neg, Int.mul_add, Int.mul_one]
      omega
    have h2 := Int.lt_of_mul_lt_mul_left h1 (Int.le_of_lt he')
    have h3 : (e : Int) * (-t) ≤ (e : Int) * q := Int.mul_le_mul_of_nonneg_left (by omega) (Int.le_of_lt he')
    rw [Int.mul_neg] at h3
    omega
  · intro h
    have h1 : (e : Int) * (-t) < (e : Int) * (q + 1) := by
      rw [Int.mul_neg, Int.mul_add, Int.mul_one]
      omega
    have h2 := Int.lt_of_mul_lt_mul_left h1 (Int.le_of_lt he')
    have h3 : (e : Int) * (-t) ≤ (e : Int) * q := Int.mul_le_mul_of_nonneg_left (by omega) (Int.le_of_lt he')
    rw [Int.mul_neg] at h3
    omega
def sp_lholds : Sp := fun vs H Q _ => ∃ (p : Addr) (t : T3) (e : Nat), vs = [.ref p, .int (e : Int)] ∧ H p = some (.tup (triV t)) ∧ 1 ≤ t.2.2 ∧ 0 < e ∧ e < 2 ^ 30 ∧ RetV (.bl (holdA (e : Int) t)) H Q
theorem ok_law_holds (T : TX K mg) : FnOk P w K mg base CX0 1 T.a_law_holds T.d_law_holds ["frame", "every"] sp_lholds := by
  refine T.F_law_holds.ok sc_law_holds (fun vs H Q E h => by obtain ⟨p, t, e, rfl, _⟩ := h; rfl) (fun cdv A outer s0 H vs Q E hr h => ?_)
  obtain ⟨p, t, e, rfl, hp, hc, h0, h1, k⟩ := h
  refine ⟨_, (pss_cons (ps_set (i := 2) sc_law_holds.nd rfl (Or.inl rfl) (pe_op op_mul (pe_un un_neg (pe_op op_fdiv (pe_un un_neg (pe_ix (r := rIxT K) ix_tup (pv 0) pe_int (fun _ _ => rfl))) (pv 1))) (pv 1)))
      (pss_one (ps_ret (pe_chain op_le op_lt (pe_ix (r := rIxT K) ix_tup (pv 0) pe_int (fun _ _ => rfl)) (pv 2) (pe_op op_add (pe_ix (r := rIxT K) ix_tup (pv 0) pe_int (fun _ _ => rfl)) (pe_ix (r := rIxT K) ix_tup (pv 0) pe_int (fun _ _ => rfl))))))), ?_⟩
  have he : (2 : Nat) ^ 30 = 1073741824 := rfl
  have ix : ∀ {σ : L2.St} {H1 : Hp} (j : Nat) (v : V), σ[0]? = some (some (.ref p)) → Ex H H1 → (triV t)[j]? = some v → Ev (tOp (rIxT K) (tVar 0) (tC (.int (j : Int)))) σ H1 v := fun j v hσ e1 hv => ev_atT (ev_var hσ) (st_of (e1 _ _ hp)) ev_c (at_of (j := j) rfl hv)
  refine q_asg (v := .int (-(-(t.1 : Int) / (e : Int)) * (e : Int))) (ev_I (ev_negI (ev_I (ev_negI (ix 0 _ rfl (Ex.refl _) rfl)) (ev_var rfl) ⟨by omega, by omega⟩)) (ev_var rfl) (.inr ⟨by omega, by omega⟩)) fun H1 e1 => ?_
  exact s_ret (v := .bl (holdA (e : Int) t)) (Ev.is (ev_chain (ix 0 _ rfl e1 rfl) (ev_var rfl) (ev_I0 (ix 0 _ rfl e1 rfl) (ix 2 _ rfl e1 rfl))) (congrArg V.bl (hold_iff h0 hc).symm)) fun H2 e2 => k.go (e1.trans e2)
def sp_ltups (K : PySem.W.Frag) : Sp := fun vs H Q _ => ∃ (a : Addr) (ps : List Addr) (fs : List T3), vs = [.ref a] ∧ H a = some (.lst (ps.map V.ref)) ∧ TupsAt H ps fs ∧ RetV (.bl true) H Q
theorem ev_isiT {σ : L2.St} {H : Hp} {ta : TE} {a : Addr} {xs : List V} (ha : Ev ta σ H (.ref a)) (h : H a = some (.tup xs)) : Ev (tCB (rIsi K) (tCons ta (tCons (tC (.ty "tuple")) tNil))) σ H (.bl true) := ev_isi ha (isi_tup h) kit_tt
theorem ev_lenT {σ : L2.St} {H : Hp} {ta : TE} {a : Addr} {xs : List V} (ha : Ev ta σ H (.ref a)) (h : H a = some (.tup xs)) : Ev (tCB (rLenS K) (tCons ta tNil)) σ H (.int (xs.length : Int)) := fun H1 e Q q =>
  ha H1 e _ fun H2 e2 => ⟨a, xs, rfl, .inr (st_of ((e.trans e2) _ _ h)), q H2 e2⟩
/-- [.. for x in t], t a tuple -/
theorem el_lcT {σ : L2.St} {H : Hp} {t1 te : TE} {t : Addr} {xs : List V} {vs : List Nat} {j : Nat} (zs : List V) (h1 : Ev t1 σ H (.ref t)) (hT : SqT K H t xs) (hz : zs.length = xs.length) (hb : zs.length ≤ 50000) (hw : ∀ x, wipe ((wipe σ vs).set j (some x)) vs = wipe σ vs)
    (he : ∀ (i : Nat) (x : V) H1, Ex H H1 → xs[i]? = some x → ∃ z, zs[i]? = some z ∧ Ev te ((wipe σ vs).set j (some x)) H1 z) :
    EvL (tLc (iTup K t1) (gName j) tYes te vs) σ H zs := fun H0 e Q q =>
  h1 H0 e _ fun H1 e1 => ⟨t, rfl, ⟨xs, ex_t (e.trans e1) hT⟩, fun D hD => lc_tup (xs := xs) (fun i H' => Ex H1 H' ∧ H' D = some (.lst (zs.take i))) ⟨Ex.new hD, upd_same⟩ (fun i H' _ h => ex_t ((e.trans e1).trans h.1) hT)
    (fun i x H' hi h => ⟨hw x, by
      obtain ⟨z, hz1, hz2⟩ := he i x H' ((e.trans e1).trans h.1) hi
      have hl : i < xs.length := (List.getElem?_eq_some_iff.mp hi).1
      refine hz2 H' (Ex.refl _) _ fun H4 e4 => ⟨zs.take i, e4 _ _ h.2, sz_lt (by rw [List.length_take]; omega), Ex.mut (h.1.trans e4) hD, ?_⟩
      rw [upd_same, take_snoc hz1]⟩)
    (fun H' h => q D H' (fresh_back e1 hD) (e1.trans h.1) (by rw [h.2, ← hz, List.take_length]))⟩
theorem ok_law_tuples (T : TX K mg) : FnOk P w K mg base CX0 2 T.a_law_tuples T.d_law_tuples ["actual"] (sp_ltups K) := by
  refine T.F_law_tuples.ok sc_law_tuples (fun vs H Q E h => by obtain ⟨a, ps, fs, rfl, _⟩ := h; rfl) (fun cdv A outer s0 H vs Q E hr h => ?_)
  obtain ⟨a, ps, fs, rfl, hA, hT, k⟩ := h
  refine ⟨_, (pss_cons (ps_if (pt_not (pt_val (pe_callB (r := rIsi K) call_isi (by rfl) T.m_isinstance PyProof.Rows.boot_isinstance (pa_cons (pv 0) (pa_cons (pe_bltn (v := V.ty "list") (by rfl) T.m_list PyProof.Rows.boot_list rfl) pa_nil))))) (pss_one (ps_ret pe_bl)) pss_nil)
      (pss_cons (ps_for PassesOwn.never rfl (pi_list (pv 0)) (pg_name (i := 1) sc_law_tuples.nd rfl (Or.inl rfl)) (pss_one (ps_if (PW.pt (pw_or (pt_not (pt_val (pe_callB (r := rIsi K) call_isi (by rfl) T.m_isinstance PyProof.Rows.boot_isinstance (pa_cons (pv 1) (pa_cons (pe_bltn (v := V.ty "tuple") (by rfl) T.m_tuple PyProof.Rows.boot_tuple rfl) pa_nil))))) (pw_or (pt_cmpR op_ne (pe_callB (r := rLenS K) call_len_seq (by rfl) T.m_len PySem.boot_len (pa_cons (pv 1) pa_nil)) pe_int (nomark _)) (pw_or1 (pt_not (pt_val (pe_callB (r := rAll K) (cr_all rfl) (by rfl) T.m_all PyProof.Rows.boot_all (pa_cons (pe_lc (own := [("part", 2)]) (g := gName 2) (tt := tYes) rfl sc_law_tuples.nd (pi_tup (pv 1)) (blkOk_by (N := ["actual", "one", "part"]) (sc := defScope s_law_tuples) (by decide +kernel)) (fun _ _ _ _ _ => pg_name (i := 2) sc_law_tuples.nd rfl (Or.inl rfl)) (fun _ _ _ _ _ => pts_nil) (fun _ _ _ _ _ => (pe_call (ok_law_is_integer T) (hr.mono (by decide)) (by rfl) T.g_law_is_integer T.F_law_is_integer.kp T.b_law_is_integer .nil pass0 (pa_cons (pv 2) pa_nil)))) pa_nil)))))))) (pss_one (ps_ret pe_bl)) pss_nil)))
      (pss_one (ps_ret pe_bl)))), ?_⟩
  refine q_when (b := false) (et_is (et_not (et_B (ev_isiL (ev_var rfl) hA))) rfl) (fun h => by cases h) fun _ H1 e1 => ?_
  refine q_forLn (K := K) (a := a) (ev_var rfl) (sq_of (e1 _ _ hA)) (fun i σ' H' => ∃ z, σ' = [some (.ref a), z, none] ∧ Ex H H') (fun H2 e2 => ⟨none, rfl, e1.trans e2⟩) (fun i σ' H' _ h => by obtain ⟨_, _, ex⟩ := h; exact sq_of (ex _ _ hA)) ?_ ?_
  · rintro i x σ' H2 hx ⟨z, rfl, ex⟩
    obtain ⟨p, hp, hi, rfl⟩ := ref_at hx
    obtain ⟨f, hf, hpt⟩ := hT.get i p hp
    have hpt := ex _ _ hpt
    refine s_when (b := false) (et_is (et_or (a := false) (b := false) (et_is (et_not (et_B (ev_isiT (ev_var rfl) hpt))) rfl) fun _ => et_or (a := false) (b := false) (et_is (et_test (ev_ne (ev_lenT (ev_var rfl) hpt) ev_c rfl)) rfl) fun _ => et_is (et_not (et_B (ev_all (bs := [true, true, true]) (b := true) (EvR.s (EvL.r (el_lcT [.bl true, .bl true, .bl true] (ev_var rfl) (st_of hpt) rfl (by decide) (fun _ => rfl) fun j x H3 e3 hx => ?_))) rfl))) rfl) rfl) (fun h => by cases h) fun _ H3 e3 => ⟨_, rfl, ex.trans e3⟩
    have hi3 : ∃ n : Int, x = .int n ∧ j < 3 := by
      unfold triV at hx
      match j, hx with
      | 0, hx => exact ⟨_, (Option.some.inj hx).symm, by decide⟩
      | 1, hx => exact ⟨_, (Option.some.inj hx).symm, by decide⟩
      | 2, hx => exact ⟨_, (Option.some.inj hx).symm, by decide⟩
      | j + 3, hx => simp at hx
    obtain ⟨n, rfl, hj⟩ := hi3
    refine ⟨.bl true, ?_, ev_isint (ev_var rfl)⟩
    match j, hj with
    | 0, _ => rfl
    | 1, _ => rfl
    | 2, _ => rfl
    | j + 3, h => omega
  · rintro σ' H2 ⟨z, rfl, ex⟩
    exact s_ret (v := .bl true) ev_c fun H3 e3 => k.go (ex.trans e3)
def filtA (g : T3 → Bool) : List Addr → List T3 → List Addr
  | p :: ps, f :: fs => if g f = true then p :: filtA g ps fs else filtA g ps fs
  | _, _ => []
theorem filtA_at {H : Hp} (g : T3 → Bool) : ∀ {ps : List Addr} {fs : List T3}, TupsAt H ps fs → TupsAt H (filtA g ps fs) (fs.filter g)
  | [], [], _ => trivial
  | p :: ps, f :: fs, h => by
    show TupsAt H (if g f = true then p :: filtA g ps fs else filtA g ps fs) ((f :: fs).filter g)
    rw [List.filter_cons]
    split
    · exact ⟨h.1, filtA_at g h.2⟩
    · exact filtA_at g h.2
  | [], _ :: _, h => h.elim
  | _ :: _, [], h => h.elim
theorem filtA_snoc (g : T3 → Bool) : ∀ {ps : List Addr} {fs : List T3} {i : Nat} {p : Addr} {f : T3}, ps[i]? = some p → fs[i]? = some f → filtA g (ps.take (i + 1)) (fs.take (i + 1)) = filtA g (ps.take i) (fs.take i) ++ if g f = true then [p] else []
  | [], _, i, p, f, h, _ => by simp at h
  | _ :: _, [], i, p, f, _, h => by simp at h
  | q :: ps, e :: fs, 0, p, f, h1, h2 => by
    cases h1
    cases h2
    show (if g e = true then q :: filtA g [] [] else filtA g [] []) = [] ++ _
    split <;> rfl
  | q :: ps, e :: fs, i + 1, p, f, h1, h2 => by
    have ih := filtA_snoc g (ps := ps) (fs := fs) (i := i) (p := p) (f := f) h1 h2
    show (if g e = true then q :: filtA g (ps.take (i + 1)) (fs.take (i + 1)) else filtA g (ps.take (i + 1)) (fs.take (i + 1))) = (if g e = true then q :: filtA g (ps.take i) (fs.take i) else filtA g (ps.take i) (fs.take i)) ++ _
    rw [ih]
    split <;> rfl

theorem el_filt {σ : L2.St} {H : Hp} {t1 te : TE} {tt : TT} {vs : List Nat} {j : Nat} {a : Addr} {ps : List Addr} {fs : List T3} (g : T3 → Bool) (h1 : Ev t1 σ H (.ref a)) (hS : SqL K H a (ps.map V.ref)) (hT : TupsAt H ps fs) (hl : ps.length ≤ 1000) (hw : ∀ x, wipe ((wipe σ vs).set j (some x)) vs = wipe σ vs)
    (ht : ∀ (i : Nat) (p : Addr) (f : T3) H1, Ex H H1 → ps[i]? = some p → fs[i]? = some f → EvT tt ((wipe σ vs).set j (some (.ref p))) H1 (g f)) (he : ∀ (p : Addr) H1, Ev te ((wipe σ vs).set j (some (.ref p))) H1 (.ref p)) :
    EvL (tLc (iList K t1) (gName j) tt te vs) σ H ((filtA g ps fs).map V.ref) := fun H0 e Q q =>
  h1 H0 e _ fun H1 e1 => ⟨a, rfl, ⟨_, ex_l (e.trans e1) hS⟩, fun D hD => lc_list (xs := ps.map V.ref) (fun i H' => Ex H1 H' ∧ H' D = some (.lst ((filtA g (ps.take i) (fs.take i)).map V.ref))) ⟨Ex.new hD, upd_same⟩ (fun i H' _ h => ex_l ((e.trans e1).trans h.1) hS)
    (fun i x H' hi h => by
      obtain ⟨p, hp, hlt, rfl⟩ := ref_at hi
      obtain ⟨f, hf, _⟩ := hT.get i p hp
      refine ⟨hw _, et_go (ht i p f H' ((e.trans e1).trans h.1) hp hf) fun H2 e2 => ?_⟩
      have hsn := filtA_snoc g hp hf
      have hlen : ∀ i, (filtA g (ps.take i) (fs.take i)).length ≤ 1000 := fun i => by
        have h3 := (filtA_at (H := H) g (ps := ps.take i) (fs := fs.take i) ?_).len
        · have h4 := List.length_filter_le g (fs.take i)
          have h5 := hT.len
          have h6 : (fs.take i).length ≤ fs.length := by rw [List.length_take]; omega
          omega
        · exact tups_take hT i
      cases hb : g f with
      | true =>
        refine ev_go (he p H2) fun H3 e3 => ⟨_, e3 _ _ (e2 _ _ h.2), sz_lt (by rw [List.length_map]; have := hlen i; omega), Ex.mut (h.1.trans (e2.trans e3)) hD, ?_⟩
        rw [upd_same, hsn, if_pos hb, List.map_append]
        rfl
      | false =>
        refine ⟨h.1.trans e2, ?_⟩
        rw [hsn, if_neg (by rw [hb]; decide), List.append_nil]
        exact e2 _ _ h.2)
    (fun H' h => q D H' (fresh_back e1 hD) (e1.trans h.1) (by
      have h5 := hT.len
      rw [h.2, List.length_map, List.take_length, h5, List.take_length]))⟩
theorem at_last {xs : List V} {x : V} {n : Nat} (hn : xs.length = n + 1) (h : xs[n]? = some x) : atI xs (-1) = some x := by
  unfold atI ixN
  rw [if_neg (by decide), if_pos (by omega)]
  show xs[(-1 + (xs.length : Int)).toNat]? = some x
  rw [hn, show (-1 + ((n + 1 : Nat) : Int)).toNat = n by omega]
  exact h
theorem ed_pfor0 {σ : L2.St} {H : Hp} {te : TE} {E : XK} {e : Int} (h : Ev te σ H (.int e)) (h0 : 0 < e) (h1 : e < 2 ^ 30) : EvD K (tCall (sp_pfor K) [] E (tCons (tLst tNil) (tCons te tNil))) σ H (.list (([] : List Int).map .int)) := fun H1 e1 Q q =>
  (el_lst (σ := σ) (H := H1) (ta := tNil) (vs := []) ea_nil (by decide)) H1 (Ex.refl _) (fun x H2 => te σ H2 fun y H3 => sp_pfor K ([x, y] ++ []) H3 Q E) fun p0 H2 hp0 e2 g2 => h H2 (e1.trans e2) _ fun H3 e3 => ⟨p0, [], [], e, rfl, sq_of (e3 _ _ g2), trivial, by decide, h0, h1, fun r rs H4 hr' e4 g4 hR => q _ _ ((e2.trans e3).trans e4) (.lst (sq_of (xs := []) (by cases rs with | nil => exact g4 | cons _ _ => exact hR.elim)) .nil)⟩
def ptsL (qs : List Addr) (gs : List T3) (d : Nat) : List (V × Option T3) := List.zipWith (fun p f => (V.ref p, some f)) qs gs ++ List.replicate d (V.non, none)
theorem ptsL_fst : ∀ (qs : List Addr) (gs : List T3) (d : Nat), qs.length = gs.length → (ptsL qs gs d).map (·.1) = qs.map V.ref ++ List.replicate d V.non
  | [], [], d, _ => by show (List.replicate d (V.non, none)).map _ = _; rw [List.map_replicate]; rfl
  | q :: qs, g :: gs, d, h => by
    show V.ref q :: (ptsL qs gs d).map (·.1) = _
    rw [ptsL_fst qs gs d (by simpa using h)]
    rfl
  | [], _ :: _, _, h => by cases h
  | _ :: _, [], _, h => by cases h
theorem ptsL_pts {H : Hp} : ∀ {qs : List Addr} {gs : List T3} {d : Nat}, TupsAt H qs gs → Pts H (ptsL qs gs d)
  | [], [], d, _ => fun x hx => by
    have := (List.mem_replicate.mp hx).2
    rw [this]
  | q :: qs, g :: gs, d, h => fun x hx => by
    rcases List.mem_cons.mp hx with rfl | hx
    · exact ⟨q, rfl, h.1⟩
    · exact ptsL_pts h.2 x hx
  | [], _ :: _, _, h => h.elim
  | _ :: _, [], _, h => h.elim
theorem ev_near {σ : L2.St} {H : Hp} {t1 t2 : TE} {E : XK} {a : Addr} {L : List (V × Option T3)} {smp : Int} (h1 : Ev t1 σ H (.ref a)) (hS : SqL K H a (L.map (·.1))) (hP : Pts H L) (h2 : Ev t2 σ H (.int smp)) : Ev (tCall (sp_near K) [] E (tCons t1 (tCons t2 tNil))) σ H (nearF smp L) :=
  ev_call (ea_cons h1 (ea_cons h2 ea_nil)) fun H1 e Q q _ => ⟨a, L, smp, rfl, ex_l e hS, hP.ex e, q⟩
theorem ev_nearN {σ : L2.St} {H : Hp} {t1 t2 : TE} {E : XK} {L : List (V × Option T3)} {smp : Int} (h1 : EvL t1 σ H (L.map (·.1))) (hP : Pts H L) (h2 : Ev t2 σ H (.int smp)) : Ev (tCall (sp_near K) [] E (tCons t1 (tCons t2 tNil))) σ H (nearF smp L) := fun H1 e Q q =>
  h1 H1 e _ fun p H2 hp e2 g2 => h2 H2 (e.trans e2) _ fun H3 e3 => ⟨p, L, smp, rfl, sq_of (e3 _ _ g2), hP.ex ((e.trans e2).trans e3), fun H4 e4 => q H4 ((e2.trans e3).trans e4)⟩
def sp_law (K : PySem.W.Frag) : Sp := fun vs H Q _ => ∃ (a : Addr) (ns : List Int), vs = [.ref a] ∧ SqL K H a (ns.map V.int) ∧ ns.length ≤ 63 ∧ ∀ H', Q (.bl true) H'
theorem ok_law (T : TX K mg) : FnOk P w K mg base CX0 5 T.a_law T.d_law ["script"] (sp_law K) := by
  refine T.F_law.ok sc_law (fun vs H Q E h => by obtain ⟨a, ns, rfl, _⟩ := h; rfl) (fun cdv A outer s0 H vs Q E hr h => ?_)
  obtain ⟨a, ns, rfl, hS, hlen, k⟩ := h
  refine ⟨_, (pss_cons (ps_set (i := 1) sc_law.nd rfl (Or.inl rfl) (pe_lst (pa_cons pe_int (pa_cons pe_int pa_nil))))
      (pss_cons (ps_set (i := 2) sc_law.nd rfl (Or.inl rfl) (pe_call (ok_law_frames T) (hr.mono (by decide)) (by rfl) T.g_law_frames T.F_law_frames.kp T.b_law_frames .nil pass0 (pa_cons (pv 1) (pa_cons (pv 0) pa_nil))))
      (pss_cons (ps_set (i := 3) sc_law.nd rfl (Or.inr rfl) (pe_op op_add pe_int (pe_call (ok_law_draw T) (hr.mono (by decide)) (by rfl) T.g_law_draw T.F_law_draw.kp T.b_law_draw .nil pass0 (pa_cons (pv 1) (pa_cons (pv 0) (pa_cons pe_int pa_nil))))))
      (pss_cut (ps_if (pt_cmpR op_eq (pe_call (ok_law_draw T) (hr.mono (by decide)) (by rfl) T.g_law_draw T.F_law_draw.kp T.b_law_draw .nil pass0 (pa_cons (pv 1) (pa_cons (pv 0) (pa_cons pe_int pa_nil)))) pe_int (nomark _)) (pss_one (ps_set (i := 3) sc_law.nd rfl (Or.inr rfl) (pe_op op_add pe_int (pe_call (ok_law_wide T) (hr.mono (by decide)) (by rfl) T.g_law_wide T.F_law_wide.kp T.b_law_wide .nil pass0 (pa_cons (pv 1) (pa_cons (pv 0) (pa_cons pe_int pa_nil))))))) pss_nil)
      (pss_cons (ps_set (i := 4) sc_law.nd rfl (Or.inl rfl) (pe_callTy (r := rListS K) call_list_of (by rfl) T.m_list PyProof.Rows.boot_list (pa_cons (pv 2) pa_nil)))
      (pss_cons (ps_set (i := 5) sc_law.nd rfl (Or.inl rfl) (pe_call (ok_points_for T) (hr.mono (by decide)) (by rfl) T.g_points_for T.F_points_for.kp T.b_points_for .nil pass0 (pa_cons (pv 4) (pa_cons (pv 3) pa_nil))))
      (pss_cons (ps_setLc (i := 6) (own := [("frame", 12)]) (g := gName 12)  rfl sc_law.nd rfl rfl (sw_true rfl rfl rfl (by decide +kernel)) (pi_list (pv 2)) (blkOk_by (N := ["script", "state", "frames", "every", "handed", "actual", "expected", "points", "end", "k", "sample", "told", "frame"]) (sc := defScope s_law) (by decide +kernel)) (fun _ _ _ _ _ => pg_name (i := 12) sc_law.nd rfl (Or.inl rfl)) (fun _ _ _ _ _ => pts_one (pt_val (pe_call (ok_law_holds T) (hr.mono (by decide)) (by rfl) T.g_law_holds T.F_law_holds.kp T.b_law_holds .nil pass0 (pa_cons (pv 12) (pa_cons (pv 3) pa_nil))))) (fun _ _ _ _ _ => (pv 12)))
      (pss_cons (ps_if (PW.pt (pw_or (pt_cmpR (op_neD (hu64 hr)) (pv 4) (pv 2) (nomark _)) (pw_or (pt_not (pt_val (pe_call (ok_law_tuples T) (hr.mono (by decide)) (by rfl) T.g_law_tuples T.F_law_tuples.kp T.b_law_tuples .nil pass0 (pa_cons (pv 5) pa_nil)))) (pw_or1 (pt_cmpR (op_neD (hu64 hr)) (pv 5) (pv 6) (nomark _)))))) (pss_one (ps_ret pe_bl)) pss_nil)
      (pss_cons (ps_if (pt_cmpR (op_neD (hu64 hr)) (pe_call (ok_points_for T) (hr.mono (by decide)) (by rfl) T.g_points_for T.F_points_for.kp T.b_points_for .nil pass0 (pa_cons (pe_lst pa_nil) (pa_cons (pv 3) pa_nil))) (pe_lst pa_nil) (nomark _)) (pss_one (ps_ret pe_bl)) pss_nil)
      (pss_cons (ps_set (i := 7) sc_law.nd rfl (Or.inl rfl) (pe_op op_cat (pv 5) (pe_op op_rep (pe_lst (pa_cons pe_non pa_nil)) (pe_call (ok_law_draw T) (hr.mono (by decide)) (by rfl) T.g_law_draw T.F_law_draw.kp T.b_law_draw .nil pass0 (pa_cons (pv 1) (pa_cons (pv 0) (pa_cons pe_int pa_nil)))))))
      (pss_cons (ps_set (i := 8) sc_law.nd rfl (Or.inl rfl) pe_int)
      (pss_cut (ps_if (pt_truth (pv 2) (by intro _; rfl)) (pss_one (ps_set (i := 8) sc_law.nd rfl (Or.inl rfl) (pe_op op_add (pe_op op_add (pe_ix (r := rIxT K) ix_tup (pe_ix (r := rIxL K) ix_list (pv 2) (pe_un un_neg pe_int) (fun _ _ => rfl)) pe_int (fun _ _ => rfl)) (pe_ix (r := rIxT K) ix_tup (pe_ix (r := rIxL K) ix_list (pv 2) (pe_un un_neg pe_int) (fun _ _ => rfl)) pe_int (fun _ _ => rfl))) pe_int))) pss_nil)
      (pss_cons (ps_for PassesOwn.never rfl (pi_range1 (by rfl) T.m_range (pa_cons pe_int pa_nil)) (pg_name (i := 9) sc_law.nd rfl (Or.inl rfl)) (pss_cons (ps_set (i := 10) sc_law.nd rfl (Or.inl rfl) (pe_call (ok_law_draw T) (hr.mono (by decide)) (by rfl) T.g_law_draw T.F_law_draw.kp T.b_law_draw .nil pass0 (pa_cons (pv 1) (pa_cons (pv 0) (pa_cons (pv 8) pa_nil)))))
        (pss_cut (ps_if (PW.pt (pw_and (pt_truth (pv 7) (by intro _; rfl)) (pw_and (pt_cmpR op_eq (pe_call (ok_law_draw T) (hr.mono (by decide)) (by rfl) T.g_law_draw T.F_law_draw.kp T.b_law_draw .nil pass0 (pa_cons (pv 1) (pa_cons (pv 0) (pa_cons pe_int pa_nil)))) pe_int (nomark _)) (pw_and1 (pt_cmpR op_notN1 (pe_ix (r := rIxL K) ix_list (pv 7) pe_int (fun _ _ => rfl)) pe_non (nomark _)))))) (pss_one (ps_set (i := 10) sc_law.nd rfl (Or.inl rfl) (pe_callB (call_max2 rfl) (by rfl) T.m_max PyProof.Rows.boot_max (pa_cons pe_int (pa_cons (pe_op op_sub (pe_ix (r := rIxT K) ix_tup (pe_ix (r := rIxL K) ix_list (pv 7) (pe_call (ok_law_draw T) (hr.mono (by decide)) (by rfl) T.g_law_draw T.F_law_draw.kp T.b_law_draw .nil pass0 (pa_cons (pv 1) (pa_cons (pv 0) (pa_cons (pe_callB (r := rLenS K) call_len_seq (by rfl) T.m_len PySem.boot_len (pa_cons (pv 5) pa_nil)) pa_nil)))) (fun _ _ => rfl)) pe_int (fun _ _ => rfl)) (pe_call (ok_law_draw T) (hr.mono (by decide)) (by rfl) T.g_law_draw T.F_law_draw.kp T.b_law_draw .nil pass0 (pa_cons (pv 1) (pa_cons (pv 0) (pa_cons pe_int pa_nil))))) pa_nil))))) pss_nil)
        (pss_cons (ps_set (i := 11) sc_law.nd rfl (Or.inl rfl) (pe_call (ok_nearest_point T) (hr.mono (by decide)) (by rfl) T.g_nearest_point T.F_nearest_point.kp T.b_nearest_point .nil pass0 (pa_cons (pv 7) (pa_cons (pv 10) pa_nil))))
        (pss_one (ps_if (pt_cmpR (op_neD (hu64 hr)) (pv 11) (pe_call (ok_law_nearest T) (hr.mono (by decide)) (by rfl) T.g_law_nearest T.F_law_nearest.kp T.b_law_nearest .nil pass0 (pa_cons (pv 7) (pa_cons (pv 10) pa_nil))) (nomark _)) (pss_one (ps_ret pe_bl)) pss_nil))))))
      (pss_one (ps_ret (pe_and (pe_cmpR op_isN1 (pe_call (ok_nearest_point T) (hr.mono (by decide)) (by rfl) T.g_nearest_point T.F_nearest_point.kp T.b_nearest_point .nil pass0 (pa_cons (pe_lst (pa_cons pe_non pa_nil)) (pa_cons pe_int pa_nil))) pe_non (nomark _)) (pe_one (pe_cmpR op_isN1 (pe_call (ok_nearest_point T) (hr.mono (by decide)) (by rfl) T.g_nearest_point T.F_nearest_point.kp T.b_nearest_point .nil pass0 (pa_cons (pe_lst pa_nil) (pa_cons pe_int pa_nil))) pe_non (nomark _))))))))))))))))))), ?_⟩
  refine q_asgL (xs := [.int 0, .int 0]) (el_lst (ea_cons ev_c (ea_cons ev_c ea_nil)) (by decide)) fun s H1 hs e1 g1 => ?_
  have hd : DrS K H1 s a ns := ⟨⟨0, 0, g1⟩, scr_mk hs e1 hS⟩
  refine q_asgC (vs := [.ref s, .ref a]) (ea_cons (ev_var rfl) (ea_cons (ev_var rfl) ea_nil)) fun H2 e2 => ⟨s, a, ns, rfl, hd.ex e2, fun pf ps fs H3 hpf f3 g3 hT hfl hfs => ?_⟩
  have hd3 := (hd.ex e2).fr f3
  have hpfs : pf ≠ s := ne_st (hd.ex e2).1 hpf
  refine qw_asg (wi_op (wi_ev hd3.1 ev_c) fun H4 f4 => wi_draw (hd3.fr f4) rfl rfl ev_c (by decide) (by decide)) fun z H4 f4 hz => ?_
  obtain ⟨_, _, rfl, ⟨d0, rfl, hd0⟩, rfl⟩ := hz
  have hd4 := hd3.fr f4
  refine q_cut (M := fun σ' H' => ∃ e : Nat, 1 ≤ e ∧ e ≤ 100000 ∧ σ' = [some (.ref a), some (.ref s), some (.ref pf), some (.int (e : Int)), none, none, none, none, none, none, none, none, none] ∧ Fr s H4 H') ?_ ?_
  · refine sw_when (wt_eq (wi_draw hd4 rfl rfl ev_c (by decide) (by decide)) fun H5 f5 => wi_ev (f5).2 ev_c) (fun _ H5 f5 => ?_) (fun _ H5 f5 => ⟨1 + d0, by omega, by omega, by show [_, _, _, some (V.int (1 + (d0 : Int))), _, _, _, _, _, _, _, _, _] = _; rw [show (1 : Int) + (d0 : Int) = ((1 + d0 : Nat) : Int) by omega], f5⟩)
    refine sw_asg (wi_op (wi_ev f5.2 ev_c) fun H6 f6 => wi_draw (hd4.fr (f5.trans f6)) rfl rfl ev_c (by decide) (by decide)) fun z H6 f6 hz => ?_
    obtain ⟨_, _, rfl, ⟨d1, rfl, hd1⟩, rfl⟩ := hz
    exact ⟨1 + d1, by omega, by omega, by show [_, _, _, some (V.int (1 + (d1 : Int))), _, _, _, _, _, _, _, _, _] = _; rw [show (1 : Int) + (d1 : Int) = ((1 + d1 : Nat) : Int) by omega], f5.trans f6⟩
  rintro σ' H5 ⟨e, he1, he2, rfl, f5⟩
  have hd5 := hd4.fr f5
  have g5 := (f4.trans f5).l hpfs g3
  have hT5 := hT.fr hd3.1 (f4.trans f5)
  have hpl := hT.len
  clear hd hd3 hd4 f3 f4 f5 e1 e2 g1 g3 hT hS
  refine q_asgL (xs := ps.map V.ref) (el_of (Ev.s (ev_var rfl) (sq_of g5))) fun ph H6 hph e6 g6 => ?_
  have hT6 := hT5.ex e6
  refine q_asgC (vs := [.ref ph, .int (e : Int)]) (ea_cons (ev_var rfl) (ea_cons (ev_var rfl) ea_nil)) fun H7 e7 => ⟨ph, ps, fs, (e : Int), rfl, sq_of (e7 _ _ g6), hT6.ex e7, by omega, by omega, by omega, fun pa qs H8 hpa e8 g8 hQ => ?_⟩
  have e58 := (e6.trans e7).trans e8
  have hTf8 := hT5.ex e58
  have gf8 := e58 _ _ g5
  refine q_asgL (xs := (filtA (holdA (e : Int)) ps fs).map V.ref) (el_filt (holdA (e : Int)) (ev_var rfl) (sq_of gf8) hTf8 (by omega) (fun _ => rfl) (fun i p f H9 e9 hp hf => ?_) (fun p H9 => ev_var rfl)) fun px H9 hpx e9 g9 => ?_
  · obtain ⟨f', hf', hpt⟩ := hTf8.get i p hp
    rw [hf] at hf'
    cases hf'
    have hff := hfs f (List.mem_of_getElem? hf)
    exact et_B (ev_call (ea_cons (ev_var rfl) (ea_cons (ev_var rfl) ea_nil)) fun H10 e10 Q' q' _ => ⟨p, f, e, rfl, (e9.trans e10) _ _ hpt, hff.2.1, by omega, by omega, q'⟩)
  have e69 := (e7.trans e8).trans e9
  have hX9 := filtA_at (holdA (e : Int)) (hTf8.ex e9)
  have hQ9 := hQ.ex e9
  have gf9 := e9 _ _ gf8
  refine q_when (b := false) (et_is (et_or (a := false) (b := false) (et_test (ev_neDD (d := .list (fs.map triD)) (EvD.of (ev_var rfl) (.lst (sq_of (e69 _ _ g6)) (hTf8.ex e9).d)) (EvD.of (ev_var rfl) (.lst (sq_of gf9) (hTf8.ex e9).d)) (shaped_tris fs))) fun _ => et_or (a := false) (b := false) (et_is (et_not (et_B (ev_call (z := .bl true) (ea_cons (ev_var rfl) ea_nil) fun H10 e10 Q' q' _ => ⟨pa, qs, fs.filter (holdA (e : Int)), rfl, (e9.trans e10) _ _ g8, hQ9.ex e10, q'⟩))) rfl) fun _ => et_test (ev_neDD (d := .list ((fs.filter (holdA (e : Int))).map triD)) (EvD.of (ev_var rfl) (.lst (sq_of (e9 _ _ g8)) hQ9.d)) (EvD.of (ev_var rfl) (.lst (sq_of g9) hX9.d)) (shaped_tris _))) rfl) (fun h => by cases h) fun _ H10 e10 => ?_
  refine q_when (b := false) (et_test (ev_neDD (d := .list (([] : List Int).map .int)) (ed_pfor0 (e := (e : Int)) (ev_var rfl) (by omega) (by omega)) (EvS.toD (ns := []) (EvR.s (EvL.r (el_lst ea_nil (by decide))))) rfl)) (fun h => by cases h) fun _ H11 e11 => ?_
  have e5_11 := (e58.trans e9).trans (e10.trans e11)
  have hd11 := hd5.ex e5_11
  have g11 := (e9.trans (e10.trans e11)) _ _ g8
  have hQ11 := hQ.ex (e9.trans (e10.trans e11))
  have gf11 := e5_11 _ _ g5
  have hTf11 := hT5.ex e5_11
  have hps : pa ≠ s := ne_st (hd5.ex (e6.trans e7)).1 hpa
  have hql := hQ.len
  have hgl := List.length_filter_le (holdA (e : Int)) fs
  generalize fs.filter (holdA (e : Int)) = gs at *
  -- points
  refine q_asgRaw (fun x H12 => ∃ (pp : Addr) (d : Nat), x = .ref pp ∧ d < 3 ∧ pp ≠ s ∧ Fr s H11 H12 ∧ H12 pp = some (.lst (qs.map V.ref ++ List.replicate d V.non))) (fun Q' q' => ?_) ?_
  · refine ⟨.ref pa, rfl, sz_of (show 1 ≤ 100000 by decide), fun p0 hp0 => ?_⟩
    have e12 : Ex H11 (upd H11 p0 (.lst [V.non])) := Ex.new hp0
    have hp0s : p0 ≠ s := ne_st hd11.1 hp0
    refine wi_draw (hd11.ex e12) rfl rfl ev_c (by decide) (by decide) _ fun z H13 f13 hz => ?_
    obtain ⟨d, rfl, hdl⟩ := hz
    refine ⟨p0, (d : Int), [V.non], rfl, rfl, f13.l hp0s upd_same, by omega, by omega, sz_of (by rw [Int.toNat_natCast]; show 1 * d ≤ _; omega), fun l hl => ?_⟩
    have fl : Fr s H11 H13 := (Fr.ex hd11.1 e12).trans f13
    rw [Int.toNat_natCast, rep_one]
    refine ⟨pa, l, _, _, rfl, rfl, (Ex.new hl) _ _ (fl.l hps g11), upd_same, sz_of (by rw [List.length_map, List.length_replicate]; omega), fun m hm => ?_⟩
    have f14 : Fr s H11 (upd H13 l (.lst (List.replicate d V.non))) := fl.tex (Ex.new hl)
    refine q' _ _ ⟨m, d, rfl, by omega, ne_st f14.2 hm, f14.tex (Ex.new hm), upd_same⟩
  rintro _ H12 ⟨pp, d, rfl, hd3, hpps, f12, g12⟩
  have hd12 := hd11.fr f12
  have gf12 := f12.l hpfs gf11
  have hTf12 := hTf11.fr hd11.1 f12
  have ga12 := f12.l hps g11
  have hQ12 := hQ11.fr hd11.1 f12
  refine q_asg ev_c fun H13 e13 => ?_
  refine q_cut (M := fun σ' H' => ∃ en : Int, 1 ≤ en ∧ en ≤ 2000000 ∧ σ' = [some (.ref a), some (.ref s), some (.ref pf), some (.int (e : Int)), some (.ref ph), some (.ref pa), some (.ref px), some (.ref pp), some (.int en), none, none, none, none] ∧ Ex H12 H') ?_ ?_
  · refine s_when (et_tru (ev_var rfl) (sq_of (e13 _ _ gf12))) (fun hb H14 e14 => ?_) (fun _ H14 e14 => ⟨1, by decide, by decide, rfl, e13.trans e14⟩)
    obtain ⟨n, hn⟩ : ∃ n, ps.length = n + 1 := by
      cases ps with
      | nil => cases hb
      | cons x r => exact ⟨r.length, rfl⟩
    have hpn : ps[n]? = some ps[n] := List.getElem?_eq_getElem (by omega)
    obtain ⟨f, hf, hpt⟩ := hTf12.get n _ hpn
    have hff := hfs f (List.mem_of_getElem? hf)
    have e124 := e13.trans e14
    have last : ∀ (j : Nat) (v : V), (triV f)[j]? = some v → Ev (tOp (rIxT K) (tOp (rIxL K) (tVar 2) (tUn (rU fun i => .int (-i)) (tC (.int 1)))) (tC (.int (j : Int)))) [some (.ref a), some (.ref s), some (.ref pf), some (.int (e : Int)), some (.ref ph), some (.ref pa), some (.ref px), some (.ref pp), some (.int 1), none, none, none, none] H14 v := fun j v hv =>
      ev_atT (ev_ixS (i := 0) (n := -1) (Ev.s (ev_var rfl) (sq_of (e124 _ _ gf12))) (ev_negI ev_c) (at_last (n := n) (by rw [List.length_map]; exact hn) (at_ref hpn))) (st_of (e124 _ _ hpt)) ev_c (at_of (j := j) rfl hv)
    refine s_asg (ev_I0 (ev_I0 (last 0 _ rfl) (last 2 _ rfl)) ev_c) fun H15 e15 => ⟨_, by omega, by omega, rfl, e124.trans e15⟩
  rintro σ' H14 ⟨en, hen1, hen2, rfl, e14⟩
  have hd14 := hd12.ex e14
  have hpts14 : Pts H14 (ptsL qs gs d) := ptsL_pts (hQ12.ex e14)
  have gp14 : H14 pp = some (.lst ((ptsL qs gs d).map (·.1))) := by rw [ptsL_fst _ _ _ hql]; exact e14 _ _ g12
  have ga14 := e14 _ _ ga12
  have hQ14 := hQ12.ex e14
  clear hd12 hd11 hd5 g12 ga12 hQ12 gf12 hTf12 gf11 hTf11 g11 hQ11 e14 e13
  refine q_forR1 (n := 4) (ea_cons ev_c ea_nil) (by omega) (fun i σ' H' => ∃ z9 z10 z11, σ' = [some (.ref a), some (.ref s), some (.ref pf), some (.int (e : Int)), some (.ref ph), some (.ref pa), some (.ref px), some (.ref pp), some (.int en), z9, z10, z11, none] ∧ Fr s H14 H') (fun H15 e15 => ⟨none, none, none, rfl, Fr.ex hd14.1 e15⟩) ?_ ?_
  · rintro i σ' H15 hi ⟨z9, z10, z11, rfl, f15⟩
    refine qw_asg (wi_draw (hd14.fr f15) rfl rfl (ev_var rfl) (by omega) (by omega)) fun z H16 f16 hz => ?_
    have f16 := f15.trans f16
    refine q_cut (M := fun σ' H' => ∃ smp : Int, σ' = [some (.ref a), some (.ref s), some (.ref pf), some (.int (e : Int)), some (.ref ph), some (.ref pa), some (.ref px), some (.ref pp), some (.int en), some (.int (i : Int)), some (.int smp), z11, none] ∧ Fr s H14 H') ?_ ?_
    · have gp16 := f16.l hpps gp14
      refine sw_when (wt_and (wt_ev f16.2 (et_tru (ev_var rfl) (sq_of gp16))) fun H17 f17 htr => wt_and (wt_eq (wi_draw (hd14.fr (f16.trans f17)) rfl rfl ev_c (by decide) (by decide)) fun H18 f18 => wi_ev f18.2 ev_c) fun H18 f18 _ => wt_ev (b := !decide (((ptsL qs gs d).map (·.1)).getD 0 .non = .non)) f18.2 (et_test (ev_notN (ev_ixS (i := 0) (n := 0) (Ev.s (ev_var rfl) (sq_of ((f16.trans (f17.trans f18)).l hpps gp14))) ev_c ?_)))) (fun hp H17 f17 => ?_) (fun _ H17 f17 => ⟨z, rfl, f16.trans f17⟩)
      · refine at_of (j := 0) rfl ?_
        generalize (ptsL qs gs d).map (·.1) = xs at htr ⊢
        cases xs with
        | nil => cases htr
        | cons x r => rfl
      · have hne : 0 < qs.length := by
          rcases hp with ⟨_, h⟩ | ⟨htr, hp⟩
          · cases h
          · rcases hp with ⟨_, h⟩ | ⟨_, hp⟩
            · cases h
            · rw [ptsL_fst _ _ _ hql] at hp
              cases qs with
              | nil =>
                exfalso
                cases d with
                | zero => simp at hp
                | succ d => simp [List.replicate_succ] at hp
              | cons x r => rw [List.length_cons]; omega
        have f17 := f16.trans f17
        refine sw_asg (p := fun _ => True) (fun Q' q' => ?_) fun z' H18 f18 _ => ⟨z', rfl, f17.trans f18⟩
        refine ⟨.ref pp, rfl, ?_⟩
        have f18 := f17
        refine wi_draw (n := (qs.length : Int)) (hd14.fr f18) rfl rfl (Ev.is (ev_lenS (xs := qs.map V.ref) (Ev.s (ev_var rfl) (sq_of (f18.l hps ga14)))) (by rw [List.length_map])) (by omega) (by omega) _ fun z' H19 f19 hz' => ?_
        obtain ⟨j, rfl, hj⟩ := hz'
        have f19' := f18.trans f19
        have hqj : qs[j]? = some qs[j] := List.getElem?_eq_getElem (by omega)
        obtain ⟨f, hf, hpt⟩ := (hQ14.fr hd14.1 f19').get j _ hqj
        refine ⟨pp, _, (j : Int), .ref qs[j], rfl, rfl, sq_of (f19'.l hpps gp14), at_of (j := j) rfl ?_, ?_⟩
        · rw [ptsL_fst _ _ _ hql, List.getElem?_append_left (by rw [List.length_map]; omega)]
          exact at_ref hqj
        refine ⟨qs[j], triV f, 0, .int (f.1 : Int), rfl, rfl, st_of hpt, at_of (j := 0) rfl rfl, ?_⟩
        refine wi_draw (hd14.fr f19') rfl rfl ev_c (by decide) (by decide) _ fun z' H20 f20 hz' => ?_
        exact ⟨_, _, rfl, rfl, ⟨_, _, rfl, q' _ H20 (f19.trans f20) trivial⟩⟩
    rintro σ' H17 ⟨smp, rfl, f17⟩
    have gp17 := f17.l hpps gp14
    have hp17 := hpts14.fr hd14.1 f17
    refine q_asg (ev_near (ev_var rfl) (sq_of gp17) hp17 (ev_var rfl)) fun H18 e18 => ?_
    obtain ⟨dd, hdd, hsh⟩ := near_dp (smp := smp) (hp17.ex e18) ⟨.none, .non, rfl⟩
    refine s_when (b := false) (et_test (ev_neDD (d := dd) (EvD.of (ev_var rfl) hdd) (EvD.of (ev_near (ev_var rfl) (sq_of (e18 _ _ gp17)) (hp17.ex e18) (ev_var rfl)) hdd) hsh)) (fun h => by cases h) fun _ H19 e19 => ⟨_, _, _, rfl, f17.tex (e18.trans e19)⟩
  · rintro σ' H15 ⟨z9, z10, z11, rfl, f15⟩
    refine s_ret (v := .bl true) (ev_is (ev_andV (a := true) (b := true) (Ev.is (ev_isN (ev_nearN (L := [(.non, none)]) (el_lst (ea_cons ev_c ea_nil) (by decide)) (fun x hx => by rw [List.mem_singleton.mp hx]) ev_c)) (congrArg V.bl (decide_eq_true rfl))) fun _ => Ev.is (ev_isN (ev_nearN (L := []) (el_lst ea_nil (by decide)) (fun x hx => by cases hx) ev_c)) (congrArg V.bl (decide_eq_true rfl))) rfl) fun H16 e16 => k _

end
theorem all_mk {l : PySem.W.OpenLaw} {w : World} {K : PySem.W.Frag} {h : Heap} {mg : Str → Option Value} {fa : Addr} {f1 f2 f3 f4 f5 f6 f7 f8 f9 f10 f11 f12 f13 f14 f15 : Addr} (X : K.In h) (G : h.Ns mainGlobals mg) (hfa : mg "law" = some (.ref fa))
    {od1 an1 : Option Addr} {sl1 : Array (Option Value)} {oc1 dc1 pm1 cd1 ct1 : Value} {kV1 : Value} {od2 an2 : Option Addr} {sl2 : Array (Option Value)} {oc2 dc2 pm2 cd2 ct2 : Value} {kV2 : Value} {od3 an3 : Option Addr} {sl3 : Array (Option Value)} {oc3 dc3 pm3 cd3 ct3 : Value} {kV3 : Value} {od4 an4 : Option Addr} {sl4 : Array (Option Value)} {oc4 dc4 pm4 cd4 ct4 : Value} {kV4 : Value} {od5 an5 : Option Addr} {sl5 : Array (Option Value)} {oc5 dc5 pm5 cd5 ct5 : Value} {kV5 : Value} {od6 an6 : Option Addr} {sl6 : Array (Option Value)} {oc6 dc6 pm6 cd6 ct6 : Value} {kV6 : Value} {od7 an7 : Option Addr} {sl7 : Array (Option Value)} {oc7 dc7 pm7 cd7 ct7 : Value} {kV7 : Value} {od8 an8 : Option Addr} {sl8 : Array (Option Value)} {oc8 dc8 pm8 cd8 ct8 : Value} {kV8 : Value} {od9 an9 : Option Addr} {sl9 : Array (Option Value)} {oc9 dc9 pm9 cd9 ct9 : Value} {kV9 : Value} {od10 an10 : Option Addr} {sl10 : Array (Option Value)} {oc10 dc10 pm10 cd10 ct10 : Value} {kV10 : Value} {od11 an11 : Option Addr} {sl11 : Array (Option Value)} {oc11 dc11 pm11 cd11 ct11 : Value} {kV11 : Value} {od12 an12 : Option Addr} {sl12 : Array (Option Value)} {oc12 dc12 pm12 cd12 ct12 : Value} {kV12 : Value} {od13 an13 : Option Addr} {sl13 : Array (Option Value)} {oc13 dc13 pm13 cd13 ct13 : Value} {kV13 : Value} {od14 an14 : Option Addr} {sl14 : Array (Option Value)} {oc14 dc14 pm14 cd14 ct14 : Value} {kV14 : Value} {od15 an15 : Option Addr} {sl15 : Array (Option Value)} {oc15 dc15 pm15 cd15 ct15 : Value} {kV15 : Value}
    (a1 : PySem.W.nsIn K mainGlobals "points_for" = some (some (.ref f1)))
    (l1 : K.lookup f1 = some ⟨oc1, od1, .func (PySem.W.fnOf "points_for" "points_for" (defArgs s_points_for) (defBody s_points_for) (defScope s_points_for) .none kV1 dc1 pm1 an1 cd1 ct1), sl1⟩) (c1 : PySem.W.codeIn K cd1 "points_for" = true) (k1 : PySem.W.keepIn K (.ref f1) = true)
    (a2 : PySem.W.nsIn K mainGlobals "nearest_point" = some (some (.ref f2)))
    (l2 : K.lookup f2 = some ⟨oc2, od2, .func (PySem.W.fnOf "nearest_point" "nearest_point" (defArgs s_nearest_point) (defBody s_nearest_point) (defScope s_nearest_point) .none kV2 dc2 pm2 an2 cd2 ct2), sl2⟩) (c2 : PySem.W.codeIn K cd2 "nearest_point" = true) (k2 : PySem.W.keepIn K (.ref f2) = true)
    (a3 : PySem.W.nsIn K mainGlobals "_holds_multiple" = some (some (.ref f3)))
    (l3 : K.lookup f3 = some ⟨oc3, od3, .func (PySem.W.fnOf "_holds_multiple" "_holds_multiple" (defArgs s_holds_multiple) (defBody s_holds_multiple) (defScope s_holds_multiple) .none kV3 dc3 pm3 an3 cd3 ct3), sl3⟩) (c3 : PySem.W.codeIn K cd3 "_holds_multiple" = true) (k3 : PySem.W.keepIn K (.ref f3) = true)
    (a4 : PySem.W.nsIn K mainGlobals "_law_is_integer" = some (some (.ref f4)))
    (l4 : K.lookup f4 = some ⟨oc4, od4, .func (PySem.W.fnOf "_law_is_integer" "_law_is_integer" (defArgs s_law_is_integer) (defBody s_law_is_integer) (defScope s_law_is_integer) .none kV4 dc4 pm4 an4 cd4 ct4), sl4⟩) (c4 : PySem.W.codeIn K cd4 "_law_is_integer" = true) (k4 : PySem.W.keepIn K (.ref f4) = true)
    (a5 : PySem.W.nsIn K mainGlobals "_law_refill" = some (some (.ref f5)))
    (l5 : K.lookup f5 = some ⟨oc5, od5, .func (PySem.W.fnOf "_law_refill" "_law_refill" (defArgs s_law_refill) (defBody s_law_refill) (defScope s_law_refill) .none kV5 dc5 pm5 an5 cd5 ct5), sl5⟩) (c5 : PySem.W.codeIn K cd5 "_law_refill" = true) (k5 : PySem.W.keepIn K (.ref f5) = true)
    (a6 : PySem.W.nsIn K mainGlobals "_law_draw" = some (some (.ref f6)))
    (l6 : K.lookup f6 = some ⟨oc6, od6, .func (PySem.W.fnOf "_law_draw" "_law_draw" (defArgs s_law_draw) (defBody s_law_draw) (defScope s_law_draw) .none kV6 dc6 pm6 an6 cd6 ct6), sl6⟩) (c6 : PySem.W.codeIn K cd6 "_law_draw" = true) (k6 : PySem.W.keepIn K (.ref f6) = true)
    (a7 : PySem.W.nsIn K mainGlobals "_law_wide" = some (some (.ref f7)))
    (l7 : K.lookup f7 = some ⟨oc7, od7, .func (PySem.W.fnOf "_law_wide" "_law_wide" (defArgs s_law_wide) (defBody s_law_wide) (defScope s_law_wide) .none kV7 dc7 pm7 an7 cd7 ct7), sl7⟩) (c7 : PySem.W.codeIn K cd7 "_law_wide" = true) (k7 : PySem.W.keepIn K (.ref f7) = true)
    (a8 : PySem.W.nsIn K mainGlobals "_law_junk" = some (some (.ref f8)))
    (l8 : K.lookup f8 = some ⟨oc8, od8, .func (PySem.W.fnOf "_law_junk" "_law_junk" (defArgs s_law_junk) (defBody s_law_junk) (defScope s_law_junk) .none kV8 dc8 pm8 an8 cd8 ct8), sl8⟩) (c8 : PySem.W.codeIn K cd8 "_law_junk" = true) (k8 : PySem.W.keepIn K (.ref f8) = true)
    (a9 : PySem.W.nsIn K mainGlobals "_law_is_bytes" = some (some (.ref f9)))
    (l9 : K.lookup f9 = some ⟨oc9, od9, .func (PySem.W.fnOf "_law_is_bytes" "_law_is_bytes" (defArgs s_law_is_bytes) (defBody s_law_is_bytes) (defScope s_law_is_bytes) .none kV9 dc9 pm9 an9 cd9 ct9), sl9⟩) (c9 : PySem.W.codeIn K cd9 "_law_is_bytes" = true) (k9 : PySem.W.keepIn K (.ref f9) = true)
    (a10 : PySem.W.nsIn K mainGlobals "_law_number_bytes" = some (some (.ref f10)))
    (l10 : K.lookup f10 = some ⟨oc10, od10, .func (PySem.W.fnOf "_law_number_bytes" "_law_number_bytes" (defArgs s_law_number_bytes) (defBody s_law_number_bytes) (defScope s_law_number_bytes) .none kV10 dc10 pm10 an10 cd10 ct10), sl10⟩) (c10 : PySem.W.codeIn K cd10 "_law_number_bytes" = true) (k10 : PySem.W.keepIn K (.ref f10) = true)
    (a11 : PySem.W.nsIn K mainGlobals "_law_frames" = some (some (.ref f11)))
    (l11 : K.lookup f11 = some ⟨oc11, od11, .func (PySem.W.fnOf "_law_frames" "_law_frames" (defArgs s_law_frames) (defBody s_law_frames) (defScope s_law_frames) .none kV11 dc11 pm11 an11 cd11 ct11), sl11⟩) (c11 : PySem.W.codeIn K cd11 "_law_frames" = true) (k11 : PySem.W.keepIn K (.ref f11) = true)
    (a12 : PySem.W.nsIn K mainGlobals "_law_holds" = some (some (.ref f12)))
    (l12 : K.lookup f12 = some ⟨oc12, od12, .func (PySem.W.fnOf "_law_holds" "_law_holds" (defArgs s_law_holds) (defBody s_law_holds) (defScope s_law_holds) .none kV12 dc12 pm12 an12 cd12 ct12), sl12⟩) (c12 : PySem.W.codeIn K cd12 "_law_holds" = true) (k12 : PySem.W.keepIn K (.ref f12) = true)
    (a13 : PySem.W.nsIn K mainGlobals "_law_nearest" = some (some (.ref f13)))
    (l13 : K.lookup f13 = some ⟨oc13, od13, .func (PySem.W.fnOf "_law_nearest" "_law_nearest" (defArgs s_law_nearest) (defBody s_law_nearest) (defScope s_law_nearest) .none kV13 dc13 pm13 an13 cd13 ct13), sl13⟩) (c13 : PySem.W.codeIn K cd13 "_law_nearest" = true) (k13 : PySem.W.keepIn K (.ref f13) = true)
    (a14 : PySem.W.nsIn K mainGlobals "_law_tuples" = some (some (.ref f14)))
    (l14 : K.lookup f14 = some ⟨oc14, od14, .func (PySem.W.fnOf "_law_tuples" "_law_tuples" (defArgs s_law_tuples) (defBody s_law_tuples) (defScope s_law_tuples) .none kV14 dc14 pm14 an14 cd14 ct14), sl14⟩) (c14 : PySem.W.codeIn K cd14 "_law_tuples" = true) (k14 : PySem.W.keepIn K (.ref f14) = true)
    (a15 : PySem.W.nsIn K mainGlobals "law" = some (some (.ref f15)))
    (l15 : K.lookup f15 = some ⟨oc15, od15, .func (PySem.W.fnOf "law" "law" (defArgs s_law) (defBody s_law) (defScope s_law) .none kV15 dc15 pm15 an15 cd15 ct15), sl15⟩) (c15 : PySem.W.codeIn K cd15 "law" = true) (k15 : PySem.W.keepIn K (.ref f15) = true)
    (z_isinstance : PySem.W.nsIn K mainGlobals "isinstance" = some none)
    (z_int : PySem.W.nsIn K mainGlobals "int" = some none)
    (z_bool : PySem.W.nsIn K mainGlobals "bool" = some none)
    (z_len : PySem.W.nsIn K mainGlobals "len" = some none)
    (z_range : PySem.W.nsIn K mainGlobals "range" = some none)
    (z_list : PySem.W.nsIn K mainGlobals "list" = some none)
    (z_all : PySem.W.nsIn K mainGlobals "all" = some none)
    (z_tuple : PySem.W.nsIn K mainGlobals "tuple" = some none)
    (z_max : PySem.W.nsIn K mainGlobals "max" = some none)
    : ∃ fd : FuncData, (∀ (s : Shared) (v : Value), BindsTo s fd ⟨[v], []⟩ [("script", v)]) ∧ ∀ base : Heap, K.In base → base.Ns mainGlobals mg → FnOk l.prog w K mg base CX0 5 fa fd ["script"] (sp_law K) := by
  have e := hfa.symm.trans (PySem.W.mg_of X G a15)
  cases e
  have F1 := fun_mk (st := s_points_for) l1 c1 k1
  have b1 := F1.binds (ps := ["frames", "every"]) fun _ _ _ _ _ _ us hl => match us, hl with | [_, _], _ => rfl
  have F2 := fun_mk (st := s_nearest_point) l2 c2 k2
  have b2 := F2.binds (ps := ["points", "sample"]) fun _ _ _ _ _ _ us hl => match us, hl with | [_, _], _ => rfl
  have F3 := fun_mk (st := s_holds_multiple) l3 c3 k3
  have b3 := F3.binds (ps := ["sample", "count", "every"]) fun _ _ _ _ _ _ us hl => match us, hl with | [_, _, _], _ => rfl
  have F4 := fun_mk (st := s_law_is_integer) l4 c4 k4
  have b4 := F4.binds (ps := ["actual"]) fun _ _ _ _ _ _ us hl => match us, hl with | [_], _ => rfl
  have F5 := fun_mk (st := s_law_refill) l5 c5 k5
  have b5 := F5.binds (ps := ["script", "k"]) fun _ _ _ _ _ _ us hl => match us, hl with | [_, _], _ => rfl
  have F6 := fun_mk (st := s_law_draw) l6 c6 k6
  have b6 := F6.binds (ps := ["state", "script", "size"]) fun _ _ _ _ _ _ us hl => match us, hl with | [_, _, _], _ => rfl
  have F7 := fun_mk (st := s_law_wide) l7 c7 k7
  have b7 := F7.binds (ps := ["state", "script", "size"]) fun _ _ _ _ _ _ us hl => match us, hl with | [_, _, _], _ => rfl
  have F8 := fun_mk (st := s_law_junk) l8 c8 k8
  have b8 := F8.binds (ps := ["state", "script", "count"]) fun _ _ _ _ _ _ us hl => match us, hl with | [_, _, _], _ => rfl
  have F9 := fun_mk (st := s_law_is_bytes) l9 c9 k9
  have b9 := F9.binds (ps := ["actual"]) fun _ _ _ _ _ _ us hl => match us, hl with | [_], _ => rfl
  have F10 := fun_mk (st := s_law_number_bytes) l10 c10 k10
  have b10 := F10.binds (ps := ["number", "count"]) fun _ _ _ _ _ _ us hl => match us, hl with | [_, _], _ => rfl
  have F11 := fun_mk (st := s_law_frames) l11 c11 k11
  have b11 := F11.binds (ps := ["state", "script"]) fun _ _ _ _ _ _ us hl => match us, hl with | [_, _], _ => rfl
  have F12 := fun_mk (st := s_law_holds) l12 c12 k12
  have b12 := F12.binds (ps := ["frame", "every"]) fun _ _ _ _ _ _ us hl => match us, hl with | [_, _], _ => rfl
  have F13 := fun_mk (st := s_law_nearest) l13 c13 k13
  have b13 := F13.binds (ps := ["points", "sample"]) fun _ _ _ _ _ _ us hl => match us, hl with | [_, _], _ => rfl
  have F14 := fun_mk (st := s_law_tuples) l14 c14 k14
  have b14 := F14.binds (ps := ["actual"]) fun _ _ _ _ _ _ us hl => match us, hl with | [_], _ => rfl
  have F15 := fun_mk (st := s_law) l15 c15 k15
  have b15 := F15.binds (ps := ["script"]) fun _ _ _ _ _ _ us hl => match us, hl with | [_], _ => rfl
  let T : TX K mg := ⟨f1, _, F1, b1, (PySem.W.mg_of X G a1), f2, _, F2, b2, (PySem.W.mg_of X G a2), f3, _, F3, b3, (PySem.W.mg_of X G a3), f4, _, F4, b4, (PySem.W.mg_of X G a4), f5, _, F5, b5, (PySem.W.mg_of X G a5), f6, _, F6, b6, (PySem.W.mg_of X G a6), f7, _, F7, b7, (PySem.W.mg_of X G a7), f8, _, F8, b8, (PySem.W.mg_of X G a8), f9, _, F9, b9, (PySem.W.mg_of X G a9), f10, _, F10, b10, (PySem.W.mg_of X G a10), f11, _, F11, b11, (PySem.W.mg_of X G a11), f12, _, F12, b12, (PySem.W.mg_of X G a12), f13, _, F13, b13, (PySem.W.mg_of X G a13), f14, _, F14, b14, (PySem.W.mg_of X G a14), fa, _, F15, b15, (PySem.W.mg_of X G a15), (PySem.W.mg_none_of X G z_isinstance), (PySem.W.mg_none_of X G z_int), (PySem.W.mg_none_of X G z_bool), (PySem.W.mg_none_of X G z_len), (PySem.W.mg_none_of X G z_range), (PySem.W.mg_none_of X G z_list), (PySem.W.mg_none_of X G z_all), (PySem.W.mg_none_of X G z_tuple), (PySem.W.mg_none_of X G z_max)⟩
  exact ⟨_, fun s v => .of_eq rfl, fun base _ _ => ok_law T⟩
end K47
open PySem PySem.W PyProof.Rows
set_option maxRecDepth 100000 in
set_option maxHeartbeats 0 in
theorem PySem.Challenge.cw_monochord_k47_points_of_frames_holds : PySem.Challenge.rw_monochord_k47_points_of_frames.Holds := by
  w_on; o_law; k_head; (case hw => w_witness2)
  k_fill
  refine L2.walk_of (l := PySem.Challenge.rw_monochord_k47_points_of_frames) (n := 63) (k := 5) (x := "script") (CX := fun _ => L2.CX0) (sp := fun w => K47.sp_law _) rfl (by decide) rfl ⟨rfl, by decide, by decide⟩ (fun w h Y => PySem.W.kIn_of Y) ?F (fun _ _ a ns hl _ hS => ⟨a, ns, rfl, hS, hl, fun _ => rfl⟩) (fun _ _ _ _ _ h => h)
  case F =>
    intro w mg fa h KX G hmg
    refine' K47.all_mk KX G hmg ?a1 ?l1 ?c1 ?k1 ?a2 ?l2 ?c2 ?k2 ?a3 ?l3 ?c3 ?k3 ?a4 ?l4 ?c4 ?k4 ?a5 ?l5 ?c5 ?k5 ?a6 ?l6 ?c6 ?k6 ?a7 ?l7 ?c7 ?k7 ?a8 ?l8 ?c8 ?k8 ?a9 ?l9 ?c9 ?k9 ?a10 ?l10 ?c10 ?k10 ?a11 ?l11 ?c11 ?k11 ?a12 ?l12 ?c12 ?k12 ?a13 ?l13 ?c13 ?k13 ?a14 ?l14 ?c14 ?k14 ?a15 ?l15 ?c15 ?k15 ?z_isinstance ?z_int ?z_bool ?z_len ?z_range ?z_list ?z_all ?z_tuple ?z_max
    (case a1 => k_is)
    (case l1 => k_is)
    (case c1 => k_is)
    (case k1 => k_is)
    (case a2 => k_is)
    (case l2 => k_is)
    (case c2 => k_is)
    (case k2 => k_is)
    (case a3 => k_is)
    (case l3 => k_is)
    (case c3 => k_is)
    (case k3 => k_is)
    (case a4 => k_is)
    (case l4 => k_is)
    (case c4 => k_is)
    (case k4 => k_is)
    (case a5 => k_is)
    (case l5 => k_is)
    (case c5 => k_is)
    (case k5 => k_is)
    (case a6 => k_is)
    (case l6 => k_is)
    (case c6 => k_is)
    (case k6 => k_is)
    (case a7 => k_is)
    (case l7 => k_is)
    (case c7 => k_is)
    (case k7 => k_is)
    (case a8 => k_is)
    (case l8 => k_is)
    (case c8 => k_is)
    (case k8 => k_is)
    (case a9 => k_is)
    (case l9 => k_is)
    (case c9 => k_is)
    (case k9 => k_is)
    (case a10 => k_is)
    (case l10 => k_is)
    (case c10 => k_is)
    (case k10 => k_is)
    (case a11 => k_is)
    (case l11 => k_is)
    (case c11 => k_is)
    (case k11 => k_is)
    (case a12 => k_is)
    (case l12 => k_is)
    (case c12 => k_is)
    (case k12 => k_is)
    (case a13 => k_is)
    (case l13 => k_is)
    (case c13 => k_is)
    (case k13 => k_is)
    (case a14 => k_is)
    (case l14 => k_is)
    (case c14 => k_is)
    (case k14 => k_is)
    (case a15 => k_is)
    (case l15 => k_is)
    (case c15 => k_is)
    (case k15 => k_is)
    (case z_isinstance => k_is)
    (case z_int => k_is)
    (case z_bool => k_is)
    (case z_len => k_is)
    (case z_range => k_is)
    (case z_list => k_is)
    (case z_all => k_is)
    (case z_tuple => k_is)
    (case z_max => k_is)
