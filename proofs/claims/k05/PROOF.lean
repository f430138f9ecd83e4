import PyProof.Rows.All
import Wide.All
import OpenK.AllK
import Wide.FinOn
import HandS.ForMost
import HandS.Steps
import HandS.Evl
import HandS.IsInst
import HandS.Defaults
import HandS.Wide
import PySem.Challenge.RW_monochord_k05_checksums_by_division
set_option Elab.async false
set_option linter.all false
set_option maxRecDepth 100000
set_option maxHeartbeats 4000000
namespace K05
open PySem PySem.Spec PyProof.Rows L2 Evl
def topS (i : Nat) : Stmt := PySem.Challenge.pw_monochord_k05_checksums_by_division.main.body.getD i (.Pass ⟨0, 0, 0, 0⟩)
abbrev s_crc8 : Stmt := topS 4
theorem sc_crc8 : FnScope ["data", "start"] ["data", "start"] (defScope s_crc8) := ⟨rfl, rfl, rfl, by decide +kernel, rfl, by decide +kernel, by decide +kernel⟩
abbrev s_crc16 : Stmt := topS 5
theorem sc_crc16 : FnScope ["data", "start"] ["data", "start"] (defScope s_crc16) := ⟨rfl, rfl, rfl, by decide +kernel, rfl, by decide +kernel, by decide +kernel⟩
abbrev s_crc32 : Stmt := topS 6
theorem sc_crc32 : FnScope ["data", "start"] ["data", "start"] (defScope s_crc32) := ⟨rfl, rfl, rfl, by decide +kernel, rfl, by decide +kernel, by decide +kernel⟩
abbrev s_divided : Stmt := topS 7
theorem sc_divided : FnScope ["data", "start", "width", "steps", "rest", "top", "kept", "byte"] ["data", "start", "width", "steps"] (defScope s_divided) := ⟨rfl, rfl, rfl, by decide +kernel, rfl, by decide +kernel, by decide +kernel⟩
abbrev s_law_draw : Stmt := topS 9
theorem sc_law_draw : FnScope ["cell", "many", "bound", "numbers", "k", "seed", "mixed"] ["cell", "many", "bound"] (defScope s_law_draw) := ⟨rfl, rfl, rfl, by decide +kernel, rfl, by decide +kernel, by decide +kernel⟩
abbrev s_law_cell : Stmt := topS 10
theorem sc_law_cell : FnScope ["script", "k"] ["script", "k"] (defScope s_law_cell) := ⟨rfl, rfl, rfl, by decide +kernel, rfl, by decide +kernel, by decide +kernel⟩
abbrev s_law_data : Stmt := topS 11
theorem sc_law_data : FnScope ["cell", "more", "sizes", "data", "byte"] ["cell", "more"] (defScope s_law_data) := ⟨rfl, rfl, rfl, by decide +kernel, rfl, by decide +kernel, by decide +kernel⟩
abbrev s_law_remainder : Stmt := topS 12
theorem sc_law_remainder : FnScope ["data", "begin", "width", "polynomial", "bits", "byte", "k", "j", "value", "bit"] ["data", "begin", "width", "polynomial"] (defScope s_law_remainder) := ⟨rfl, rfl, rfl, by decide +kernel, rfl, by decide +kernel, by decide +kernel⟩
abbrev s_law_told : Stmt := topS 13
theorem sc_law_told : FnScope ["data", "begin", "width"] ["data", "begin", "width"] (defScope s_law_told) := ⟨rfl, rfl, rfl, by decide +kernel, rfl, by decide +kernel, by decide +kernel⟩
abbrev s_law_bare : Stmt := topS 14
theorem sc_law_bare : FnScope ["data", "width"] ["data", "width"] (defScope s_law_bare) := ⟨rfl, rfl, rfl, by decide +kernel, rfl, by decide +kernel, by decide +kernel⟩
abbrev s_law_right : Stmt := topS 15
theorem sc_law_right : FnScope ["actual", "expected"] ["actual", "expected"] (defScope s_law_right) := ⟨rfl, rfl, rfl, by decide +kernel, rfl, by decide +kernel, by decide +kernel⟩
abbrev s_law : Stmt := topS 16
theorem sc_law : FnScope ["script", "data", "starts", "cut", "polynomials", "k", "width", "begin", "handed", "expected", "first"] ["script"] (defScope s_law) := ⟨rfl, rfl, rfl, by decide +kernel, rfl, by decide +kernel, by decide +kernel⟩
theorem hu64 {A : Around} {k : Nat} (hr : Room k A) : A.units + 64 < cLine := hr.units
/-! ### short words for readings -/
theorem ret_eq {v w : V} {H H' : Hp} {Q : VK} (k : RetV v H Q) (ex : Ex H H') (e : w = v) : Q w H' := e ▸ k H' ex
/-- isinstance(x, T), T a built-in class -/
theorem ev_isi {K : PySem.W.Frag} {σ : L2.St} {H : Hp} {ta : TE} {x : V} {t : String} {T : String} {b : Bool} (ha : Ev ta σ H x) (ht : ∀ H1, Ex H H1 → TyX K H1 x (.type t)) (hk : kitB t T = some b) :
    Ev (tCB (rIsi K) (tCons ta (tCons (tC (.ty T)) tNil))) σ H (.bl b) :=
  ev_cb (ea_cons ha (ea_cons ev_c ea_nil)) fun H1 e Q q => ⟨x, .ty T, _, _, b, rfl, .ty T, ht H1 e, kit_ty hk, q H1 (Ex.refl H1)⟩
theorem isi_int {K : PySem.W.Frag} {H : Hp} {i : Int} : ∀ H1, Ex H H1 → TyX K H1 (V.int i) (.type "int") := fun _ _ => .base (.int _)
theorem isi_bl {K : PySem.W.Frag} {H : Hp} {b : Bool} : ∀ H1, Ex H H1 → TyX K H1 (V.bl b) (.type "bool") := fun _ _ => .base (.bl _)
theorem isi_non {K : PySem.W.Frag} {H : Hp} : ∀ H1, Ex H H1 → TyX K H1 V.non (.type "NoneType") := fun _ _ => .base .non
theorem isi_lst {K : PySem.W.Frag} {H : Hp} {a : Addr} {xs : List V} (h : H a = some (.lst xs)) : ∀ H1, Ex H H1 → TyX K H1 (V.ref a) (.type "list") := fun _ e => .base (.lst (e _ _ h))
theorem isi_tup {K : PySem.W.Frag} {H : Hp} {a : Addr} {xs : List V} (h : H a = some (.tup xs)) : ∀ H1, Ex H H1 → TyX K H1 (V.ref a) (.type "tuple") := fun _ e => .base (.tup (e _ _ h))
theorem kit_ii : kitB "int" "int" = some true := by decide +kernel
theorem kit_ib : kitB "int" "bool" = some false := by decide +kernel
theorem kit_bb : kitB "bool" "bool" = some true := by decide +kernel
theorem kit_bi : kitB "bool" "int" = some true := by decide +kernel
theorem kit_ll : kitB "list" "list" = some true := by decide +kernel
theorem kit_tt : kitB "tuple" "tuple" = some true := by decide +kernel
theorem ev_isiI {K : PySem.W.Frag} {σ : L2.St} {H : Hp} {ta : TE} {i : Int} (ha : Ev ta σ H (.int i)) : Ev (tCB (rIsi K) (tCons ta (tCons (tC (.ty "int")) tNil))) σ H (.bl true) := ev_isi ha isi_int kit_ii
theorem ev_isiB {K : PySem.W.Frag} {σ : L2.St} {H : Hp} {ta : TE} {i : Int} (ha : Ev ta σ H (.int i)) : Ev (tCB (rIsi K) (tCons ta (tCons (tC (.ty "bool")) tNil))) σ H (.bl false) := ev_isi ha isi_int kit_ib
theorem ev_isiL {K : PySem.W.Frag} {σ : L2.St} {H : Hp} {ta : TE} {a : Addr} {xs : List V} (ha : Ev ta σ H (.ref a)) (h : H a = some (.lst xs)) : Ev (tCB (rIsi K) (tCons ta (tCons (tC (.ty "list")) tNil))) σ H (.bl true) := ev_isi ha (isi_lst h) kit_ll
theorem ev_isiBB {K : PySem.W.Frag} {σ : L2.St} {H : Hp} {ta : TE} {b : Bool} (ha : Ev ta σ H (.bl b)) : Ev (tCB (rIsi K) (tCons ta (tCons (tC (.ty "bool")) tNil))) σ H (.bl true) := ev_isi ha isi_bl kit_bb
theorem ev_chain {σ : L2.St} {H : Hp} {ta tb tc : TE} {g g' : Int → Int → Bool} {a b c : Int} (ha : Ev ta σ H (.int a)) (hb : Ev tb σ H (.int b)) (hc : Ev tc σ H (.int c)) :
    Ev (tChain (rI0 fun i j => .bl (g i j)) (rI0 fun i j => .bl (g' i j)) ta tb tc) σ H (.bl (g a b && g' b c)) := fun H1 e Q q =>
  ha H1 e _ fun H2 e2 => hb H2 (e.trans e2) _ fun H3 e3 => ⟨a, b, rfl, rfl, g a b, rfl, by
    cases hg : g a b with
    | true =>
      rw [if_pos rfl]
      rw [hg, Bool.true_and] at q
      exact hc H3 ((e.trans e2).trans e3) _ fun H4 e4 => ⟨b, c, rfl, rfl, q H4 ((e2.trans e3).trans e4)⟩
    | false =>
      rw [if_neg (by decide)]
      rw [hg, Bool.false_and] at q
      exact q H3 (e2.trans e3)⟩
theorem ev_isN {σ : L2.St} {H : Hp} {ta : TE} {x : V} (ha : Ev ta σ H x) : Ev (tOp rIsN ta (tC .non)) σ H (.bl (decide (x = .non))) := fun H1 e Q q => ha H1 e _ fun H2 e2 => ⟨rfl, q H2 e2⟩
theorem ev_notN {σ : L2.St} {H : Hp} {ta : TE} {x : V} (ha : Ev ta σ H x) : Ev (tOp rNotN ta (tC .non)) σ H (.bl (!decide (x = .non))) := fun H1 e Q q => ha H1 e _ fun H2 e2 => ⟨rfl, q H2 e2⟩
theorem ev_min2 {σ : L2.St} {H : Hp} {ta tb : TE} {i j : Int} (ha : Ev ta σ H (.int i)) (hb : Ev tb σ H (.int j)) :
    Ev (tCB (fun xs H Q => ∃ i j, xs = [.int i, .int j] ∧ Q (.int (if j < i then j else i)) H) (tCons ta (tCons tb tNil))) σ H (.int (if j < i then j else i)) :=
  ev_cb (ea_cons ha (ea_cons hb ea_nil)) fun H1 _ _ q => ⟨i, j, rfl, q H1 (Ex.refl H1)⟩
theorem ev_negI {σ : L2.St} {H : Hp} {ta : TE} {i : Int} (ha : Ev ta σ H (.int i)) : Ev (tUn (rU fun i => .int (-i)) ta) σ H (.int (-i)) := ev_un ha ru_neg
theorem ev_I0 {σ : L2.St} {H : Hp} {ta tb : TE} {g : Int → Int → V} {i j : Int} (ha : Ev ta σ H (.int i)) (hb : Ev tb σ H (.int j)) : Ev (tOp (rI0 g) ta tb) σ H (g i j) := ev_op ha hb rv_I0
theorem ev_I {σ : L2.St} {H : Hp} {ta tb : TE} {C : Int → Int → Prop} {g : Int → Int → V} {i j : Int} (ha : Ev ta σ H (.int i)) (hb : Ev tb σ H (.int j)) (hc : C i j) : Ev (tOp (rI C g) ta tb) σ H (g i j) := ev_op ha hb (rv_I hc)
theorem ev_eq {σ : L2.St} {H : Hp} {ta tb : TE} {x y : V} (ha : Ev ta σ H x) (hb : Ev tb σ H y) (hs : scal x y = true) : Ev (tOp rEq ta tb) σ H (.bl (decide (x = y))) := ev_op ha hb (rv_eq hs)
theorem ev_ne {σ : L2.St} {H : Hp} {ta tb : TE} {x y : V} (ha : Ev ta σ H x) (hb : Ev tb σ H y) (hs : scal x y = true) : Ev (tOp rNe ta tb) σ H (.bl (!decide (x = y))) := ev_op ha hb (rv_ne hs)
theorem et_B' {σ : L2.St} {H : Hp} {te : TE} {x : V} {b : Bool} (h : Ev te σ H x) (e : x = .bl b) : EvT (tB te) σ H b := et_B (e ▸ h)
theorem dec_lt {a b : Nat} : decide ((a : Int) < (b : Int)) = decide (a < b) := by
  by_cases h : a < b
  · rw [decide_eq_true h, decide_eq_true (by omega)]
  · rw [decide_eq_false h, decide_eq_false (by omega)]
theorem int_at {ns : List Int} {i : Nat} {x : V} (hx : (ns.map V.int)[i]? = some x) : ∃ n, ns[i]? = some n ∧ i < ns.length ∧ x = V.int n := by
  rw [List.getElem?_map] at hx
  cases en : ns[i]? with
  | none => rw [en] at hx; cases hx
  | some n => rw [en] at hx; exact ⟨n, rfl, (List.getElem?_eq_some_iff.mp en).1, (Option.some.inj hx).symm⟩
theorem at_int {ns : List Int} {i : Nat} {n : Int} (h : ns[i]? = some n) : (ns.map V.int)[i]? = some (V.int n) := by rw [List.getElem?_map, h]; rfl
local macro_rules | `(tactic| walk_at "side") => `(tactic| first
  | omega | (show CMul _ _; unfold CMul; omega) | (show CDiv _ _; unfold CDiv; omega) | (show CPow _ _; unfold CPow; omega) | (show (_ : Int) < _; omega) | (show (_ : Int) ≤ _; omega) | decide)
local macro_rules | `(tactic| walk_at "ev") => `(tactic| first
  | exact ev_var rfl
  | exact ev_c
  | (refine' ev_I0 ?h1 ?h2; (case h1 => walk_at "ev"); (case h2 => walk_at "ev"))
  | (refine' ev_negI ?h1; (case h1 => walk_at "ev"))
  | (refine' ev_I ?h1 ?h2 ?hc; (case h1 => walk_at "ev"); (case h2 => walk_at "ev"); (case hc => walk_at "side"))
  | (refine' ev_eq ?h1 ?h2 ?hc; (case h1 => walk_at "ev"); (case h2 => walk_at "ev"); (case hc => rfl))
  | (refine' ev_ne ?h1 ?h2 ?hc; (case h1 => walk_at "ev"); (case h2 => walk_at "ev"); (case hc => rfl))
  | (refine' ev_max2 ?h1 ?h2; (case h1 => walk_at "ev"); (case h2 => walk_at "ev"))
  | (refine' ev_min2 ?h1 ?h2; (case h1 => walk_at "ev"); (case h2 => walk_at "ev"))
  | (refine' ev_chain ?h1 ?h2 ?h3; (case h1 => walk_at "ev"); (case h2 => walk_at "ev"); (case h3 => walk_at "ev"))
  | (refine' ev_isN ?h1; (case h1 => walk_at "ev"))
  | (refine' ev_notN ?h1; (case h1 => walk_at "ev"))
  | (refine' ev_isiI ?h1; (case h1 => walk_at "ev"))
  | (refine' ev_isiB ?h1; (case h1 => walk_at "ev"))
  | (refine' ev_isiBB ?h1; (case h1 => walk_at "ev"))
  | (refine' ev_andV ?h1 (fun _ => ?h2); (case h1 => walk_at "ev"); (case h2 => walk_at "ev"))
  | (refine' ev_orV ?h1 (fun _ => ?h2); (case h1 => walk_at "ev"); (case h2 => walk_at "ev"))
  | (refine' ev_notV ?h1; (case h1 => walk_at "ev"))
  | walk_at "evmore")
local macro_rules | `(tactic| walk_at "et") => `(tactic| first
  | (refine' et_test ?h1; (case h1 => walk_at "ev"))
  | (refine' et_B ?h1; (case h1 => walk_at "ev"))
  | (refine' et_not ?h1; (case h1 => walk_at "et"))
  | (refine' et_and ?h1 (fun _ => ?h2); (case h1 => walk_at "et"); (case h2 => walk_at "et"))
  | (refine' et_or ?h1 (fun _ => ?h2); (case h1 => walk_at "et"); (case h2 => walk_at "et")))
local macro_rules | `(tactic| walk_at "ea") => `(tactic| first
  | exact ea_nil
  | (refine' ea_cons ?h1 ?h2; (case h1 => walk_at "ev"); (case h2 => walk_at "ea")))
local macro_rules | `(tactic| walk_at "when") => `(tactic| (refine' q_when ?h ?h1 ?h2; (case h => walk_at "et")))
local macro_rules | `(tactic| walk_at "whenS") => `(tactic| (refine' s_when ?h ?h1 ?h2; (case h => walk_at "et")))
local macro_rules | `(tactic| walk_at "if") => `(tactic| (refine' q_if ?h ?h1 ?h2; (case h => walk_at "et")))
local macro_rules | `(tactic| walk_at "ifS") => `(tactic| (refine' s_if ?h ?h1 ?h2; (case h => walk_at "et")))
local macro_rules | `(tactic| walk_at "ret") => `(tactic| (refine' s_ret ?h ?h1; (case h => walk_at "ev")))
local macro_rules | `(tactic| walk_at "asg") => `(tactic| (refine' q_asg ?h ?h1; (case h => walk_at "ev")))
local macro_rules | `(tactic| walk_at "asgS") => `(tactic| (refine' s_asg ?h ?h1; (case h => walk_at "ev")))

/-! ### lists, existing or new -/
def EvR (te : TE) (σ : L2.St) (H : Hp) (xs : List V) : Prop := ∀ H1, Ex H H1 → ∀ Q : VK, (∀ p H2, Ex H1 H2 → H2 p = some (.lst xs) → Q (.ref p) H2) → te σ H1 Q
def EvS (K : PySem.W.Frag) (te : TE) (σ : L2.St) (H : Hp) (xs : List V) : Prop := ∀ H1, Ex H H1 → ∀ Q : VK, (∀ p H2, Ex H1 H2 → SqL K H2 p xs → Q (.ref p) H2) → te σ H1 Q
section
variable {K : PySem.W.Frag} {σ : L2.St} {H H' : Hp} {ta tb te : TE} {xs ys : List V} {a : Addr}
theorem EvL.r (h : EvL te σ H xs) : EvR te σ H xs := fun H1 e Q q => h H1 e Q fun p H2 _ e2 h2 => q p H2 e2 h2
theorem Ev.r (h : Ev te σ H (.ref a)) (hx : H a = some (.lst xs)) : EvR te σ H xs := fun H1 e Q q => h H1 e Q fun H2 e2 => q a H2 e2 (e2 _ _ (e _ _ hx))
theorem EvR.s (h : EvR te σ H xs) : EvS K te σ H xs := fun H1 e Q q => h H1 e Q fun p H2 e2 h2 => q p H2 e2 (sq_of h2)
theorem Ev.s (h : Ev te σ H (.ref a)) (hx : SqL K H a xs) : EvS K te σ H xs := fun H1 e Q q => h H1 e Q fun H2 e2 => q a H2 e2 (ex_l e2 (ex_l e hx))
theorem EvR.mono (e : Ex H H') (h : EvR te σ H xs) : EvR te σ H' xs := fun H1 a Q q => h H1 (e.trans a) Q q
theorem EvS.mono (e : Ex H H') (h : EvS K te σ H xs) : EvS K te σ H' xs := fun H1 a Q q => h H1 (e.trans a) Q q
theorem EvL.is (h : EvL te σ H xs) (e : xs = ys) : EvL te σ H ys := e ▸ h
theorem EvR.is (h : EvR te σ H xs) (e : xs = ys) : EvR te σ H ys := e ▸ h
theorem el_cat (ha : EvR ta σ H xs) (hb : EvR tb σ H ys) (hl : xs.length + ys.length ≤ 100000) : EvL (tOp rCat ta tb) σ H (xs ++ ys) := fun H1 e Q q =>
  ha H1 e _ fun p H2 e2 h2 => hb H2 (e.trans e2) _ fun r H3 e3 h3 => ⟨p, r, xs, ys, rfl, rfl, e3 _ _ h2, h3, sz_of hl, fun l hl => q l _ (fresh_back (e2.trans e3) hl) ((e2.trans e3).trans (Ex.new hl)) upd_same⟩
theorem el_rep {k : Int} (ha : EvR ta σ H xs) (hb : Ev tb σ H (.int k)) (hk : -(2 ^ 63) ≤ k ∧ k < 2 ^ 63) (hl : xs.length * k.toNat ≤ 100000) : EvL (tOp rRep ta tb) σ H (List.replicate k.toNat xs).flatten := fun H1 e Q q =>
  ha H1 e _ fun p H2 e2 h2 => hb H2 (e.trans e2) _ fun H3 e3 => ⟨p, k, xs, rfl, rfl, e3 _ _ h2, hk.1, hk.2, sz_of hl, fun l hl => q l _ (fresh_back (e2.trans e3) hl) ((e2.trans e3).trans (Ex.new hl)) upd_same⟩
theorem rep_one {x : V} (n : Nat) : (List.replicate n [x]).flatten = List.replicate n x := by
  induction n with
  | zero => rfl
  | succ n ih => rw [List.replicate_succ, List.replicate_succ, List.flatten_cons, ih]; rfl
theorem el_of {te : TE} (h : EvS K te σ H xs) : EvL (tCB (rListS K) (tCons te tNil)) σ H xs := fun H1 e Q q =>
  h H1 e _ fun p H2 e2 h2 => ⟨p, xs, rfl, .inl h2, fun l hl => q l _ (fresh_back e2 hl) (e2.trans (Ex.new hl)) upd_same⟩
theorem ev_lenS (h : EvS K te σ H xs) : Ev (tCB (rLenS K) (tCons te tNil)) σ H (.int (xs.length : Int)) := fun H1 e Q q =>
  h H1 e _ fun p H2 e2 h2 => ⟨p, xs, rfl, .inl h2, q H2 e2⟩
theorem ev_sum {ns : List Int} (h : EvS K te σ H (ns.map V.int)) : Ev (tCB (rSum K) (tCons te tNil)) σ H (.int ns.sum) := fun H1 e Q q =>
  h H1 e _ fun p H2 e2 h2 => ⟨p, ns, rfl, h2, q H2 e2⟩
theorem dp_ints {K : PySem.W.Frag} {H : Hp} : ∀ ns : List Int, DpAll K H (ns.map V.int) (ns.map PyData.int)
  | [] => .nil
  | n :: r => .cons (.int n) (dp_ints r)
theorem eqv_ints : ∀ ns ms : List Int, PyData.eqvAll (ns.map PyData.int) (ms.map PyData.int) = decide (ns = ms)
  | [], [] => by simp [PyData.eqvAll]
  | [], _ :: _ => by simp [PyData.eqvAll]
  | _ :: _, [] => by simp [PyData.eqvAll]
  | n :: r, m :: t => by
    show (PyData.eqv (.int n) (.int m) && PyData.eqvAll (r.map PyData.int) (t.map PyData.int)) = _
    rw [eqv_ints r t]
    show ((n == m) && decide (r = t)) = _
    by_cases h1 : n = m <;> by_cases h2 : r = t <;> simp [h1, h2]
theorem canLay_ints : ∀ ns : List Int, PyData.canLayAll0 (ns.map PyData.int) = true
  | [] => by simp [PyData.canLayAll0]
  | n :: r => by
    show PyData.canLayAll0 (PyData.int n :: r.map PyData.int) = true
    rw [PyData.canLayAll0, canLay_ints r]
    simp [PyData.canLay0]
theorem depth_ints : ∀ ns : List Int, PyData.depthAll (ns.map PyData.int) ≤ 1
  | [] => by simp [PyData.depthAll]
  | n :: r => by
    show PyData.depthAll (PyData.int n :: r.map PyData.int) ≤ 1
    have := depth_ints r
    simp only [PyData.depthAll, PyData.depth]
    omega
theorem shaped_ints (ns : List Int) : SeqAt.shaped (.list (ns.map PyData.int)) = true := by
  unfold SeqAt.shaped
  have h1 := canLay_ints ns
  have h2 := depth_ints ns
  have h3 : PyData.depth (.list (ns.map PyData.int)) ≤ 64 := by
    rw [PyData.depth]
    omega
  rw [decide_eq_true h3, Bool.and_true]
  simpa only [PyData.canLay0] using h1
theorem ev_eqI {ns ms : List Int} (ha : EvS K ta σ H (ns.map V.int)) (hb : EvS K tb σ H (ms.map V.int)) : Ev (tOp (rEqD K) ta tb) σ H (.bl (decide (ns = ms))) := fun H1 e Q q =>
  ha H1 e _ fun p H2 e2 h2 => hb H2 (e.trans e2) _ fun r H3 e3 h3 => ⟨.list (ns.map PyData.int), .list (ms.map PyData.int), .lst (ex_l e3 h2) (dp_ints ns), .lst h3 (dp_ints ms), shaped_ints ns, shaped_ints ms, by
    show Q (.bl (PyData.eqvAll (ns.map PyData.int) (ms.map PyData.int))) H3
    rw [eqv_ints]
    exact q H3 (e2.trans e3)⟩
theorem ev_neI {ns ms : List Int} (ha : EvS K ta σ H (ns.map V.int)) (hb : EvS K tb σ H (ms.map V.int)) : Ev (tOp (rNeD K) ta tb) σ H (.bl (!decide (ns = ms))) := fun H1 e Q q =>
  ha H1 e _ fun p H2 e2 h2 => hb H2 (e.trans e2) _ fun r H3 e3 h3 => ⟨.list (ns.map PyData.int), .list (ms.map PyData.int), .lst (ex_l e3 h2) (dp_ints ns), .lst h3 (dp_ints ms), shaped_ints ns, shaped_ints ms, by
    show Q (.bl (!PyData.eqvAll (ns.map PyData.int) (ms.map PyData.int))) H3
    rw [eqv_ints]
    exact q H3 (e2.trans e3)⟩
theorem ev_ixS {i : Nat} {n : Int} {tl ti : TE} {v : V} (h : EvS K tl σ H xs) (hi : Ev ti σ H (.int n)) (ha : atI xs n = some v) : Ev (tOp (rIxL K) tl ti) σ H v := fun H1 e Q q =>
  h H1 e _ fun p H2 e2 h2 => hi H2 (e.trans e2) _ fun H3 e3 => ⟨p, xs, n, v, rfl, rfl, ex_l e3 h2, ha, q H3 (e2.trans e3)⟩
theorem el_slS {tl th : TO} {lo hi : Option Int} (h : EvS K te σ H xs) (h1 : EvO tl σ H lo) (h2 : EvO th σ H hi) : EvL (tSl (rSlL K) te tl th) σ H (cutV xs lo hi) := fun H1 e _ q =>
  h H1 e _ fun a H2 e2 hs => h1 H2 (e.trans e2) _ fun H3 e3 => h2 H3 ((e.trans e2).trans e3) _ fun H4 e4 =>
    ⟨a, xs, rfl, ex_l (e3.trans e4) hs, fun p hp => q p _ (fresh_back ((e2.trans e3).trans e4) hp) (((e2.trans e3).trans e4).trans (Ex.new hp)) upd_same⟩
theorem ev_at {n : Int} {tl ti : TE} {v : V} (h : EvS K tl σ H xs) (hi : Ev ti σ H (.int n)) (ha : atI xs n = some v) : Ev (tOp (rIxL K) tl ti) σ H v := ev_ixS (i := 0) h hi ha
theorem cut_to (xs : List V) (i : Nat) : cutV xs none (some (i : Int)) = xs.take i := by
  unfold cutV
  rw [HT.sIx_none, HT.sIx_nat, List.drop_zero, Nat.sub_zero]
  by_cases h : i ≤ xs.length
  · rw [Nat.min_eq_left h]
  · rw [Nat.min_eq_right (by omega), List.take_of_length_le (Nat.le_refl _), List.take_of_length_le (by omega)]
theorem cut_from (xs : List V) (i : Nat) : cutV xs (some (i : Int)) none = xs.drop i := by
  unfold cutV
  rw [HT.sIx_none, HT.sIx_nat]
  by_cases h : i ≤ xs.length
  · rw [Nat.min_eq_left h, List.take_of_length_le (by rw [List.length_drop]; omega)]
  · rw [Nat.min_eq_right (by omega), List.drop_of_length_le (Nat.le_refl _), List.drop_of_length_le (show xs.length ≤ i by omega), List.take_nil]
theorem cut_mid (xs : List V) (i j : Nat) : cutV xs (some (i : Int)) (some (j : Int)) = (xs.drop i).take (j - i) := by
  unfold cutV
  rw [HT.sIx_nat, HT.sIx_nat]
  by_cases h : i ≤ xs.length
  · rw [Nat.min_eq_left h]
    by_cases h2 : j ≤ xs.length
    · rw [Nat.min_eq_left h2]
    · rw [Nat.min_eq_right (by omega), List.take_of_length_le (by rw [List.length_drop]; omega), List.take_of_length_le (by rw [List.length_drop]; omega)]
  · rw [Nat.min_eq_right (by omega : xs.length ≤ i), List.drop_of_length_le (Nat.le_refl _), List.drop_of_length_le (show xs.length ≤ i by omega)]
    simp
theorem el_to {th : TE} {ns : List Int} {i : Nat} (h : EvS K te σ H (ns.map V.int)) (h2 : Ev th σ H (.int i)) : EvL (tSl (rSlL K) te tNoPart (tPart th)) σ H ((ns.take i).map V.int) :=
  EvL.is (el_slS h eo_none (eo_some h2)) (by rw [List.map_take]; exact cut_to _ i)
theorem el_from {th : TE} {ns : List Int} {i : Nat} (h : EvS K te σ H (ns.map V.int)) (h2 : Ev th σ H (.int i)) : EvL (tSl (rSlL K) te (tPart th) tNoPart) σ H ((ns.drop i).map V.int) :=
  EvL.is (el_slS h (eo_some h2) eo_none) (by rw [List.map_drop]; exact cut_from _ i)
theorem el_mid {t1 t2 : TE} {ns : List Int} {i j : Nat} (h : EvS K te σ H (ns.map V.int)) (h1 : Ev t1 σ H (.int i)) (h2 : Ev t2 σ H (.int j)) : EvL (tSl (rSlL K) te (tPart t1) (tPart t2)) σ H (((ns.drop i).take (j - i)).map V.int) :=
  EvL.is (el_slS h (eo_some h1) (eo_some h2)) (by rw [List.map_take, List.map_drop]; exact cut_mid _ i j)
section
variable {D : Ends} {tz : TS} {sp : Sp} {dvs vs : List V} {E : XK} {tA : TA}
/-- x = f(..), whatever f promises -/
theorem q_asgC {i : Nat} (h : EvA tA σ H vs) (k : ∀ H1, Ex H H1 → sp (vs ++ dvs) H1 (fun x H2 => tz D (σ.set i (some x)) H2) E) : tSeq (tAsg (tCall sp dvs E tA) (gName i)) tz D σ H := h H (Ex.refl H) _ fun H1 e => k H1 e
theorem s_asgC {i : Nat} (h : EvA tA σ H vs) (k : ∀ H1, Ex H H1 → sp (vs ++ dvs) H1 (fun x H2 => D.nx (σ.set i (some x)) H2) E) : tAsg (tCall sp dvs E tA) (gName i) D σ H := h H (Ex.refl H) _ fun H1 e => k H1 e
theorem q_dropC (h : EvA tA σ H vs) (k : ∀ H1, Ex H H1 → sp (vs ++ dvs) H1 (fun _ H2 => tz D σ H2) E) : tSeq (tDrop (tCall sp dvs E tA)) tz D σ H := h H (Ex.refl H) _ fun H1 e => k H1 e
theorem s_retC (h : EvA tA σ H vs) (k : ∀ H1, Ex H H1 → sp (vs ++ dvs) H1 D.rt E) : tRet (tCall sp dvs E tA) D σ H := h H (Ex.refl H) _ fun H1 e => k H1 e
end
theorem gl_get {ns : List Int} {i : Nat} (h : i < ns.length) : ns[i]? = some (ns.getD i 0) := by
  rw [List.getD_eq_getElem?_getD, List.getElem?_eq_getElem h]
  rfl
theorem q_asgRaw {te : TE} {i : Nat} {D : Ends} {tz : TS} (P : V → Hp → Prop) (h : ∀ Q : VK, (∀ x H2, P x H2 → Q x H2) → te σ H Q) (k : ∀ x H2, P x H2 → tz D (σ.set i (some x)) H2) : tSeq (tAsg te (gName i)) tz D σ H := h _ k
/-- a, b = a pair -/
theorem q_asgT {te : TE} {i j : Nat} {D : Ends} {tz : TS} (P : V → V → Hp → Prop) (h : ∀ Q : VK, (∀ t x y H2, P x y H2 → SqT K H2 t [x, y] → Q (.ref t) H2) → te σ H Q) (k : ∀ x y H2, P x y H2 → tz D ((σ.set i (some x)).set j (some y)) H2) :
    tSeq (tAsg te (gTup K 2 (gCons (gName i) (gCons (gName j) gNil)))) tz D σ H := h _ fun t x y H2 hP hT => ⟨t, [x, y], rfl, hT, rfl, x, [y], rfl, y, [], rfl, rfl, k x y H2 hP⟩
/-- the law's cell -/
def cellI (ns : List Int) (k : Int) : Int := ns.getD k.toNat 0
theorem cellI_in {ns : List Int} {k : Int} (h0 : 0 ≤ k) (h : k < ns.length) : ns[k.toNat]? = some (cellI ns k) := by
  unfold cellI
  rw [List.getD_eq_getElem?_getD, List.getElem?_eq_getElem (by omega)]
  rfl
theorem cellI_out {ns : List Int} {k : Int} (h : ¬ k < ns.length) : cellI ns k = 0 := by
  unfold cellI
  rw [List.getD_eq_getElem?_getD, List.getElem?_eq_none (by omega)]
  rfl
end
theorem Ex.get {H H' : Hp} {a : Addr} {o : HO} (e : Ex H H') (h : H a = some o) : H' a = some o := e a o h
local macro_rules | `(tactic| walk_at "hp") => `(tactic| first
  | assumption
  | exact upd_same
  | (refine' Ex.get (by assumption) ?h1; (case h1 => walk_at "hp")))
local macro_rules | `(tactic| walk_at "ex") => `(tactic| first
  | assumption
  | exact Ex.refl _
  | (refine' Ex.trans ?h1 (by assumption); (case h1 => walk_at "ex")))
local macro_rules | `(tactic| walk_at "sq") => `(tactic| first
  | assumption
  | (refine' sq_of ?h1; (case h1 => walk_at "hp"))
  | (refine' ex_l (by assumption) ?h1; (case h1 => walk_at "sq")))
local macro_rules | `(tactic| walk_at "evs") => `(tactic| first
  | (refine' Ev.s ?h1 ?h2; (case h1 => exact ev_var rfl); (case h2 => walk_at "sq"))
  | (refine' EvR.s ?h1; (case h1 => walk_at "evr")))
local macro_rules | `(tactic| walk_at "evr") => `(tactic| first
  | (refine' Ev.r ?h1 ?h2; (case h1 => exact ev_var rfl); (case h2 => walk_at "hp"))
  | (refine' EvL.r ?h1; (case h1 => walk_at "el")))
local macro_rules | `(tactic| walk_at "eo") => `(tactic| first
  | exact eo_none
  | (refine' eo_some ?h1; (case h1 => walk_at "ev")))
local macro_rules | `(tactic| walk_at "el") => `(tactic| first
  | (refine' el_lst ?h1 ?h2; (case h1 => walk_at "ea"); (case h2 => exact Nat.le_of_ble_eq_true rfl))
  | (refine' el_cat ?h1 ?h2 ?h3; (case h1 => walk_at "evr"); (case h2 => walk_at "evr"); (case h3 => walk_at "len"))
  | (refine' el_rep ?h1 ?h2 ?h3 ?h4; (case h1 => walk_at "evr"); (case h2 => walk_at "ev"); (case h3 => walk_at "side2"); (case h4 => walk_at "len"))
  | (refine' el_of ?h1; (case h1 => walk_at "evs"))
  | (refine' el_to ?h1 ?h2; (case h1 => walk_at "evs"); (case h2 => walk_at "ev"))
  | (refine' el_from ?h1 ?h2; (case h1 => walk_at "evs"); (case h2 => walk_at "ev"))
  | (refine' el_mid ?h1 ?h2 ?h3; (case h1 => walk_at "evs"); (case h2 => walk_at "ev"); (case h3 => walk_at "ev"))
  | (refine' el_slS ?h1 ?h2 ?h3; (case h1 => walk_at "evs"); (case h2 => walk_at "eo"); (case h3 => walk_at "eo"))
  | walk_at "elmore")
local macro_rules | `(tactic| walk_at "evmore") => `(tactic| first
  | (refine' ev_lenS ?h1; (case h1 => walk_at "evs"))
  | (refine' ev_sum ?h1; (case h1 => walk_at "evs"))
  | (refine' ev_eqI ?h1 ?h2; (case h1 => walk_at "evs"); (case h2 => walk_at "evs"))
  | (refine' ev_neI ?h1 ?h2; (case h1 => walk_at "evs"); (case h2 => walk_at "evs"))
  | (refine' ev_at ?h1 ?h2 ?h3; (case h1 => walk_at "evs"); (case h2 => walk_at "ev"); (case h3 => walk_at "at"))
  | (refine' ev_isiL ?h1 ?h2; (case h1 => walk_at "ev"); (case h2 => walk_at "hp"))
  | walk_at "evown")
local macro_rules | `(tactic| walk_at "at") => `(tactic| first
  | exact at_of rfl (at_int (by assumption))
  | exact at_of rfl (by assumption))
local macro_rules | `(tactic| walk_at "asgL") => `(tactic| (refine' q_asgL ?h ?h1; (case h => walk_at "el")))
local macro_rules | `(tactic| walk_at "retL") => `(tactic| (refine' s_retL ?h ?h1; (case h => walk_at "el")))

/-! ### comprehensions whose items are said in a list -/
theorem et_yes {σ : L2.St} {H : Hp} : EvT tYes σ H true := fun H1 _ _ q => q H1 (Ex.refl H1)
section
variable {K : PySem.W.Frag} {σ : L2.St} {H : Hp} {t1 t2 te : TE} {xs ys zs : List V} {vs : List Nat}
theorem take_snoc {zs : List V} {i : Nat} {z : V} (h : zs[i]? = some z) : zs.take (i + 1) = zs.take i ++ [z] := by
  rw [List.take_add_one, h]
  rfl
theorem el_lcZ {j1 j2 : Nat} (zs : List V) (h1 : EvS K t1 σ H xs) (h2 : EvS K t2 σ H ys) (hz : zs.length = min xs.length ys.length) (hb : zs.length ≤ 50000)
    (hw : ∀ x y, wipe (((wipe σ vs).set j1 (some x)).set j2 (some y)) vs = wipe σ vs)
    (he : ∀ (i : Nat) (x y : V) H1, Ex H H1 → xs[i]? = some x → ys[i]? = some y → ∃ z, zs[i]? = some z ∧ Ev te (((wipe σ vs).set j1 (some x)).set j2 (some y)) H1 z) :
    EvL (tLc (iZip K (tCons t1 (tCons t2 tNil))) (gTup K 2 (gCons (gName j1) (gCons (gName j2) gNil))) tYes te vs) σ H zs := fun H0 e Q q =>
  h1 H0 e _ fun p H1 e1 hp => h2 H1 (e.trans e1) _ fun r H2 e2 hr => ⟨p, r, xs, ys, rfl, ex_l e2 hp, hr, fun D hD =>
    ⟨fun i m H' => m = zs.length - i ∧ i ≤ zs.length ∧ Ex H2 H' ∧ H' D = some (.lst (zs.take i)), ⟨zs.length, rfl, Nat.zero_le _, Ex.new hD, upd_same⟩, by
      rintro i m H' ⟨rfl, hi, ex, hd⟩
      have qx : SqL K H' p xs := ex_l (e2.trans ex) hp
      have qy : SqL K H' r ys := ex_l ex hr
      by_cases hlt : i < zs.length
      · have hx : xs[i]? = some xs[i] := List.getElem?_eq_getElem (by omega)
        have hy : ys[i]? = some ys[i] := List.getElem?_eq_getElem (by omega)
        refine .inr ⟨⟨xs, ys, _, _, qx, qy, hx, hy⟩, fun H3 => i + 1 ≤ zs.length ∧ Ex H2 H3 ∧ H3 D = some (.lst (zs.take (i + 1))), fun H3 h3 => ⟨zs.length - (i + 1), by omega, rfl, h3⟩, fun v H3 hv => ?_⟩
        obtain ⟨T, x, y, rfl, hT, rfl, f1, f2⟩ := hv
        have ex3 : Ex H' (upd H' T (.tup [x, y])) := Ex.new hT
        obtain ⟨z, hz1, hz2⟩ := he i x y (upd H' T (.tup [x, y])) ((((e.trans e1).trans e2).trans ex).trans ex3) (f1 _ qx) (f2 _ qy)
        refine ⟨T, [x, y], rfl, st_of upd_same, rfl, x, [y], rfl, y, [], rfl, rfl, hw x y, ?_⟩
        refine hz2 _ (Ex.refl _) _ fun H4 e4 => ⟨zs.take i, e4 _ _ (ex3 _ _ hd), sz_lt (by rw [List.length_take]; omega), hlt, ?_, ?_⟩
        · exact Ex.mut ((ex.trans ex3).trans e4) hD
        · rw [upd_same, take_snoc hz1]
      · have ei : i = zs.length := by omega
        refine .inl ⟨⟨xs, ys, qx, qy, by omega⟩, ?_⟩
        rw [ei, List.take_length] at hd
        exact q D H' (fresh_back (e1.trans e2) hD) ((e1.trans e2).trans ex) hd⟩⟩
/-- over a list, each item kept -/
theorem el_lcS {j : Nat} (zs : List V) (h1 : EvS K t1 σ H xs) (hz : zs.length = xs.length) (hb : zs.length ≤ 50000) (hw : ∀ x, wipe ((wipe σ vs).set j (some x)) vs = wipe σ vs)
    (he : ∀ (i : Nat) (x : V) H1, Ex H H1 → xs[i]? = some x → ∃ z, zs[i]? = some z ∧ Ev te ((wipe σ vs).set j (some x)) H1 z) :
    EvL (tLc (iList K t1) (gName j) tYes te vs) σ H zs := fun H0 e Q q =>
  h1 H0 e _ fun p H1 e1 hp => ⟨p, rfl, ⟨xs, hp⟩, fun D hD => lc_list (xs := xs) (fun i H' => Ex H1 H' ∧ H' D = some (.lst (zs.take i))) ⟨Ex.new hD, upd_same⟩ (fun i H' _ h => ex_l h.1 hp)
    (fun i x H' hi h => ⟨hw x, by
      obtain ⟨z, hz1, hz2⟩ := he i x H' ((e.trans e1).trans h.1) hi
      have hl : i < xs.length := (List.getElem?_eq_some_iff.mp hi).1
      refine hz2 H' (Ex.refl _) _ fun H4 e4 => ⟨zs.take i, e4 _ _ h.2, sz_lt (by rw [List.length_take]; omega), Ex.mut (h.1.trans e4) hD, ?_⟩
      rw [upd_same, take_snoc hz1]⟩)
    (fun H' h => q D H' (fresh_back e1 hD) (e1.trans h.1) (by rw [h.2, ← hz, List.take_length]))⟩
/-- over range(n) -/
theorem el_lcR {ta : TA} {n : Int} {j : Nat} (zs : List V) (h1 : EvA ta σ H [.int n]) (hn : -100000 ≤ n) (hz : zs.length = n.toNat) (hb : zs.length ≤ 50000) (hw : ∀ x, wipe ((wipe σ vs).set j (some x)) vs = wipe σ vs)
    (he : ∀ (i : Nat) H1, Ex H H1 → i < zs.length → ∃ z, zs[i]? = some z ∧ Ev te ((wipe σ vs).set j (some (.int (i : Int)))) H1 z) :
    EvL (tLc (iRng1 ta) (gName j) tYes te vs) σ H zs := fun H0 e Q q =>
  h1 H0 e _ fun H1 e1 => ⟨n, rfl, by omega, by omega, fun D hD => lc_range (lo := 0) (n := n.toNat) (fun i H' => Ex H1 H' ∧ H' D = some (.lst (zs.take i))) ⟨Ex.new hD, upd_same⟩
    (fun i H' hi h => by
      have e0 : (0 : Int) + (i : Int) = (i : Int) := Int.zero_add _
      rw [e0]
      obtain ⟨z, hz1, hz2⟩ := he i H' ((e.trans e1).trans h.1) (by omega)
      refine ⟨hw _, hz2 H' (Ex.refl _) _ fun H4 e4 => ⟨zs.take i, e4 _ _ h.2, sz_lt (by rw [List.length_take]; omega), Ex.mut (h.1.trans e4) hD, ?_⟩⟩
      rw [upd_same, take_snoc hz1])
    (fun H' h => q D H' (fresh_back e1 hD) (e1.trans h.1) (by rw [h.2, show n.toNat = zs.length by omega, List.take_length]))⟩
/-- y = [.. for x in f(..)], whatever f promises -/
theorem s_asgLC {sp : Sp} {dvs args : List V} {E : XK} {ta : TA} {g : TG} {tt : TT} {D : Ends} {i : Nat} (h : EvA ta σ H args) (k : ∀ H1, Ex H H1 → sp (args ++ dvs) H1 (fun x H2 => tAsg (tLc (iList K (tC x)) g tt te vs) (gName i) D σ H2) E) :
    tAsg (tLc (iList K (tCall sp dvs E ta)) g tt te vs) (gName i) D σ H := h H (Ex.refl H) _ fun H1 e => k H1 e
theorem q_asgLC {sp : Sp} {dvs args : List V} {E : XK} {ta : TA} {g : TG} {tt : TT} {D : Ends} {i : Nat} {tz : TS} (h : EvA ta σ H args) (k : ∀ H1, Ex H H1 → sp (args ++ dvs) H1 (fun x H2 => tSeq (tAsg (tLc (iList K (tC x)) g tt te vs) (gName i)) tz D σ H2) E) :
    tSeq (tAsg (tLc (iList K (tCall sp dvs E ta)) g tt te vs) (gName i)) tz D σ H := h H (Ex.refl H) _ fun H1 e => k H1 e
end

/-! ### calls with keywords, defaults -/
theorem kwAll1 {K : PySem.W.Frag} {D : Addr} {q : Str × V} (h : ∃ u, PySem.W.nsIn K D q.1 = some (some u) ∧ RelV q.2 u) : ∀ p ∈ [q], ∃ u, PySem.W.nsIn K D p.1 = some (some u) ∧ RelV p.2 u := fun p hp => by
  rcases List.mem_cons.mp hp with rfl | hp
  · exact h
  · cases hp
section
variable {K : PySem.W.Frag} {x qual : Str} {params : Arguments} {body : List Stmt} {scope : Scope} {dvs : List V} {kws : List (Str × V)} {f : Addr} {fd : FuncData} {ps : List Str}
/-- f(a, .., k = v, ..), nothing left to a default, no defaults of place -/
theorem fund_kb0 {g : List Value → List Value → List Value} {gV : List V → List V → List V} (F : FunD K x qual params body scope [] kws f fd) (n : Nat) (ks : List Str)
    (hrel : ∀ {vs : List V} {us : List Value} {zs : List V} {ws : List Value}, Vals vs us → Vals zs ws → Vals (gV vs zs) (g us ws))
    (h : ∀ (kV doc pm : Value) (an : Option Addr) (cdv ct : Value) (us ws : List Value), us.length = n → ws.length = ks.length → bindArgs (PySem.W.fnOf x qual params body scope .none kV doc pm an cdv ct) ⟨us, ks.zip ws⟩ = pure (ps.zip (g us ws))) :
    KBn K fd ps n ks g gV := by
  obtain ⟨oc, od, dV, kV, doc, pm, an, cdv, ct, osl, rfl, lk, hcd, hD, hK⟩ := F.ex
  rcases hD with ⟨_, rfl⟩ | ⟨e, _⟩
  · exact ⟨fun s us ws X l1 l2 => .of_eq (h kV doc pm an cdv ct us ws l1 l2), hrel⟩
  · exact absurd rfl e
/-- the same of a def with defaults of place -/
theorem fund_kb1 {g : List Value → List Value → List Value} {gV : List V → List V → List V} (F : FunD K x qual params body scope dvs kws f fd) (hd : dvs ≠ []) (n : Nat) (ks : List Str)
    (hrel : ∀ {vs : List V} {us : List Value} {zs : List V} {ws : List Value}, Vals vs us → Vals zs ws → Vals (gV vs zs) (g us ws))
    (h : ∀ (T : Addr) (kV doc pm : Value) (an : Option Addr) (cdv ct : Value) (us its ws : List Value), us.length = n → its.length = dvs.length → ws.length = ks.length →
      ∃ k, bindArgs (PySem.W.fnOf x qual params body scope (.ref T) kV doc pm an cdv ct) ⟨us, ks.zip ws⟩ = seqItems? (.ref T) >>= k ∧ k (some its.toArray) = pure (ps.zip (g us ws))) :
    KBn K fd ps n ks g gV := by
  obtain ⟨oc, od, dV, kV, doc, pm, an, cdv, ct, osl, rfl, lk, hcd, hD, hK⟩ := F.ex
  rcases hD with ⟨e, _⟩ | ⟨_, T, o, its, m, rfl, lT, oT, rT⟩
  · exact absurd e hd
  · refine ⟨fun s us ws X l1 l2 => ?_, hrel⟩
    obtain ⟨k, e1, e2⟩ := h T kV doc pm an cdv ct us its ws l1 rT.length.symm l2
    refine BindsTo.of_looks fun M => ?_
    rw [e1]
    exact looks_items X lT oT (.of_pure e2)
end

/-- what the top has left -/
structure TX (K : PySem.W.Frag) (mg : Str → Option Value) where
  a_crc8 : Addr
  d_crc8 : FuncData
  F_crc8 : FunD K "crc8" "crc8" (defArgs s_crc8) (defBody s_crc8) (defScope s_crc8) [V.int 0] [] a_crc8 d_crc8
  e2_crc8 : List Value
  v2_crc8 : Vals [] e2_crc8
  b2_crc8 : Binds K d_crc8 ["data", "start"] e2_crc8
  e1_crc8 : List Value
  v1_crc8 : Vals [V.int 0] e1_crc8
  b1_crc8 : Binds K d_crc8 ["data", "start"] e1_crc8
  k1_start_crc8 : KBn K d_crc8 ["data", "start"] 1 ["start"] (fun us ws => us ++ ws) (fun us ws => us ++ ws)
  g_crc8 : mg "crc8" = some (.ref a_crc8)
  a_crc16 : Addr
  d_crc16 : FuncData
  F_crc16 : FunD K "crc16" "crc16" (defArgs s_crc16) (defBody s_crc16) (defScope s_crc16) [V.int 0] [] a_crc16 d_crc16
  e2_crc16 : List Value
  v2_crc16 : Vals [] e2_crc16
  b2_crc16 : Binds K d_crc16 ["data", "start"] e2_crc16
  e1_crc16 : List Value
  v1_crc16 : Vals [V.int 0] e1_crc16
  b1_crc16 : Binds K d_crc16 ["data", "start"] e1_crc16
  k1_start_crc16 : KBn K d_crc16 ["data", "start"] 1 ["start"] (fun us ws => us ++ ws) (fun us ws => us ++ ws)
  g_crc16 : mg "crc16" = some (.ref a_crc16)
  a_crc32 : Addr
  d_crc32 : FuncData
  F_crc32 : FunD K "crc32" "crc32" (defArgs s_crc32) (defBody s_crc32) (defScope s_crc32) [V.int 0] [] a_crc32 d_crc32
  e2_crc32 : List Value
  v2_crc32 : Vals [] e2_crc32
  b2_crc32 : Binds K d_crc32 ["data", "start"] e2_crc32
  e1_crc32 : List Value
  v1_crc32 : Vals [V.int 0] e1_crc32
  b1_crc32 : Binds K d_crc32 ["data", "start"] e1_crc32
  k1_start_crc32 : KBn K d_crc32 ["data", "start"] 1 ["start"] (fun us ws => us ++ ws) (fun us ws => us ++ ws)
  g_crc32 : mg "crc32" = some (.ref a_crc32)
  a_divided : Addr
  d_divided : FuncData
  F_divided : Fun K "_divided" "_divided" s_divided a_divided d_divided
  b_divided : Binds K d_divided ["data", "start", "width", "steps"] []
  g_divided : mg "_divided" = some (.ref a_divided)
  a_law_draw : Addr
  d_law_draw : FuncData
  F_law_draw : Fun K "_law_draw" "_law_draw" s_law_draw a_law_draw d_law_draw
  b_law_draw : Binds K d_law_draw ["cell", "many", "bound"] []
  g_law_draw : mg "_law_draw" = some (.ref a_law_draw)
  a_law_cell : Addr
  d_law_cell : FuncData
  F_law_cell : Fun K "_law_cell" "_law_cell" s_law_cell a_law_cell d_law_cell
  b_law_cell : Binds K d_law_cell ["script", "k"] []
  g_law_cell : mg "_law_cell" = some (.ref a_law_cell)
  a_law_data : Addr
  d_law_data : FuncData
  F_law_data : Fun K "_law_data" "_law_data" s_law_data a_law_data d_law_data
  b_law_data : Binds K d_law_data ["cell", "more"] []
  g_law_data : mg "_law_data" = some (.ref a_law_data)
  a_law_remainder : Addr
  d_law_remainder : FuncData
  F_law_remainder : Fun K "_law_remainder" "_law_remainder" s_law_remainder a_law_remainder d_law_remainder
  b_law_remainder : Binds K d_law_remainder ["data", "begin", "width", "polynomial"] []
  g_law_remainder : mg "_law_remainder" = some (.ref a_law_remainder)
  a_law_told : Addr
  d_law_told : FuncData
  F_law_told : Fun K "_law_told" "_law_told" s_law_told a_law_told d_law_told
  b_law_told : Binds K d_law_told ["data", "begin", "width"] []
  g_law_told : mg "_law_told" = some (.ref a_law_told)
  a_law_bare : Addr
  d_law_bare : FuncData
  F_law_bare : Fun K "_law_bare" "_law_bare" s_law_bare a_law_bare d_law_bare
  b_law_bare : Binds K d_law_bare ["data", "width"] []
  g_law_bare : mg "_law_bare" = some (.ref a_law_bare)
  a_law_right : Addr
  d_law_right : FuncData
  F_law_right : Fun K "_law_right" "_law_right" s_law_right a_law_right d_law_right
  b_law_right : Binds K d_law_right ["actual", "expected"] []
  g_law_right : mg "_law_right" = some (.ref a_law_right)
  a_law : Addr
  d_law : FuncData
  F_law : Fun K "law" "law" s_law a_law d_law
  b_law : Binds K d_law ["script"] []
  g_law : mg "law" = some (.ref a_law)
  m_range : mg "range" = none
  m_int : mg "int" = none
  m_len : mg "len" = none
  m_isinstance : mg "isinstance" = none
  m_bool : mg "bool" = none
  m_list : mg "list" = none
  A_STEPS_8 : Addr
  c_STEPS_8 : mg "_STEPS_8" = some (.ref A_STEPS_8)
  s_STEPS_8 : ∀ H, SqT K H A_STEPS_8 [V.int 0, V.int 7, V.int 14, V.int 9, V.int 28, V.int 27, V.int 18, V.int 21, V.int 56, V.int 63, V.int 54, V.int 49, V.int 36, V.int 35, V.int 42, V.int 45]
  A_STEPS_16 : Addr
  c_STEPS_16 : mg "_STEPS_16" = some (.ref A_STEPS_16)
  s_STEPS_16 : ∀ H, SqT K H A_STEPS_16 [V.int 0, V.int 32773, V.int 32783, V.int 10, V.int 32795, V.int 30, V.int 20, V.int 32785, V.int 32819, V.int 54, V.int 60, V.int 32825, V.int 40, V.int 32813, V.int 32807, V.int 34]
  A_STEPS_32 : Addr
  c_STEPS_32 : mg "_STEPS_32" = some (.ref A_STEPS_32)
  s_STEPS_32 : ∀ H, SqT K H A_STEPS_32 [V.int 0, V.int 79764919, V.int 159529838, V.int 222504665, V.int 319059676, V.int 398814059, V.int 445009330, V.int 507990021, V.int 638119352, V.int 583659535, V.int 797628118, V.int 726387553, V.int 890018660, V.int 835552979, V.int 1015980042, V.int 944750013]
section
variable {P : Program} {w : World} {K : PySem.W.Frag} {mg : Str → Option Value} {base : Heap}
def sp_cell (K : PySem.W.Frag) : Sp := fun vs H Q _ => ∃ (a : Addr) (ns : List Int) (k : Int), vs = [.ref a, .int k] ∧ SqL K H a (ns.map V.int) ∧ 0 ≤ k ∧ RetV (.int (cellI ns k)) H Q
theorem ok_law_cell (T : TX K mg) : FnOk P w K mg base CX0 1 T.a_law_cell T.d_law_cell ["script", "k"] (sp_cell K) := by
  refine T.F_law_cell.ok sc_law_cell (fun vs H Q E h => by obtain ⟨a, ns, k, rfl, _⟩ := h; rfl) (fun cdv A outer s H vs Q E hr h => ?_)
  obtain ⟨a, ns, k, rfl, hS, hk, q⟩ := h
  refine ⟨_, (pss_cons (ps_if (pt_cmpR op_lt (pv 1) (pe_callB (r := rLenS K) call_len_seq (by rfl) T.m_len PySem.boot_len (pa_cons (pv 0) pa_nil)) (nomark _)) (pss_one (ps_ret (pe_ix (r := rIxL K) ix_list (pv 0) (pv 1) (fun _ _ => rfl)))) pss_nil)
      (pss_one (ps_ret pe_int))), ?_⟩
  have hl := (ev_lenS (K := K) (Ev.s (te := tVar 0) (σ := start ["script", "k"] [.ref a, .int k]) (ev_var rfl) hS))
  refine q_when (et_test (ev_I0 (ev_var rfl) hl)) ?_ ?_
  · intro hb H1 e1
    have hb : k < ns.length := by
      have := of_decide_eq_true hb
      rwa [List.length_map] at this
    refine s_ret (v := .int (cellI ns k)) (ev_ixS (i := 0) (n := k) (Ev.s (ev_var rfl) (ex_l e1 hS)) (ev_var rfl) ?_) fun H2 e2 => q H2 (e1.trans e2)
    exact at_of (j := k.toNat) (by omega) (at_int (cellI_in hk hb))
  · intro hb H1 e1
    have hb : ¬ k < ns.length := by
      have := of_decide_eq_false hb
      rwa [List.length_map] at this
    walk_at "ret"
    intro H2 e2
    exact ret_eq q (e1.trans e2) (by rw [cellI_out hb])
theorem ev_cell {σ : L2.St} {H : Hp} {ta tk : TE} {E : XK} {ns : List Int} {k : Int} {a : Addr} (ha : Ev ta σ H (.ref a)) (hS : SqL K H a (ns.map V.int)) (hk : Ev tk σ H (.int k)) (h0 : 0 ≤ k) : Ev (tCall (sp_cell K) [] E (tCons ta (tCons tk tNil))) σ H (.int (cellI ns k)) :=
  ev_call (ea_cons ha (ea_cons hk ea_nil)) fun H1 e Q q _ => ⟨a, ns, k, rfl, ex_l e hS, h0, q⟩
local macro_rules | `(tactic| walk_at "evown") => `(tactic| (refine' ev_cell ?h1 ?h2 ?h3 ?h4; (case h1 => exact ev_var rfl); (case h2 => walk_at "sq"); (case h3 => walk_at "ev"); (case h4 => walk_at "side")))

/-! ### int(x), bits of a number -/
theorem Ev.is {σ : L2.St} {H : Hp} {te : TE} {x y : V} (h : Ev te σ H x) (e : x = y) : Ev te σ H y := e ▸ h
theorem ev_int1 {σ : L2.St} {H : Hp} {te : TE} {i : Int} (h : Ev te σ H (.int i)) : Ev (tCB (fun xs H Q => (∃ i, xs = [V.int i] ∧ Q (V.int i) H) ∨ ∃ k, xs = [V.bl k] ∧ Q (V.int (if k = true then 1 else 0)) H) (tCons te tNil)) σ H (.int i) :=
  ev_cb (ea_cons h ea_nil) fun H1 _ Q q => .inl ⟨i, rfl, q H1 (Ex.refl H1)⟩
theorem q_augR {σ : L2.St} {H : Hp} {te : TE} {D : Ends} {tz : TS} {i : Nat} {g : Int → Int → V} {a b : Int} (h1 : σ[i]? = some (some (.int a))) (h : Ev te σ H (.int b)) (k : ∀ H1, Ex H H1 → tz D (σ.set i (some (g a b))) H1) : tSeq (tAug i te (rI0 g)) tz D σ H :=
  ⟨_, h1, h H (Ex.refl H) _ fun H1 e => ⟨a, b, rfl, rfl, k H1 e⟩⟩
theorem s_augR {σ : L2.St} {H : Hp} {te : TE} {D : Ends} {i : Nat} {g : Int → Int → V} {a b : Int} (h1 : σ[i]? = some (some (.int a))) (h : Ev te σ H (.int b)) (k : ∀ H1, Ex H H1 → D.nx (σ.set i (some (g a b))) H1) : tAug i te (rI0 g) D σ H :=
  ⟨_, h1, h H (Ex.refl H) _ fun H1 e => ⟨a, b, rfl, rfl, k H1 e⟩⟩
theorem ev_atT {K : PySem.W.Frag} {σ : L2.St} {H : Hp} {tl ti : TE} {t : Addr} {xs : List V} {n : Int} {v : V} (h : Ev tl σ H (.ref t)) (hT : SqT K H t xs) (hi : Ev ti σ H (.int n)) (ha : atI xs n = some v) : Ev (tOp (rIxT K) tl ti) σ H v := fun H1 e Q q =>
  h H1 e _ fun H2 e2 => hi H2 (e.trans e2) _ fun H3 e3 => ⟨t, xs, n, v, rfl, rfl, ex_t ((e.trans e2).trans e3) hT, ha, q H3 (e2.trans e3)⟩
local macro_rules | `(tactic| walk_at "side") => `(tactic| first
  | omega
  | (show CDivW _ _; exact ⟨by omega, by decide⟩)
  | (show CDivW _ _; exact wide_div (b := 80) (by omega) (by omega) (by decide) (by decide)))
local macro_rules | `(tactic| walk_at "evown") => `(tactic| (refine' ev_int1 ?h1; (case h1 => walk_at "ev")))
/-- numbers of the law -/
def sp_draw : Sp := fun vs H Q _ => ∃ c m b : Int, vs = [.int c, .int m, .int b] ∧ 0 ≤ m ∧ m ≤ 5000 ∧ 0 < b ∧ b ≤ 2 ^ 64 ∧ ∀ p (ns : List Int) H', H p = none → Ex H H' → H' p = some (.lst (ns.map V.int)) → (ns.length : Int) = m → (∀ n ∈ ns, 0 ≤ n ∧ n < b) → Q (.ref p) H'
theorem ok_law_draw (T : TX K mg) : FnOk P w K mg base CX0 1 T.a_law_draw T.d_law_draw ["cell", "many", "bound"] sp_draw := by
  refine T.F_law_draw.ok sc_law_draw (fun vs H Q E h => by obtain ⟨c, m, b, rfl, _⟩ := h; rfl) (fun cdv A outer s H vs Q E hr h => ?_)
  obtain ⟨c, m, b, rfl, hm0, hm, hb0, hb, k⟩ := h
  have hb' : b ≤ 18446744073709551616 := hb
  refine ⟨_, (pss_cons (ps_set (i := 3) sc_law_draw.nd rfl (Or.inl rfl) (pe_lst pa_nil))
      (pss_cons (ps_if (pt_cmpR op_ge (pv 0) (pe_op op_pow pe_int pe_int) (nomark _)) (pss_cons (ps_for PassesOwn.never rfl (pi_range1 (by rfl) T.m_range (pa_cons (pv 1) pa_nil)) (pg_name (i := 4) sc_law_draw.nd rfl (Or.inl rfl)) (pss_cons (ps_expr (pe_bm PySem.F.plainAttrs_list PySem.F.slot_list_append PySem.F.type_list_append mt_append (pv 3) (pa_cons (pe_op op_mod (pe_callTy call_int1 (by rfl) T.m_int PyProof.Rows.boot_int (pa_cons (pv 0) pa_nil)) (pv 2)) pa_nil)))
          (pss_one (ps_set (i := 0) sc_law_draw.nd rfl (Or.inl rfl) (pe_op op_fdivW (pv 0) (pv 2))))))
        (pss_one (ps_ret (pv 3)))) pss_nil)
      (pss_cons (ps_set (i := 5) sc_law_draw.nd rfl (Or.inl rfl) (pe_op op_mod (pe_callTy call_int1 (by rfl) T.m_int PyProof.Rows.boot_int (pa_cons (pv 0) pa_nil)) pe_int))
      (pss_cons (ps_for PassesOwn.never rfl (pi_range1 (by rfl) T.m_range (pa_cons (pv 1) pa_nil)) (pg_name (i := 4) sc_law_draw.nd rfl (Or.inl rfl)) (pss_cons (ps_set (i := 5) sc_law_draw.nd rfl (Or.inl rfl) (pe_op op_mod (pe_callTy call_int1 (by rfl) T.m_int PyProof.Rows.boot_int (pa_cons (pe_op op_add (pe_op op_add (pe_op op_mul (pv 5) pe_int) pe_int) (pv 4)) pa_nil)) pe_int))
        (pss_cons (ps_set (i := 6) sc_law_draw.nd rfl (Or.inl rfl) (pe_op op_mod (pe_callTy call_int1 (by rfl) T.m_int PyProof.Rows.boot_int (pa_cons (pe_op op_add (pe_op op_mul (pv 5) pe_int) (pe_op op_mul pe_int (pv 4))) pa_nil)) pe_int))
        (pss_one (ps_expr (pe_bm PySem.F.plainAttrs_list PySem.F.slot_list_append PySem.F.type_list_append mt_append (pv 3) (pa_cons (pe_op op_mod (pe_callTy call_int1 (by rfl) T.m_int PyProof.Rows.boot_int (pa_cons (pe_op op_fdivW (pv 6) pe_int) pa_nil)) (pv 2)) pa_nil)))))))
      (pss_one (ps_ret (pv 3))))))), ?_⟩
  refine q_asgL (xs := []) (el_lst ea_nil (by decide)) fun p H1 hp e1 h1 => ?_
  refine' q_when (et_test (ev_I0 ?h1 ?h2)) ?_ ?_
  case h1 => walk_at "ev"
  case h2 => exact ev_I (ev_c) (ev_c) ⟨by decide, by decide, by decide⟩
  · intro _ H2 e2
    refine q_forR1 (n := m) (ea_cons (ev_var rfl) ea_nil) ⟨hm0, by omega⟩ (fun i σ' H' => ∃ (c' : Int) (k' : Option V) (ns : List Int), σ' = [some (.int c'), some (.int m), some (.int b), some (.ref p), k', none, none] ∧ Ex H H' ∧ H' p = some (.lst (ns.map V.int)) ∧ ns.length = i ∧ ∀ n ∈ ns, 0 ≤ n ∧ n < b)
      (fun H3 e3 => ⟨c, none, [], rfl, (e1.trans e2).trans e3, e3 _ _ (e2 _ _ h1), rfl, fun n hn => by cases hn⟩) ?_ ?_
    · rintro i σ' H' hi ⟨c', k', ns, rfl, ex, hl, hn, hns⟩
      refine q_app (v := .int (c' % b)) hl (ev_var rfl) (ev_I (ev_int1 (ev_var rfl)) (ev_var rfl) hb0) (by rw [List.length_map]; omega) fun H3 e3 => ?_
      refine s_asg (v := .int (c' / b)) (ev_I (ev_var rfl) (ev_var rfl) (by walk_at "side")) fun H4 e4 => ?_
      refine ⟨c' / b, some (.int i), ns ++ [c' % b], rfl, (Ex.mut (ex.trans e3) hp).trans e4, e4 _ _ (by rw [upd_same, List.map_append]; rfl), by rw [List.length_append, hn]; rfl, fun n hn => ?_⟩
      rcases List.mem_append.mp hn with h | h
      · exact hns n h
      · cases List.mem_singleton.mp h
        exact ⟨Int.emod_nonneg _ (by omega), Int.emod_lt_of_pos _ hb0⟩
    · rintro σ' H' ⟨c', k', ns, rfl, ex, hl, hn, hns⟩
      walk_at "ret"
      intro H3 e3
      exact k p ns H3 hp (ex.trans e3) (e3 _ _ hl) (by omega) hns
  · intro _ H2 e2
    refine q_asg (v := .int (c % 2147483647)) (ev_I (ev_int1 (ev_var rfl)) ev_c (by decide)) fun H3 e3 => ?_
    refine q_forR1 (n := m) (ea_cons (ev_var rfl) ea_nil) ⟨hm0, by omega⟩ (fun i σ' H' => ∃ (k' x : Option V) (sd : Int) (ns : List Int), σ' = [some (.int c), some (.int m), some (.int b), some (.ref p), k', some (.int sd), x] ∧ Ex H H' ∧ H' p = some (.lst (ns.map V.int)) ∧ ns.length = i ∧ ∀ n ∈ ns, 0 ≤ n ∧ n < b)
      (fun H4 e4 => ⟨none, none, _, [], rfl, ((e1.trans e2).trans e3).trans e4, e4 _ _ (e3 _ _ (e2 _ _ h1)), rfl, fun n hn => by cases hn⟩) ?_ ?_
    · rintro i σ' H' hi ⟨k', x, sd, ns, rfl, ex, hl, hn, hns⟩
      refine q_asg (v := .int ((sd * 48271 + 12345 + (i : Int)) % 2147483647)) (ev_I (ev_int1 (ev_I0 (ev_I0 (ev_I (ev_var rfl) ev_c (.inr (by decide))) ev_c) (ev_var rfl))) ev_c (by decide)) fun H4 e4 => ?_
      generalize (sd * 48271 + 12345 + (i : Int)) % 2147483647 = sd2
      refine q_asg (v := .int ((sd2 * 69621 + 977 * (i : Int)) % 2147483629)) (ev_I (ev_int1 (ev_I0 (ev_I (ev_var rfl) ev_c (.inr (by decide))) (ev_I ev_c (ev_var rfl) (.inl (by decide))))) ev_c (by decide)) fun H5 e5 => ?_
      generalize (sd2 * 69621 + 977 * (i : Int)) % 2147483629 = mx
      refine s_app (v := .int (mx / 3 % b)) (e5 _ _ (e4 _ _ hl)) (ev_var rfl) (ev_I (ev_int1 (ev_I (ev_var rfl) ev_c ⟨by decide, by decide⟩)) (ev_var rfl) hb0) (by rw [List.length_map]; omega) fun H6 e6 => ?_
      refine ⟨_, _, sd2, ns ++ [mx / 3 % b], rfl, Ex.mut (((ex.trans e4).trans e5).trans e6) hp, by rw [upd_same, List.map_append]; rfl, by rw [List.length_append, hn]; rfl, fun n hn => ?_⟩
      rcases List.mem_append.mp hn with h | h
      · exact hns n h
      · cases List.mem_singleton.mp h
        exact ⟨Int.emod_nonneg _ (by omega), Int.emod_lt_of_pos _ hb0⟩
    · rintro σ' H' ⟨k', x, sd, ns, rfl, ex, hl, hn, hns⟩
      walk_at "ret"
      intro H4 e4
      exact k p ns H4 hp (ex.trans e4) (e4 _ _ hl) (by omega) hns
/-- numbers from 0 on, as such -/
def cs (ds : List Nat) : List Int := ds.map fun d : Nat => (d : Int)
theorem cs_of {ns : List Int} {b : Int} (h : ∀ n ∈ ns, 0 ≤ n ∧ n < b) : ∃ ds : List Nat, ns = cs ds ∧ ds.length = ns.length ∧ ∀ d ∈ ds, (d : Int) < b := by
  refine ⟨ns.map Int.toNat, ?_, List.length_map .., fun d hd => ?_⟩
  · unfold cs
    rw [List.map_map]
    conv => lhs; rw [← List.map_id ns]
    refine List.map_congr_left fun n hn => ?_
    have := (h n hn).1
    show n = ((n.toNat : Nat) : Int)
    omega
  · obtain ⟨n, hn, rfl⟩ := List.mem_map.mp hd
    have := h n hn
    omega
theorem cs_len (ds : List Nat) : (cs ds).length = ds.length := List.length_map ..
theorem cs_at {ds : List Nat} {i : Nat} {d : Nat} (h : ds[i]? = some d) : (cs ds)[i]? = some (d : Int) := by unfold cs; rw [List.getElem?_map, h]; rfl
theorem cs_take (ds : List Nat) (i : Nat) : (cs ds).take i = cs (ds.take i) := by unfold cs; rw [List.map_take]
theorem cs_drop (ds : List Nat) (i : Nat) : (cs ds).drop i = cs (ds.drop i) := by unfold cs; rw [List.map_drop]
theorem cs_append (ds es : List Nat) : cs (ds ++ es) = cs ds ++ cs es := List.map_append ..

/-! ### division of polynomials, as functions of a place -/
abbrev Bits := Nat → Bool
def Bst (P A : Bits) : Bits := fun j => A (j + 1) ^^ (A 0 && P j)
def Ast (P A : Bits) (m : Bool) : Bits := fun j => A (j + 1) ^^ ((A 0 ^^ m) && P j)
def Arun (P : Bits) : Bits → List Bool → Bits
  | A, [] => A
  | A, m :: ms => Arun P (Ast P A m) ms
def inj (ms : List Bool) : Bits := fun j => ms.getD j false
def xf (A B : Bits) : Bits := fun j => A j ^^ B j
def Bn (P : Bits) : Bits → Nat → Bits
  | A, 0 => A
  | A, n + 1 => Bn P (Bst P A) n
theorem xf_nil (A : Bits) : xf A (inj []) = A := by
  funext j
  unfold xf inj
  rw [List.getD_nil, Bool.xor_false]
theorem Arun_eq (P : Bits) : ∀ (ms : List Bool) (A : Bits), Arun P A ms = Bn P (xf A (inj ms)) ms.length
  | [], A => by rw [xf_nil]; rfl
  | m :: ms, A => by
    show Arun P (Ast P A m) ms = Bn P (Bst P (xf A (inj (m :: ms)))) ms.length
    rw [Arun_eq P ms]
    congr 1
    funext j
    show ((A (j + 1) ^^ ((A 0 ^^ m) && P j)) ^^ ms.getD j false) = ((A (j + 1) ^^ ms.getD j false) ^^ ((A 0 ^^ m) && P j))
    generalize A (j + 1) = x
    generalize ((A 0 ^^ m) && P j) = y
    generalize ms.getD j false = z
    revert x y z
    decide
theorem Arun_append (P : Bits) : ∀ (ms ns : List Bool) (A : Bits), Arun P A (ms ++ ns) = Arun P (Arun P A ms) ns
  | [], _, _ => rfl
  | m :: ms, ns, A => Arun_append P ms ns (Ast P A m)
theorem Bst_xf (P A B : Bits) : Bst P (xf A B) = xf (Bst P A) (Bst P B) := by
  funext j
  show ((A (j + 1) ^^ B (j + 1)) ^^ ((A 0 ^^ B 0) && P j)) = ((A (j + 1) ^^ (A 0 && P j)) ^^ (B (j + 1) ^^ (B 0 && P j)))
  generalize A (j + 1) = a
  generalize B (j + 1) = b
  generalize A 0 = c
  generalize B 0 = d
  generalize P j = e
  revert a b c d e
  decide
theorem Bn_xf (P : Bits) : ∀ (n : Nat) (A B : Bits), Bn P (xf A B) n = xf (Bn P A n) (Bn P B n)
  | 0, _, _ => rfl
  | n + 1, A, B => by
    show Bn P (Bst P (xf A B)) n = xf (Bn P (Bst P A) n) (Bn P (Bst P B) n)
    rw [Bst_xf, Bn_xf P n]
def Supp (w : Nat) (A : Bits) : Prop := ∀ j, w ≤ j → A j = false
theorem Bst_supp {w : Nat} {P A : Bits} (hP : Supp w P) (hA : Supp w A) : Supp w (Bst P A) := fun j hj => by
  show (A (j + 1) ^^ (A 0 && P j)) = false
  rw [hA _ (by omega), hP _ hj, Bool.and_false]
  rfl
theorem Bn_supp {w : Nat} {P : Bits} (hP : Supp w P) : ∀ (n : Nat) {A : Bits}, Supp w A → Supp w (Bn P A n)
  | 0, _, h => h
  | n + 1, _, h => Bn_supp hP n (Bst_supp hP h)
/-- the bits of a register, the highest first -/
def reg (w r : Nat) : Bits := fun j => decide (j < w) && r.testBit (w - 1 - j)
theorem reg_supp (w r : Nat) : Supp w (reg w r) := fun j hj => by
  unfold reg
  rw [decide_eq_false (by omega), Bool.false_and]
theorem reg_xor (w r s : Nat) : reg w (r ^^^ s) = xf (reg w r) (reg w s) := by
  funext j
  show (decide (j < w) && (r ^^^ s).testBit (w - 1 - j)) = ((decide (j < w) && r.testBit (w - 1 - j)) ^^ (decide (j < w) && s.testBit (w - 1 - j)))
  rw [Nat.testBit_xor]
  cases decide (j < w)
  · rfl
  · rfl
def topn (n : Nat) : Bits := fun j => decide (j < 4) && n.testBit (3 - j)
/-- half a byte at once -/
def nib (w : Nat) (T : List Nat) (r : Nat) : Nat := ((r % 2 ^ (w - 4)) * 16) ^^^ T.getD (r / 2 ^ (w - 4) % 16) 0
theorem Bst_shift {P A : Bits} (h : A 0 = false) : Bst P A = fun j => A (j + 1) := by
  funext j
  show (A (j + 1) ^^ (A 0 && P j)) = _
  rw [h, Bool.false_and, Bool.xor_false]
theorem nib_ok {w : Nat} {T : List Nat} {P : Bits} (hw : 8 ≤ w) (hP : Supp w P) (hT : ∀ n, n < 16 → ∀ j, j < w → reg w (T.getD n 0) j = Bn P (topn n) 4 j) {r : Nat} (hr : r < 2 ^ w) : reg w (nib w T r) = Bn P (reg w r) 4 := by
  have hd : reg w r = xf (topn (r / 2 ^ (w - 4) % 16)) (fun j => decide (4 ≤ j) && reg w r j) := by
    funext j
    show (decide (j < w) && r.testBit (w - 1 - j)) = ((decide (j < 4) && (r / 2 ^ (w - 4) % 16).testBit (3 - j)) ^^ (decide (4 ≤ j) && (decide (j < w) && r.testBit (w - 1 - j))))
    by_cases h4 : j < 4
    · rw [decide_eq_true h4, decide_eq_true (show j < w by omega), decide_eq_false (show ¬ 4 ≤ j by omega), Bool.true_and, Bool.true_and, Bool.false_and, Bool.xor_false]
      have e16 : (16 : Nat) = 2 ^ 4 := rfl
      rw [e16, Nat.testBit_mod_two_pow, Nat.testBit_div_two_pow, decide_eq_true (show 3 - j < 4 by omega), Bool.true_and, show 3 - j + (w - 4) = w - 1 - j by omega]
    · rw [decide_eq_false h4, decide_eq_true (show 4 ≤ j by omega), Bool.false_and, Bool.false_xor, Bool.true_and]
  have hn : r / 2 ^ (w - 4) % 16 < 16 := Nat.mod_lt _ (by decide)
  have hTt : reg w (T.getD (r / 2 ^ (w - 4) % 16) 0) = Bn P (topn (r / 2 ^ (w - 4) % 16)) 4 := by
    funext j
    by_cases hj : j < w
    · exact hT _ hn j hj
    · rw [reg_supp w _ j (by omega), Bn_supp hP 4 (fun j hj => by unfold topn; rw [decide_eq_false (by omega), Bool.false_and]) j (by omega)]
  have hs : Bn P (fun j => decide (4 ≤ j) && reg w r j) 4 = fun j => reg w r (j + 4) := by
    show Bst P (Bst P (Bst P (Bst P _))) = _
    rw [Bst_shift rfl, Bst_shift rfl, Bst_shift rfl, Bst_shift rfl]
    funext j
    show (decide (4 ≤ j + 1 + 1 + 1 + 1) && reg w r (j + 1 + 1 + 1 + 1)) = _
    rw [decide_eq_true (by omega), Bool.true_and]
  conv => rhs; rw [hd]
  rw [Bn_xf, ← hTt, hs]
  unfold nib
  rw [reg_xor]
  funext j
  show (reg w (r % 2 ^ (w - 4) * 16) j ^^ reg w (T.getD (r / 2 ^ (w - 4) % 16) 0) j) = (reg w (T.getD (r / 2 ^ (w - 4) % 16) 0) j ^^ reg w r (j + 4))
  rw [Bool.xor_comm]
  congr 1
  unfold reg
  have e16 : (16 : Nat) = 2 ^ 4 := rfl
  rw [e16, Nat.testBit_mul_two_pow, Nat.testBit_mod_two_pow]
  by_cases h1 : j + 4 < w
  · rw [decide_eq_true (show j < w by omega), decide_eq_true h1, decide_eq_true (show 4 ≤ w - 1 - j by omega), decide_eq_true (show w - 1 - j - 4 < w - 4 by omega), show w - 1 - j - 4 = w - 1 - (j + 4) by omega]
    simp
  · rw [decide_eq_false h1, decide_eq_false (show ¬ 4 ≤ w - 1 - j by omega)]
    simp
theorem nib_lt {w : Nat} {T : List Nat} (hw : 8 ≤ w) (hT : ∀ n, n < 16 → T.getD n 0 < 2 ^ w) (r : Nat) : nib w T r < 2 ^ w := by
  unfold nib
  refine Nat.xor_lt_two_pow ?_ (hT _ (Nat.mod_lt _ (by decide)))
  have h1 : r % 2 ^ (w - 4) < 2 ^ (w - 4) := Nat.mod_lt _ (Nat.two_pow_pos _)
  have h2 : 2 ^ w = 2 ^ (w - 4) * 16 := by
    rw [show (16 : Nat) = 2 ^ 4 from rfl, ← Nat.pow_add, show w - 4 + 4 = w by omega]
  rw [h2]
  exact Nat.mul_lt_mul_of_pos_right h1 (by decide)
/-- the bits of a byte -/
def bits8 (b : Nat) : List Bool := (List.range 8).map fun k => b.testBit (7 - k)
theorem bits8_len (b : Nat) : (bits8 b).length = 8 := rfl
theorem byte_in {w b r : Nat} (hw : 8 ≤ w) (hb : b < 256) : reg w (r ^^^ (b * 2 ^ (w - 8))) = xf (reg w r) (inj (bits8 b)) := by
  rw [reg_xor]
  congr 1
  funext j
  unfold reg inj bits8
  rw [Nat.testBit_mul_two_pow, List.getD_eq_getElem?_getD, List.getElem?_map]
  by_cases h : j < 8
  · rw [List.getElem?_range h, decide_eq_true (show j < w by omega), decide_eq_true (show w - 8 ≤ w - 1 - j by omega), show w - 1 - j - (w - 8) = 7 - j by omega]
    rfl
  · rw [List.getElem?_eq_none (by rw [List.length_range]; omega)]
    by_cases h2 : j < w
    · rw [decide_eq_false (show ¬ w - 8 ≤ w - 1 - j by omega)]
      simp
    · rw [decide_eq_false h2]
      rfl
def stp (w : Nat) (T : List Nat) (r b : Nat) : Nat := nib w T (nib w T (r ^^^ (b * 2 ^ (w - 8))))
def crcN (w : Nat) (T : List Nat) (r : Nat) (ds : List Nat) : Nat := ds.foldl (stp w T) r
structure Tab (w p : Nat) (T : List Nat) : Prop where
  w8 : 8 ≤ w
  bd : ∀ n, n < 16 → T.getD n 0 < 2 ^ w
  ok : ∀ n, n < 16 → ∀ j, j < w → reg w (T.getD n 0) j = Bn (reg w p) (topn n) 4 j
theorem xor_bd {w r b : Nat} (hw : 8 ≤ w) (hr : r < 2 ^ w) (hb : b < 256) : r ^^^ (b * 2 ^ (w - 8)) < 2 ^ w := by
  refine Nat.xor_lt_two_pow hr ?_
  have h2 : 2 ^ w = 256 * 2 ^ (w - 8) := by
    rw [show (256 : Nat) = 2 ^ 8 from rfl, ← Nat.pow_add, show 8 + (w - 8) = w by omega]
  rw [h2]
  exact Nat.mul_lt_mul_of_pos_right hb (Nat.two_pow_pos _)
theorem stp_lt {w p : Nat} {T : List Nat} (t : Tab w p T) (r b : Nat) : stp w T r b < 2 ^ w := nib_lt t.w8 t.bd _
theorem stp_ok {w p : Nat} {T : List Nat} (t : Tab w p T) {r b : Nat} (hr : r < 2 ^ w) (hb : b < 256) : reg w (stp w T r b) = Arun (reg w p) (reg w r) (bits8 b) := by
  rw [Arun_eq, bits8_len, ← byte_in t.w8 hb]
  unfold stp
  rw [nib_ok t.w8 (reg_supp w p) t.ok (nib_lt t.w8 t.bd _), nib_ok t.w8 (reg_supp w p) t.ok (xor_bd t.w8 hr hb)]
  rfl
theorem crcN_ok {w p : Nat} {T : List Nat} (t : Tab w p T) : ∀ (ds : List Nat) (r : Nat), r < 2 ^ w → (∀ d ∈ ds, d < 256) → crcN w T r ds < 2 ^ w ∧ reg w (crcN w T r ds) = Arun (reg w p) (reg w r) (ds.flatMap bits8)
  | [], r, hr, _ => ⟨hr, rfl⟩
  | d :: ds, r, hr, h => by
    have ih := crcN_ok t ds (stp w T r d) (stp_lt t r d) fun x hx => h x (List.mem_cons_of_mem _ hx)
    rw [List.flatMap_cons, Arun_append, ← stp_ok t hr (h d (List.mem_cons_self ..))]
    exact ih
def T8 : List Nat := [0, 7, 14, 9, 28, 27, 18, 21, 56, 63, 54, 49, 36, 35, 42, 45]
def T16 : List Nat := [0, 32773, 32783, 10, 32795, 30, 20, 32785, 32819, 54, 60, 32825, 40, 32813, 32807, 34]
def T32 : List Nat := [0, 79764919, 159529838, 222504665, 319059676, 398814059, 445009330, 507990021, 638119352, 583659535, 797628118, 726387553, 890018660, 835552979, 1015980042, 944750013]
theorem tab8 : Tab 8 7 T8 := ⟨by decide, by decide +kernel, by decide +kernel⟩
theorem tab16 : Tab 16 32773 T16 := ⟨by decide, by decide +kernel, by decide +kernel⟩
theorem tab32 : Tab 32 79764919 T32 := ⟨by decide, by decide +kernel, by decide +kernel⟩
/-- two registers with the same bits -/
theorem reg_inj {w r s : Nat} (hr : r < 2 ^ w) (hs : s < 2 ^ w) (h : ∀ j, j < w → reg w r j = reg w s j) : r = s := by
  refine Nat.eq_of_testBit_eq fun i => ?_
  by_cases hi : i < w
  · have := h (w - 1 - i) (by omega)
    unfold reg at this
    rw [decide_eq_true (by omega), Bool.true_and, Bool.true_and, show w - 1 - (w - 1 - i) = i by omega] at this
    exact this
  · rw [Nat.testBit_lt_two_pow (Nat.lt_of_lt_of_le hr (Nat.pow_le_pow_right (by decide) (by omega))), Nat.testBit_lt_two_pow (Nat.lt_of_lt_of_le hs (Nat.pow_le_pow_right (by decide) (by omega)))]
/-! ### the division in a row of bits -/
def b2 (b : Bool) : Int := if b then 1 else 0
theorem b2_xor (a b : Bool) : Builtin.bitXor (b2 a) (b2 b) = b2 (a ^^ b) := by
  cases a <;> cases b <;> decide +kernel
theorem b2_bit (n i : Nat) : Builtin.bitAnd ((n : Int) / 2 ^ i) 1 = b2 (n.testBit i) := by
  have h1 : ((n : Int) / 2 ^ i) = ((n / 2 ^ i : Nat) : Int) := by
    rw [Int.natCast_ediv, Int.natCast_pow]
    rfl
  have h2 := _root_.Bits.bitAnd_mask (x := ((n / 2 ^ i : Nat) : Int)) 1 (Int.natCast_nonneg _)
  rw [h1]
  rw [show ((2 : Int) ^ 1 - 1) = 1 from rfl] at h2
  rw [h2, Nat.testBit_eq_decide_div_mod_eq]
  unfold b2
  by_cases h : n / 2 ^ i % 2 = 1
  · rw [decide_eq_true h, if_pos rfl]
    omega
  · rw [decide_eq_false h, if_neg (by decide)]
    omega
/-- a row of n bits -/
def row (n : Nat) (f : Bits) : List Int := (List.range n).map fun i => b2 (f i)
theorem row_len (n : Nat) (f : Bits) : (row n f).length = n := by unfold row; rw [List.length_map, List.length_range]
theorem row_at {n : Nat} {f : Bits} {i : Nat} (h : i < n) : (row n f)[i]? = some (b2 (f i)) := by
  unfold row
  rw [List.getElem?_map, List.getElem?_range h]
  rfl
theorem row_set {n : Nat} {f : Bits} {i : Nat} {x : Bool} : (row n f).set i (b2 x) = row n (fun j => if j = i then x else f j) := by
  refine List.ext_getElem? fun j => ?_
  by_cases hj : j < n
  · rw [row_at hj, List.getElem?_set]
    by_cases hi : i = j
    · subst hi
      rw [if_pos rfl, if_pos (by rw [row_len]; exact hj), if_pos rfl]
    · rw [if_neg hi, row_at hj, if_neg (fun e => hi e.symm)]
  · rw [List.getElem?_eq_none (by rw [List.length_set, row_len]; omega), List.getElem?_eq_none (by rw [row_len]; omega)]
theorem row_congr {n : Nat} {f g : Bits} (h : ∀ i, i < n → f i = g i) : row n f = row n g := by
  unfold row
  exact List.map_congr_left fun i hi => by rw [h i (List.mem_range.mp hi)]
/-- the k-th step -/
def lstep (P : Bits) (w k : Nat) (f : Bits) : Bits := if f k = true then fun i => if i = k then false else (f i ^^ (decide (k < i) && decide (i ≤ k + w) && P (i - (k + 1)))) else f
def lrun (P : Bits) (w : Nat) (f : Bits) : Nat → Bits
  | 0 => f
  | k + 1 => lstep P w k (lrun P w f k)
theorem lrun_ok {P : Bits} {w : Nat} (hP : Supp w P) (ms : List Bool) (A : Bits) : ∀ k, k ≤ ms.length → ∀ i, k ≤ i → lrun P w (fun i => ms.getD i false ^^ A i) k i = (ms.getD i false ^^ Arun P A (ms.take k) (i - k))
  | 0, _, i, _ => by rw [List.take_zero]; rfl
  | k + 1, hk, i, hi => by
    have ih := lrun_ok hP ms A k (by omega)
    have hm : ms.take (k + 1) = ms.take k ++ [ms.getD k false] := by
      rw [List.take_add_one, List.getD_eq_getElem?_getD, List.getElem?_eq_getElem (by omega)]
      rfl
    rw [hm, Arun_append]
    show lstep P w k (lrun P w _ k) i = (ms.getD i false ^^ Ast P (Arun P A (ms.take k)) (ms.getD k false) (i - (k + 1)))
    have h0 := ih k (Nat.le_refl _)
    have h1 := ih i (by omega)
    rw [Nat.sub_self] at h0
    generalize lrun P w (fun i => ms.getD i false ^^ A i) k = f at *
    generalize Arun P A (ms.take k) = B at *
    unfold lstep Ast
    have hp : (decide (k < i) && decide (i ≤ k + w) && P (i - (k + 1))) = P (i - (k + 1)) := by
      rw [decide_eq_true (by omega : k < i), Bool.true_and]
      by_cases h : i ≤ k + w
      · rw [decide_eq_true h, Bool.true_and]
      · rw [decide_eq_false h, hP _ (by omega)]
        rfl
    have hsub : i - (k + 1) + 1 = i - k := by omega
    rw [hsub]
    by_cases ht : f k = true
    · rw [if_pos ht]
      show (if i = k then false else (f i ^^ (decide (k < i) && decide (i ≤ k + w) && P (i - (k + 1))))) = _
      rw [if_neg (by omega), hp, h1]
      rw [h0] at ht
      have hx : (B 0 ^^ ms.getD k false) = true := by rw [Bool.xor_comm]; exact ht
      rw [hx, Bool.true_and, Bool.xor_assoc]
    · rw [if_neg ht, h1]
      rw [h0] at ht
      have hx : (B 0 ^^ ms.getD k false) = false := by
        rw [Bool.xor_comm]
        exact Bool.eq_false_iff.mpr ht
      rw [hx, Bool.false_and, Bool.xor_false]
/-- the value of bits, the highest first -/
def valb (f : Bits) : Nat → Nat
  | 0 => 0
  | n + 1 => 2 * valb f n + (f n).toNat
theorem valb_reg {w r : Nat} (hr : r < 2 ^ w) : ∀ n, n ≤ w → valb (reg w r) n = r / 2 ^ (w - n)
  | 0, _ => by
    rw [Nat.sub_zero, Nat.div_eq_of_lt hr]
    rfl
  | n + 1, h => by
    show 2 * valb (reg w r) n + (reg w r n).toNat = _
    rw [valb_reg hr n (by omega)]
    unfold reg
    rw [decide_eq_true (by omega), Bool.true_and, Nat.testBit_eq_decide_div_mod_eq, show w - 1 - n = w - (n + 1) by omega, show w - n = (w - (n + 1)) + 1 by omega, Nat.pow_succ, ← Nat.div_div_eq_div_mul]
    have := Nat.mod_two_eq_zero_or_one (r / 2 ^ (w - (n + 1)))
    rcases this with h | h
    · rw [h]
      show _ + 0 = _
      omega
    · rw [h]
      show _ + 1 = _
      omega
theorem valb_congr {f g : Bits} : ∀ n, (∀ i, i < n → f i = g i) → valb f n = valb g n
  | 0, _ => rfl
  | n + 1, h => by
    show 2 * valb f n + (f n).toNat = 2 * valb g n + (g n).toNat
    rw [valb_congr n fun i hi => h i (by omega), h n (by omega)]

theorem T8_len : T8.length = 16 := rfl
theorem T16_len : T16.length = 16 := rfl
theorem T32_len : T32.length = 16 := rfl
theorem nib_int {w : Nat} (T : List Nat) (r : Nat) : Builtin.bitXor (Builtin.bitAnd (r : Int) (1 * 2 ^ (w - 4) - 1) * 2 ^ 4) ((T.getD (r / 2 ^ (w - 4) % 16) 0 : Nat) : Int) = ((nib w T r : Nat) : Int) := by
  rw [Int.one_mul, _root_.Bits.bitAnd_mask _ (by omega)]
  have h1 : (r : Int) % 2 ^ (w - 4) * 2 ^ 4 = ((r % 2 ^ (w - 4) * 16 : Nat) : Int) := by
    rw [Int.natCast_mul, Int.natCast_emod, Int.natCast_pow]
    rfl
  rw [h1, _root_.Bits.bitXor_pp (by omega) (by omega)]
  rfl
theorem ix_int {w r : Nat} : Builtin.bitAnd ((r : Int) / 2 ^ (w - 4)) 15 = ((r / 2 ^ (w - 4) % 16 : Nat) : Int) := by
  have h1 : (r : Int) / 2 ^ (w - 4) = ((r / 2 ^ (w - 4) : Nat) : Int) := by
    rw [Int.natCast_ediv, Int.natCast_pow]
    rfl
  rw [h1]
  have h2 := _root_.Bits.bitAnd_mask (x := ((r / 2 ^ (w - 4) : Nat) : Int)) 4 (Int.natCast_nonneg _)
  rw [show ((2 : Int) ^ 4 - 1) = 15 from rfl] at h2
  rw [h2]
  rfl
theorem tab_at {T : List Nat} (hT : T.length = 16) (n : Nat) : atI ((cs T).map V.int) ((n % 16 : Nat) : Int) = some (.int ((T.getD (n % 16) 0 : Nat) : Int)) := by
  refine at_of rfl (at_int (cs_at ?_))
  rw [List.getD_eq_getElem?_getD, List.getElem?_eq_getElem (by omega)]
  rfl
theorem ev_nib {K : PySem.W.Frag} {σ : L2.St} {H : Hp} {t1 t2 t3 t4 t5 : TE} {w r : Nat} {T : List Nat} {p : Addr} (hT : T.length = 16) (hw : 8 ≤ w) (hw2 : w ≤ 32)
    (h1 : Ev t1 σ H (.int (r : Int))) (h2 : Ev t2 σ H (.int (1 * 2 ^ (w - 4) - 1))) (h3 : Ev t3 σ H (.ref p)) (hp : SqT K H p ((cs T).map V.int)) (h4 : Ev t4 σ H (.int (r : Int))) (h5 : Ev t5 σ H (.int (((w - 4 : Nat) : Int)))) :
    Ev (tOp (rI0 fun i j => .int (Builtin.bitXor i j)) (tOp (rI CPow fun i j => .int (i * 2 ^ j.toNat)) (tOp (rI0 fun i j => .int (Builtin.bitAnd i j)) t1 t2) (tC (.int 4))) (tOp (rIxT K) t3 (tOp (rI0 fun i j => .int (Builtin.bitAnd i j)) (tOp (rI (fun _ j => 0 ≤ j) fun i j => .int (i / 2 ^ j.toNat)) t4 t5) (tC (.int 15))))) σ H (.int ((nib w T r : Nat) : Int)) := by
  refine Ev.is (ev_I0 (ev_I (j := 4) (ev_I0 h1 h2) ev_c ⟨by decide, by decide, ?_⟩) (ev_atT (n := ((r / 2 ^ (w - 4) % 16 : Nat) : Int)) h3 hp (Ev.is (ev_I0 (ev_I h4 h5 (by show (0 : Int) ≤ _; omega)) ev_c) ?_) (tab_at hT _))) ?_
  · rw [Int.one_mul, _root_.Bits.bitAnd_mask _ (by omega)]
    have h1 : (r : Int) % 2 ^ (w - 4) = ((r % 2 ^ (w - 4) : Nat) : Int) := by
      rw [Int.natCast_emod, Int.natCast_pow]
      rfl
    rw [h1, Int.natAbs_natCast]
    exact Nat.lt_of_lt_of_le (Nat.mod_lt _ (Nat.two_pow_pos _)) (Nat.pow_le_pow_right (by decide) (by omega))
  · rw [Int.toNat_natCast, ix_int]
  · exact congrArg V.int (nib_int T r)
def sp_div (K : PySem.W.Frag) : Sp := fun vs H Q _ => ∃ (a t : Addr) (ds T : List Nat) (r w p : Nat), vs = [.ref a, .int (r : Int), .int (w : Int), .ref t] ∧ SqL K H a ((cs ds).map V.int) ∧ SqT K H t ((cs T).map V.int) ∧ T.length = 16 ∧ Tab w p T ∧ w ≤ 32 ∧ r < 2 ^ w ∧ (∀ d ∈ ds, d < 256) ∧ RetV (.int ((crcN w T r ds : Nat) : Int)) H Q
theorem crcN_snoc (w : Nat) (T : List Nat) (r : Nat) (ds : List Nat) (d : Nat) : crcN w T r (ds ++ [d]) = stp w T (crcN w T r ds) d := by
  unfold crcN
  rw [List.foldl_append]
  rfl
theorem ok_divided (T : TX K mg) : FnOk P w K mg base CX0 1 T.a_divided T.d_divided ["data", "start", "width", "steps"] (sp_div K) := by
  refine T.F_divided.ok sc_divided (fun vs H Q E h => by obtain ⟨a, t, ds, T, r, w, p, rfl, _⟩ := h; rfl) (fun cdv A outer s H vs Q E hr h => ?_)
  obtain ⟨a, t, ds, tb, r, wd, pl, rfl, hS, hT, hT16, tab, hw32, hrw, hds, k⟩ := h
  have hw8 := tab.w8
  refine ⟨_, (pss_cons (ps_set (i := 4) sc_divided.nd rfl (Or.inl rfl) (pv 1))
      (pss_cons (ps_set (i := 5) sc_divided.nd rfl (Or.inl rfl) (pe_op op_sub (pv 2) pe_int))
      (pss_cons (ps_set (i := 6) sc_divided.nd rfl (Or.inl rfl) (pe_op op_sub (pe_op op_shl pe_int (pv 5)) pe_int))
      (pss_cons (ps_for PassesOwn.never rfl (pi_list (pv 0)) (pg_name (i := 7) sc_divided.nd rfl (Or.inl rfl)) (pss_cons (ps_aug (i := 4) sc_divided.nd rfl (Or.inl rfl) (pe_op op_shl (pv 7) (pe_op op_sub (pv 2) pe_int)) iop_xor)
        (pss_cons (ps_set (i := 4) sc_divided.nd rfl (Or.inl rfl) (pe_op op_xor (pe_op op_shl (pe_op op_and (pv 4) (pv 6)) pe_int) (pe_ix (r := rIxT K) ix_tup (pv 3) (pe_op op_and (pe_op op_shr (pv 4) (pv 5)) pe_int) (fun _ _ => rfl))))
        (pss_one (ps_set (i := 4) sc_divided.nd rfl (Or.inl rfl) (pe_op op_xor (pe_op op_shl (pe_op op_and (pv 4) (pv 6)) pe_int) (pe_ix (r := rIxT K) ix_tup (pv 3) (pe_op op_and (pe_op op_shr (pv 4) (pv 5)) pe_int) (fun _ _ => rfl))))))))
      (pss_one (ps_ret (pv 4))))))), ?_⟩
  walk_at "asg"
  intro H1 e1
  refine q_asg (v := .int ((wd - 4 : Nat) : Int)) (Ev.is (ev_I0 (ev_var rfl) ev_c) (congrArg V.int (by omega))) fun H2 e2 => ?_
  refine q_asg (v := .int (1 * 2 ^ (wd - 4) - 1)) (ev_I0 (ev_I ev_c (ev_var rfl) (show CPow 1 ((wd - 4 : Nat) : Int) from ⟨by omega, by omega, by decide⟩)) ev_c) fun H3 e3 => ?_
  refine q_forLn (xs := (cs ds).map V.int) (a := a) (ev_var rfl) (ex_l ((e1.trans e2).trans e3) hS) (fun i σ' H' => ∃ c, σ' = [some (.ref a), some (.int (r : Int)), some (.int (wd : Int)), some (.ref t), some (.int ((crcN wd tb r (ds.take i) : Nat) : Int)), some (.int ((wd - 4 : Nat) : Int)), some (.int (1 * 2 ^ (wd - 4) - 1)), c] ∧ Ex H H')
    (fun H4 e4 => ⟨none, rfl, ((e1.trans e2).trans e3).trans e4⟩) (fun i σ' H' _ h => by obtain ⟨_, _, e⟩ := h; exact ex_l e hS) ?_ ?_
  · rintro i x σ' H' hx ⟨c, rfl, ex⟩
    obtain ⟨n, hn, hi, rfl⟩ := int_at hx
    rw [cs_len] at hi
    have hd : ds[i]? = some ds[i] := List.getElem?_eq_getElem hi
    have hn2 := cs_at hd
    rw [hn] at hn2
    have hn2 := Option.some.inj hn2
    have hd256 : ds[i] < 256 := hds _ (List.getElem_mem hi)
    rw [show ds.take (i + 1) = ds.take i ++ [ds[i]] from by rw [List.take_add_one, hd]; rfl, crcN_snoc]
    have hr1 := (crcN_ok tab (ds.take i) r hrw fun d hd => hds d (List.mem_of_mem_take hd)).1
    generalize crcN wd tb r (ds.take i) = r1 at *
    generalize ds[i] = d at *
    subst hn2
    refine q_augR (a := (r1 : Int)) (b := ((d * 2 ^ (wd - 8) : Nat) : Int)) rfl (Ev.is (ev_I (ev_var rfl) (ev_I0 (ev_var rfl) ev_c) (show CPow (d : Int) ((wd : Int) - 8) from ⟨by omega, by omega, by rw [Int.natAbs_natCast]; omega⟩)) ?_) fun H4 e4 => ?_
    · rw [show ((wd : Int) - 8).toNat = wd - 8 by omega, Int.natCast_mul, Int.natCast_pow]
      rfl
    rw [show Builtin.bitXor (r1 : Int) ((d * 2 ^ (wd - 8) : Nat) : Int) = ((r1 ^^^ (d * 2 ^ (wd - 8)) : Nat) : Int) from _root_.Bits.bitXor_pp (by omega) (by omega)]
    refine q_asg (ev_nib hT16 hw8 hw32 (ev_var rfl) (ev_var rfl) (ev_var rfl) (ex_t (ex.trans e4) hT) (ev_var rfl) (ev_var rfl)) fun H5 e5 => ?_
    refine s_asg (ev_nib hT16 hw8 hw32 (ev_var rfl) (ev_var rfl) (ev_var rfl) (ex_t ((ex.trans e4).trans e5) hT) (ev_var rfl) (ev_var rfl)) fun H6 e6 => ?_
    exact ⟨_, rfl, ((ex.trans e4).trans e5).trans e6⟩
  · rintro σ' H' ⟨c, rfl, ex⟩
    walk_at "ret"
    intro H4 e4
    refine ret_eq k (ex.trans e4) ?_
    rw [List.length_map, cs_len, List.take_length]
def TW (w : Nat) : List Nat := if w = 8 then T8 else if w = 16 then T16 else T32
def PW (w : Nat) : Nat := if w = 8 then 7 else if w = 16 then 32773 else 79764919
theorem tabW {w : Nat} (h : w = 8 ∨ w = 16 ∨ w = 32) : Tab w (PW w) (TW w) := by
  rcases h with rfl | rfl | rfl
  · exact tab8
  · exact tab16
  · exact tab32
theorem TW_len (w : Nat) : (TW w).length = 16 := by
  unfold TW
  split
  · rfl
  · split <;> rfl
def sp_crc (K : PySem.W.Frag) (w : Nat) : Sp := fun vs H Q _ => ∃ (a : Addr) (ds : List Nat) (r : Nat), vs = [.ref a, .int (r : Int)] ∧ SqL K H a ((cs ds).map V.int) ∧ r < 2 ^ w ∧ (∀ d ∈ ds, d < 256) ∧ RetV (.int ((crcN w (TW w) r ds : Nat) : Int)) H Q
theorem ok_crc8 (T : TX K mg) : FnOk P w K mg base CX0 2 T.a_crc8 T.d_crc8 ["data", "start"] (sp_crc K 8) := by
  refine T.F_crc8.ok sc_crc8 (fun vs H Q E h => by obtain ⟨a, ds, r, rfl, _⟩ := h; rfl) (fun cdv A outer s H vs Q E hr h => ?_)
  obtain ⟨a, ds, r, rfl, hS, hrw, hds, k⟩ := h
  refine ⟨_, (pss_one (ps_ret (pe_call (ok_divided T) (hr.mono (by decide)) (by rfl) T.g_divided T.F_divided.kp T.b_divided .nil pass0 (pa_cons (pv 0) (pa_cons (pv 1) (pa_cons pe_int (pa_cons (pe_glob (v := V.ref T.A_STEPS_8) (by rfl) T.c_STEPS_8 rfl) pa_nil))))))), ?_⟩
  refine s_ret (v := .int ((crcN 8 (TW 8) r ds : Nat) : Int)) (ev_call (ea_cons (ev_var rfl) (ea_cons (ev_var rfl) (ea_cons ev_c (ea_cons ev_c ea_nil)))) fun H1 e Q q _ => ⟨a, _, ds, T8, r, 8, 7, rfl, ex_l e hS, T.s_STEPS_8 _, rfl, tab8, by decide, hrw, hds, q⟩) fun H1 e => k H1 e
theorem ok_crc16 (T : TX K mg) : FnOk P w K mg base CX0 2 T.a_crc16 T.d_crc16 ["data", "start"] (sp_crc K 16) := by
  refine T.F_crc16.ok sc_crc16 (fun vs H Q E h => by obtain ⟨a, ds, r, rfl, _⟩ := h; rfl) (fun cdv A outer s H vs Q E hr h => ?_)
  obtain ⟨a, ds, r, rfl, hS, hrw, hds, k⟩ := h
  refine ⟨_, (pss_one (ps_ret (pe_call (ok_divided T) (hr.mono (by decide)) (by rfl) T.g_divided T.F_divided.kp T.b_divided .nil pass0 (pa_cons (pv 0) (pa_cons (pv 1) (pa_cons pe_int (pa_cons (pe_glob (v := V.ref T.A_STEPS_16) (by rfl) T.c_STEPS_16 rfl) pa_nil))))))), ?_⟩
  refine s_ret (v := .int ((crcN 16 (TW 16) r ds : Nat) : Int)) (ev_call (ea_cons (ev_var rfl) (ea_cons (ev_var rfl) (ea_cons ev_c (ea_cons ev_c ea_nil)))) fun H1 e Q q _ => ⟨a, _, ds, T16, r, 16, 32773, rfl, ex_l e hS, T.s_STEPS_16 _, rfl, tab16, by decide, hrw, hds, q⟩) fun H1 e => k H1 e
theorem ok_crc32 (T : TX K mg) : FnOk P w K mg base CX0 2 T.a_crc32 T.d_crc32 ["data", "start"] (sp_crc K 32) := by
  refine T.F_crc32.ok sc_crc32 (fun vs H Q E h => by obtain ⟨a, ds, r, rfl, _⟩ := h; rfl) (fun cdv A outer s H vs Q E hr h => ?_)
  obtain ⟨a, ds, r, rfl, hS, hrw, hds, k⟩ := h
  refine ⟨_, (pss_one (ps_ret (pe_call (ok_divided T) (hr.mono (by decide)) (by rfl) T.g_divided T.F_divided.kp T.b_divided .nil pass0 (pa_cons (pv 0) (pa_cons (pv 1) (pa_cons pe_int (pa_cons (pe_glob (v := V.ref T.A_STEPS_32) (by rfl) T.c_STEPS_32 rfl) pa_nil))))))), ?_⟩
  refine s_ret (v := .int ((crcN 32 (TW 32) r ds : Nat) : Int)) (ev_call (ea_cons (ev_var rfl) (ea_cons (ev_var rfl) (ea_cons ev_c (ea_cons ev_c ea_nil)))) fun H1 e Q q _ => ⟨a, _, ds, T32, r, 32, 79764919, rfl, ex_l e hS, T.s_STEPS_32 _, rfl, tab32, by decide, hrw, hds, q⟩) fun H1 e => k H1 e

/-! ### the crc of a width -/
theorem ev_crc1 {σ : L2.St} {H : Hp} {t1 t2 : TE} {E : XK} {a : Addr} {ds : List Nat} {w r : Nat} (h1 : Ev t1 σ H (.ref a)) (hS : SqL K H a ((cs ds).map V.int)) (h2 : Ev t2 σ H (.int (r : Int))) (hr : r < 2 ^ w) (hd : ∀ d ∈ ds, d < 256) : Ev (tCall (sp_crc K w) [] E (tCons t1 (tCons t2 tNil))) σ H (.int ((crcN w (TW w) r ds : Nat) : Int)) :=
  ev_call (ea_cons h1 (ea_cons h2 ea_nil)) fun H1 e Q q _ => ⟨a, ds, r, rfl, ex_l e hS, hr, hd, q⟩
theorem ev_crc0 {σ : L2.St} {H : Hp} {t1 : TE} {E : XK} {a : Addr} {ds : List Nat} {w : Nat} (h1 : Ev t1 σ H (.ref a)) (hS : SqL K H a ((cs ds).map V.int)) (hd : ∀ d ∈ ds, d < 256) : Ev (tCall (sp_crc K w) [.int 0] E (tCons t1 tNil)) σ H (.int ((crcN w (TW w) 0 ds : Nat) : Int)) :=
  ev_call (ea_cons h1 ea_nil) fun H1 e Q q _ => ⟨a, ds, 0, rfl, ex_l e hS, Nat.two_pow_pos _, hd, q⟩
theorem ev_crcK {σ : L2.St} {H : Hp} {t1 t2 : TE} {E : XK} {a : Addr} {ds : List Nat} {w r : Nat} (h1 : Ev t1 σ H (.ref a)) (hS : SqL K H a ((cs ds).map V.int)) (h2 : Ev t2 σ H (.int (r : Int))) (hr : r < 2 ^ w) (hd : ∀ d ∈ ds, d < 256) : Ev (tCallN 1 1 (sp_crc K w) (fun us ws => us ++ ws) E (tCons t1 tNil) (tCons t2 tNil)) σ H (.int ((crcN w (TW w) r ds : Nat) : Int)) := fun H1 e Q q =>
  h1 H1 e _ fun H2 e2 => h2 H2 (e.trans e2) _ fun H3 e3 => ⟨rfl, rfl, a, ds, r, rfl, ex_l ((e.trans e2).trans e3) hS, hr, hd, fun H4 e4 => q H4 ((e2.trans e3).trans e4)⟩
theorem two_of {ns : List Int} (h : (ns.length : Int) = 2) : ∃ x y, ns = [x, y] := by
  match ns, h with
  | [x, y], _ => exact ⟨x, y, rfl⟩
theorem three_of {ns : List Int} (h : (ns.length : Int) = 3) : ∃ x y z, ns = [x, y, z] := by
  match ns, h with
  | [x, y, z], _ => exact ⟨x, y, z, rfl⟩
theorem q_forS {σ : L2.St} {H : Hp} {D : Ends} {tu tz : TS} {tl : TE} {g : TG} {xs : List V} (h : EvS K tl σ H xs) (k : ∀ p H1, Ex H H1 → SqL K H1 p xs → tSeq (tFor (iList K (tC (.ref p))) g tu) tz D σ H1) : tSeq (tFor (iList K tl) g tu) tz D σ H := h H (Ex.refl H) _ fun p H1 e hp => k p H1 e hp

def sp_data : Sp := fun vs H Q _ => ∃ c m : Int, vs = [.int c, .int m] ∧ ∀ p (ds : List Nat) H', H p = none → Ex H H' → H' p = some (.lst ((cs ds).map V.int)) → ds.length ≤ 20 → (∀ d ∈ ds, d < 256) → Q (.ref p) H'
theorem ok_law_data (T : TX K mg) : FnOk P w K mg base CX0 2 T.a_law_data T.d_law_data ["cell", "more"] sp_data := by
  refine T.F_law_data.ok sc_law_data (fun vs H Q E h => by obtain ⟨c, m, rfl, _⟩ := h; rfl) (fun cdv A outer s H vs Q E hr h => ?_)
  obtain ⟨c, m, rfl, k⟩ := h
  refine ⟨_, (pss_cons (ps_set (i := 2) sc_law_data.nd rfl (Or.inr rfl) (pe_call (ok_law_draw T) (hr.mono (by decide)) (by rfl) T.g_law_draw T.F_law_draw.kp T.b_law_draw .nil pass0 (pa_cons (pv 0) (pa_cons pe_int (pa_cons (pe_op op_shl pe_int pe_int) pa_nil)))))
      (pss_cons (ps_set (i := 3) sc_law_data.nd rfl (Or.inl rfl) (pe_call (ok_law_draw T) (hr.mono (by decide)) (by rfl) T.g_law_draw T.F_law_draw.kp T.b_law_draw .nil pass0 (pa_cons (pv 1) (pa_cons (pe_op op_mod (pe_ix (r := rIxL K) ix_list (pv 2) pe_int (fun _ _ => rfl)) pe_int) (pa_cons pe_int pa_nil)))))
      (pss_cons (ps_if (pt_cmpR op_eq (pe_op op_mod (pe_ix (r := rIxL K) ix_list (pv 2) pe_int (fun _ _ => rfl)) pe_int) pe_int (nomark _)) (pss_one (ps_setLc (i := 3) (own := [("byte", 4)]) (g := gName 4) (tt := tYes) rfl sc_law_data.nd rfl rfl (sw_true rfl rfl rfl (by decide +kernel)) (pi_list (pv 3)) (blkOk_by (N := ["cell", "more", "sizes", "data", "byte"]) (sc := defScope s_law_data) (by decide +kernel)) (fun _ _ _ _ _ => pg_name (i := 4) sc_law_data.nd rfl (Or.inl rfl)) (fun _ _ _ _ _ => pts_nil) (fun _ _ _ _ _ => (pe_op op_mod (pe_op op_fdiv (pe_ix (r := rIxL K) ix_list (pv 2) pe_int (fun _ _ => rfl)) pe_int) pe_int)))) pss_nil)
      (pss_one (ps_ret (pv 3)))))), ?_⟩
  refine q_asgC (vs := [.int c, .int 2, .int (1 * 2 ^ (20 : Int).toNat)]) (ea_cons (ev_var rfl) (ea_cons ev_c (ea_cons (ev_I ev_c ev_c ⟨by decide, by decide, by decide⟩) ea_nil))) fun H1 e1 => ⟨c, 2, _, rfl, by decide, by decide, by decide, by decide, fun p ns H2 hp e2 hl hn hns => ?_⟩
  obtain ⟨x, y, rfl⟩ := two_of hn
  have hx := hns x (List.mem_cons_self ..)
  refine q_asgC (vs := [.int m, .int (x % 21), .int 256]) (ea_cons (ev_var rfl) (ea_cons (ev_I (ev_at (xs := [.int x, .int y]) (v := .int x) (Ev.s (ev_var rfl) (sq_of hl)) ev_c rfl) ev_c (by decide)) (ea_cons ev_c ea_nil))) fun H3 e3 => ⟨m, x % 21, 256, rfl, by omega, by omega, by decide, by decide, fun p2 ms H4 hp2 e4 hl2 hm hms => ?_⟩
  obtain ⟨ds, rfl, hdl, hds⟩ := cs_of hms
  have hl4 := e4 _ _ (e3 _ _ hl)
  have hlen : ds.length ≤ 20 := by omega
  have hpn : H p2 = none := by
    cases h : H p2 with
    | none => rfl
    | some o => rw [e3 _ _ (e2 _ _ (e1 _ _ h))] at hp2; cases hp2
  have exA : Ex H H4 := ((e1.trans e2).trans e3).trans e4
  refine' q_if (et_test (ev_eq (ev_I (ev_at (xs := [.int x, .int y]) (v := .int y) (Ev.s (ev_var rfl) (sq_of hl4)) ev_c rfl) ev_c (by decide)) ev_c rfl)) ?_ ?_
  · intro _ H5 e5
    refine s_asgL (xs := (cs (ds.map fun _ => (y / 4 % 256).toNat)).map V.int) (el_lcS (K := K) (xs := (cs ds).map V.int) _ (Ev.s (ev_var rfl) (sq_of (e5 _ _ hl2))) (by rw [List.length_map, List.length_map, cs_len, cs_len, List.length_map]) (by rw [List.length_map, cs_len, List.length_map]; omega) (fun _ => rfl) ?_) ?_
    · intro i z H6 e6 hz
      obtain ⟨n, hn, hi, rfl⟩ := int_at hz
      rw [cs_len] at hi
      refine ⟨_, at_int (cs_at (d := (y / 4 % 256).toNat) ?_), ?_⟩
      · rw [List.getElem?_map, List.getElem?_eq_getElem hi]
        rfl
      · refine Ev.is (ev_I (ev_I (ev_at (xs := [.int x, .int y]) (v := .int y) (Ev.s (ev_var rfl) (sq_of (e6 _ _ (e5 _ _ hl4)))) ev_c rfl) ev_c ⟨by decide, by decide⟩) ev_c (by decide)) (congrArg V.int ?_)
        omega
    · intro p3 H6 hp3 e6 hl3
      refine s_ret (te := tVar 3) (ev_var rfl) ?_
      intro H7 e7
      refine k p3 _ H7 ?_ (((exA.trans e5).trans e6).trans e7) (e7 _ _ hl3) (by rw [List.length_map]; exact hlen) fun d hd => ?_
      · cases h : H p3 with
        | none => rfl
        | some o => rw [e5 _ _ (exA _ _ h)] at hp3; cases hp3
      · obtain ⟨_, _, rfl⟩ := List.mem_map.mp hd
        omega
  · intro _ H5 e5
    unfold tNext
    dsimp only
    walk_at "ret"
    intro H6 e6
    exact k p2 ds H6 hpn ((exA.trans e5).trans e6) (e6 _ _ (e5 _ _ hl2)) hlen fun d hd => by have := hds d hd; omega
/-! ### the remainder -/
def bI (ms : List Bool) : List Int := ms.map b2
theorem bI_len (ms : List Bool) : (bI ms).length = ms.length := List.length_map ..
theorem bI_row (ms : List Bool) (w : Nat) : bI ms ++ List.replicate w 0 = row (ms.length + w) (inj ms) := by
  refine List.ext_getElem? fun i => ?_
  by_cases h : i < ms.length + w
  · rw [row_at h]
    unfold inj
    by_cases h2 : i < ms.length
    · rw [List.getElem?_append_left (by rw [bI_len]; exact h2)]
      unfold bI
      rw [List.getElem?_map, List.getElem?_eq_getElem h2, List.getD_eq_getElem?_getD, List.getElem?_eq_getElem h2]
      rfl
    · rw [List.getElem?_append_right (by rw [bI_len]; omega), List.getElem?_replicate, if_pos (by rw [bI_len]; omega), List.getD_eq_getElem?_getD, List.getElem?_eq_none (by omega)]
      rfl
  · rw [List.getElem?_eq_none (by rw [List.length_append, bI_len, List.length_replicate]; omega), List.getElem?_eq_none (by rw [row_len]; omega)]
def remN (w p r : Nat) (ds : List Nat) : Nat := valb (Arun (reg w p) (reg w r) (ds.flatMap bits8)) w
theorem rem_eq {w p : Nat} {T : List Nat} (t : Tab w p T) {r : Nat} {ds : List Nat} (hr : r < 2 ^ w) (hd : ∀ d ∈ ds, d < 256) : remN w p r ds = crcN w T r ds := by
  obtain ⟨h1, h2⟩ := crcN_ok t ds r hr hd
  unfold remN
  rw [← h2, valb_reg h1 w (Nat.le_refl _), Nat.sub_self, Nat.pow_zero, Nat.div_one]
theorem bits_len (ds : List Nat) : (ds.flatMap bits8).length = 8 * ds.length := by
  induction ds with
  | nil => rfl
  | cons d r ih =>
    rw [List.flatMap_cons, List.length_append, ih, bits8_len, List.length_cons]
    omega
theorem tnat {a b : Nat} : (((a : Int) - 1) - (b : Int)).toNat = a - 1 - b := by omega
theorem ev_bit {σ : L2.St} {H : Hp} {t1 t2 : TE} {n i : Nat} {j : Int} (h1 : Ev t1 σ H (.int (n : Int))) (h2 : Ev t2 σ H (.int j)) (hj : j = (i : Int)) : Ev (tOp (rI0 fun i j => .int (Builtin.bitAnd i j)) (tOp (rI (fun _ j => 0 ≤ j) fun i j => .int (i / 2 ^ j.toNat)) t1 t2) (tC (.int 1))) σ H (.int (b2 (n.testBit i))) := by
  subst hj
  exact Ev.is (ev_I0 (ev_I h1 h2 (by show (0 : Int) ≤ _; omega)) ev_c) (congrArg V.int (by rw [Int.toNat_natCast]; exact b2_bit n i))
theorem ev_rowat {σ : L2.St} {H : Hp} {tl ti : TE} {p : Addr} {n i : Nat} {f : Bits} {j : Int} (h1 : Ev tl σ H (.ref p)) (hl : H p = some (.lst ((row n f).map V.int))) (h2 : Ev ti σ H (.int j)) (hj : j = (i : Int)) (hi : i < n) : Ev (tOp (rIxL K) tl ti) σ H (.int (b2 (f i))) := by
  subst hj
  exact ev_at (Ev.s h1 (sq_of hl)) h2 (at_of rfl (at_int (row_at hi)))
theorem row_setV {n : Nat} {f : Bits} {i : Nat} {x : Bool} : ((row n f).map V.int).set i (.int (b2 x)) = (row n (fun j => if j = i then x else f j)).map V.int := by
  rw [← row_set, List.map_set]
def sp_rem (K : PySem.W.Frag) : Sp := fun vs H Q _ => ∃ (a : Addr) (ds : List Nat) (r w p : Nat), vs = [.ref a, .int (r : Int), .int (w : Int), .int (p : Int)] ∧ SqL K H a ((cs ds).map V.int) ∧ ds.length ≤ 100 ∧ (∀ d ∈ ds, d < 256) ∧ w ≤ 32 ∧ RetV (.int ((remN w p r ds : Nat) : Int)) H Q
theorem ok_law_remainder (T : TX K mg) : FnOk P w K mg base CX0 1 T.a_law_remainder T.d_law_remainder ["data", "begin", "width", "polynomial"] (sp_rem K) := by
  refine T.F_law_remainder.ok sc_law_remainder (fun vs H Q E h => by obtain ⟨a, ds, r, w, p, rfl, _⟩ := h; rfl) (fun cdv A outer s H vs Q E hr h => ?_)
  obtain ⟨a, ds, r, wd, pl, rfl, hS, hlen, hds, hw, k⟩ := h
  refine ⟨_, (pss_cons (ps_set (i := 4) sc_law_remainder.nd rfl (Or.inl rfl) (pe_lst pa_nil))
      (pss_cons (ps_for PassesOwn.never rfl (pi_list (pv 0)) (pg_name (i := 5) sc_law_remainder.nd rfl (Or.inl rfl)) (pss_one (ps_for PassesOwn.never rfl (pi_range1 (by rfl) T.m_range (pa_cons pe_int pa_nil)) (pg_name (i := 6) sc_law_remainder.nd rfl (Or.inl rfl)) (pss_one (ps_expr (pe_bm PySem.F.plainAttrs_list PySem.F.slot_list_append PySem.F.type_list_append mt_append (pv 4) (pa_cons (pe_op op_and (pe_op op_shr (pv 5) (pe_op op_sub pe_int (pv 6))) pe_int) pa_nil)))))))
      (pss_cons (ps_set (i := 4) sc_law_remainder.nd rfl (Or.inl rfl) (pe_op op_cat (pv 4) (pe_op op_rep (pe_lst (pa_cons pe_int pa_nil)) (pv 2))))
      (pss_cons (ps_for PassesOwn.never rfl (pi_range1 (by rfl) T.m_range (pa_cons (pv 2) pa_nil)) (pg_name (i := 6) sc_law_remainder.nd rfl (Or.inl rfl)) (pss_one (ps_if (pt_cmpR op_lt (pv 6) (pe_callB (r := rLenS K) call_len_seq (by rfl) T.m_len PySem.boot_len (pa_cons (pv 4) pa_nil)) (nomark _)) (pss_one (ps_asg (pe_op op_xor (pe_ix (r := rIxL K) ix_list (pv 4) (pv 6) (fun _ _ => rfl)) (pe_op op_and (pe_op op_shr (pv 1) (pe_op op_sub (pe_op op_sub (pv 2) pe_int) (pv 6))) pe_int)) (pg_sub (pv 4) (pv 6) set_list))) pss_nil)))
      (pss_cons (ps_for PassesOwn.never rfl (pi_range1 (by rfl) T.m_range (pa_cons (pe_op op_sub (pe_callB (r := rLenS K) call_len_seq (by rfl) T.m_len PySem.boot_len (pa_cons (pv 4) pa_nil)) (pv 2)) pa_nil)) (pg_name (i := 6) sc_law_remainder.nd rfl (Or.inl rfl)) (pss_one (ps_if (pt_cmpR op_eq (pe_ix (r := rIxL K) ix_list (pv 4) (pv 6) (fun _ _ => rfl)) pe_int (nomark _)) (pss_cons (ps_asg pe_int (pg_sub (pv 4) (pv 6) set_list))
          (pss_one (ps_for PassesOwn.never rfl (pi_range1 (by rfl) T.m_range (pa_cons (pv 2) pa_nil)) (pg_name (i := 7) sc_law_remainder.nd rfl (Or.inl rfl)) (pss_one (ps_asg (pe_op op_xor (pe_ix (r := rIxL K) ix_list (pv 4) (pe_op op_add (pe_op op_add (pv 6) pe_int) (pv 7)) (fun _ _ => rfl)) (pe_op op_and (pe_op op_shr (pv 3) (pe_op op_sub (pe_op op_sub (pv 2) pe_int) (pv 7))) pe_int)) (pg_sub (pv 4) (pe_op op_add (pe_op op_add (pv 6) pe_int) (pv 7)) set_list)))))) pss_nil)))
      (pss_cons (ps_set (i := 8) sc_law_remainder.nd rfl (Or.inl rfl) pe_int)
      (pss_cons (ps_for PassesOwn.never rfl (pi_list (pe_slice (r := rSlL K) sl_list (pv 4) (po_some (pe_op op_sub (pe_callB (r := rLenS K) call_len_seq (by rfl) T.m_len PySem.boot_len (pa_cons (pv 4) pa_nil)) (pv 2))) po_none)) (pg_name (i := 9) sc_law_remainder.nd rfl (Or.inl rfl)) (pss_one (ps_set (i := 8) sc_law_remainder.nd rfl (Or.inl rfl) (pe_op op_add (pe_op op_mul pe_int (pv 8)) (pv 9)))))
      (pss_one (ps_ret (pv 8)))))))))), ?_⟩
  refine q_asgL (xs := []) (el_lst ea_nil (by decide)) fun p H1 hp e1 h1 => ?_
  refine q_forLn (xs := (cs ds).map V.int) (a := a) (ev_var rfl) (ex_l e1 hS) (fun i σ' H' => ∃ c5 c6, σ' = [some (.ref a), some (.int (r : Int)), some (.int (wd : Int)), some (.int (pl : Int)), some (.ref p), c5, c6, none, none, none] ∧ Ex H H' ∧ H' p = some (.lst ((bI ((ds.take i).flatMap bits8)).map V.int)))
    (fun H2 e2 => ⟨none, none, rfl, e1.trans e2, e2 _ _ h1⟩) (fun i σ' H' _ h => by obtain ⟨_, _, _, e, _⟩ := h; exact ex_l e hS) ?_ ?_
  · rintro i x σ' H' hx ⟨c5, c6, rfl, ex, hl⟩
    obtain ⟨n, hn, hi, rfl⟩ := int_at hx
    rw [cs_len] at hi
    have hd : ds[i]? = some ds[i] := List.getElem?_eq_getElem hi
    have hn2 := cs_at hd
    rw [hn] at hn2
    have hn2 := Option.some.inj hn2
    rw [show ds.take (i + 1) = ds.take i ++ [ds[i]] from by rw [List.take_add_one, hd]; rfl, List.flatMap_append, List.flatMap_cons, List.flatMap_nil, List.append_nil]
    have hpl : ((ds.take i).flatMap bits8).length ≤ 800 := by
      rw [bits_len, List.length_take]
      omega
    generalize (ds.take i).flatMap bits8 = pre at *
    generalize ds[i] = d at *
    subst hn2
    refine s_forR1 (n := 8) (ea_cons ev_c ea_nil) (by omega) (fun j σ2 H2 => ∃ c6, σ2 = [some (.ref a), some (.int (r : Int)), some (.int (wd : Int)), some (.int (pl : Int)), some (.ref p), some (.int (d : Int)), c6, none, none, none] ∧ Ex H H2 ∧ H2 p = some (.lst ((bI (pre ++ (bits8 d).take j)).map V.int)))
      (fun H2 e2 => ⟨c6, rfl, ex.trans e2, by rw [List.take_zero, List.append_nil]; exact e2 _ _ hl⟩) ?_ ?_
    · rintro j σ2 H2 hj ⟨c, rfl, ex2, hl2⟩
      refine s_app (v := .int (b2 (d.testBit (7 - j)))) hl2 (ev_var rfl) (ev_bit (ev_var rfl) (ev_I0 ev_c (ev_var rfl)) (by omega)) (by rw [List.length_map, bI_len, List.length_append, List.length_take, bits8_len]; omega) fun H3 e3 => ?_
      refine ⟨_, rfl, Ex.mut (ex2.trans e3) hp, ?_⟩
      have hb : (bits8 d)[j]? = some (d.testBit (7 - j)) := by
        unfold bits8
        rw [List.getElem?_map, List.getElem?_range (by omega)]
        rfl
      have hbb : bI (pre ++ (bits8 d).take (j + 1)) = bI (pre ++ (bits8 d).take j) ++ [b2 (d.testBit (7 - j))] := by
        unfold bI
        rw [List.take_add_one, hb, ← List.append_assoc, List.map_append (l₁ := pre ++ _)]
        rfl
      rw [upd_same, hbb, List.map_append]
      rfl
    · rintro σ2 H2 ⟨c, rfl, ex2, hl2⟩
      exact ⟨_, _, rfl, ex2, hl2⟩
  · rintro σ' H' ⟨c5, c6, rfl, ex, hl⟩
    rw [List.length_map, cs_len, List.take_length] at hl
    have hlB := bits_len ds
    have hst : ∀ A, Arun (reg wd pl) A (ds.flatMap bits8) = Arun (reg wd pl) A ((ds.flatMap bits8).take (ds.flatMap bits8).length) := fun A => by rw [List.take_length]
    unfold remN at k
    rw [hst] at k
    generalize ds.flatMap bits8 = ms at *
    refine q_asgL (xs := (row (ms.length + wd) (inj ms)).map V.int) (EvL.is (el_cat (Ev.r (ev_var rfl) hl) (EvL.r (el_rep (xs := [.int 0]) (EvL.r (el_lst (ea_cons ev_c ea_nil) (by decide))) (ev_var rfl) (by omega) ?_)) ?_) ?_) fun p2 H2 hp2 e2 hl2 => ?_
    · rw [Int.toNat_natCast]
      show 1 * wd ≤ _
      omega
    · rw [Int.toNat_natCast, rep_one, List.length_map, bI_len, List.length_replicate]
      omega
    · rw [Int.toNat_natCast, rep_one, ← bI_row, List.map_append, List.map_replicate]
    have hp0 : H p2 = none := by
      cases h : H p2 with
      | none => rfl
      | some o => rw [ex _ _ h] at hp2; cases hp2
    refine q_forR1 (n := (wd : Int)) (ea_cons (ev_var rfl) ea_nil) (by omega) (fun i σ' H' => ∃ c6, σ' = [some (.ref a), some (.int (r : Int)), some (.int (wd : Int)), some (.int (pl : Int)), some (.ref p2), c5, c6, none, none, none] ∧ Ex H H' ∧ H' p2 = some (.lst ((row (ms.length + wd) (fun j => inj ms j ^^ (decide (j < i) && reg wd r j))).map V.int)))
      (fun H3 e3 => ⟨c6, rfl, (ex.trans e2).trans e3, by
        rw [e3 _ _ hl2, row_congr fun j _ => ?_]
        rw [decide_eq_false (by omega), Bool.false_and, Bool.xor_false]⟩) ?_ ?_
    · rintro i σ2 H3 hi ⟨c, rfl, ex3, hl3⟩
      generalize hf : (fun j => inj ms j ^^ (decide (j < i) && reg wd r j)) = f at *
      have hlv : ∀ H4, Ex H3 H4 → Ev (tCB (rLenS K) (tCons (tVar 4) tNil)) ([some (.ref a), some (.int (r : Int)), some (.int (wd : Int)), some (.int (pl : Int)), some (.ref p2), c5, some (.int (i : Int)), none, none, none] : L2.St) H4 (.int ((ms.length + wd : Nat) : Int)) := fun H4 e4 => Ev.is (ev_lenS (Ev.s (ev_var rfl) (sq_of (e4 _ _ hl3)))) (by rw [List.length_map, row_len])
      refine s_when (et_test (ev_I0 (ev_var rfl) (hlv H3 (Ex.refl _)))) ?_ ?_
      · intro _ H4 e4
        refine s_setL (v := .int (b2 (f i ^^ r.testBit (wd - 1 - i)))) (j := i) (e4 _ _ hl3) (Ev.is (ev_I0 (ev_rowat (ev_var rfl) (e4 _ _ hl3) (ev_var rfl) rfl (by omega)) (ev_bit (i := wd - 1 - i) (ev_var rfl) (ev_I0 (ev_I0 (ev_var rfl) ev_c) (ev_var rfl)) (by omega))) (congrArg V.int (b2_xor _ _))) (ev_var rfl) (ev_var rfl) (by rw [List.length_map, row_len]; omega) fun H5 e5 => ?_
        refine ⟨_, rfl, Ex.mut ((ex3.trans e4).trans e5) hp0, ?_⟩
        rw [upd_same, row_setV, row_congr fun j _ => ?_]
        subst hf
        dsimp only
        by_cases h : j = i
        · subst h
          rw [if_pos rfl, decide_eq_false (Nat.lt_irrefl _), decide_eq_true (Nat.lt_succ_self _), Bool.false_and, Bool.xor_false, Bool.true_and]
          unfold reg
          rw [decide_eq_true (by omega), Bool.true_and]
        · rw [if_neg h]
          by_cases h2 : j < i
          · rw [decide_eq_true h2, decide_eq_true (by omega)]
          · rw [decide_eq_false h2, decide_eq_false (by omega)]
      · intro hb
        have := of_decide_eq_false hb
        omega
    · rintro σ2 H3 ⟨c, rfl, ex3, hl3⟩
      rw [Int.toNat_natCast, row_congr (g := fun i => ms.getD i false ^^ reg wd r i) fun j _ => ?_] at hl3
      rotate_left
      · by_cases h : j < wd
        · rw [decide_eq_true h, Bool.true_and]
          rfl
        · rw [reg_supp wd r j (by omega), Bool.and_false]
          rfl
      have hlv : ∀ {σ : L2.St} {H4 : Hp} {f : Bits} {te : TE}, Ev te σ H4 (.ref p2) → H4 p2 = some (.lst ((row (ms.length + wd) f).map V.int)) → Ev (tCB (rLenS K) (tCons te tNil)) σ H4 (.int ((ms.length + wd : Nat) : Int)) := fun h3 h4 => Ev.is (ev_lenS (Ev.s h3 (sq_of h4))) (by rw [List.length_map, row_len])
      refine q_forR1 (n := (ms.length : Int)) (ea_cons (Ev.is (ev_I0 (hlv (ev_var rfl) hl3) (ev_var rfl)) (congrArg V.int (by omega))) ea_nil) (by omega) (fun i σ' H' => ∃ c6 c7, σ' = [some (.ref a), some (.int (r : Int)), some (.int (wd : Int)), some (.int (pl : Int)), some (.ref p2), c5, c6, c7, none, none] ∧ Ex H H' ∧ H' p2 = some (.lst ((row (ms.length + wd) (lrun (reg wd pl) wd (fun i => ms.getD i false ^^ reg wd r i) i)).map V.int)))
        (fun H4 e4 => ⟨_, _, rfl, ex3.trans e4, e4 _ _ hl3⟩) ?_ ?_
      · rintro i σ3 H4 hi ⟨c6, c7, rfl, ex4, hl4⟩
        have hi : i < ms.length := by omega
        show tIfS _ _ _ _ _ _
        have hstp : lrun (reg wd pl) wd (fun i => ms.getD i false ^^ reg wd r i) (i + 1) = lstep (reg wd pl) wd i (lrun (reg wd pl) wd (fun i => ms.getD i false ^^ reg wd r i) i) := rfl
        rw [hstp]
        generalize lrun (reg wd pl) wd (fun i => ms.getD i false ^^ reg wd r i) i = f at *
        refine s_if (et_test (ev_eq (ev_rowat (i := i) (ev_var rfl) hl4 (ev_var rfl) rfl (by omega)) ev_c rfl)) ?_ ?_
        · intro hb H5 e5
          have hft : f i = true := by
            have := V.int.inj (of_decide_eq_true hb)
            cases h : f i with
            | true => rfl
            | false => rw [h] at this; cases this
          refine q_setL (v := .int (b2 false)) (j := i) (e5 _ _ hl4) ev_c (ev_var rfl) (ev_var rfl) (by rw [List.length_map, row_len]; omega) fun H6 e6 => ?_
          rw [row_setV]
          have ex7 : Ex H (upd H6 p2 (.lst ((row (ms.length + wd) fun j => if j = i then false else f j).map V.int))) := Ex.mut ((ex4.trans e5).trans e6) hp0
          have hl7 : (upd H6 p2 (.lst ((row (ms.length + wd) fun j => if j = i then false else f j).map V.int))) p2 = _ := upd_same
          generalize (upd H6 p2 (.lst ((row (ms.length + wd) fun j => if j = i then false else f j).map V.int))) = H7 at *
          refine s_forR1 (n := (wd : Int)) (ea_cons (ev_var rfl) ea_nil) (by omega) (fun j σ' H' => ∃ c7, σ' = [some (.ref a), some (.int (r : Int)), some (.int (wd : Int)), some (.int (pl : Int)), some (.ref p2), c5, some (.int (i : Int)), c7, none, none] ∧ Ex H H' ∧ H' p2 = some (.lst ((row (ms.length + wd) fun l => if l = i then false else (f l ^^ (decide (i < l) && decide (l < i + 1 + j) && reg wd pl (l - (i + 1))))).map V.int)))
            (fun H8 e8 => ⟨_, rfl, ex7.trans e8, by
              rw [e8 _ _ hl7, row_congr fun l _ => ?_]
              by_cases h : l = i
              · rw [if_pos h, if_pos h]
              · rw [if_neg h, if_neg h]
                by_cases h2 : i < l
                · rw [decide_eq_false (show ¬ l < i + 1 + 0 by omega), Bool.and_false, Bool.false_and, Bool.xor_false]
                · rw [decide_eq_false h2, Bool.false_and, Bool.false_and, Bool.xor_false]⟩) ?_ ?_
          · rintro j σ4 H8 hj ⟨d7, rfl, ex8, hl8⟩
            have hj : j < wd := by omega
            generalize hg : (fun l => if l = i then false else (f l ^^ (decide (i < l) && decide (l < i + 1 + j) && reg wd pl (l - (i + 1))))) = g at *
            refine s_setL (v := .int (b2 (g (i + 1 + j) ^^ pl.testBit (wd - 1 - j)))) (j := i + 1 + j) hl8 (Ev.is (ev_I0 (ev_rowat (i := i + 1 + j) (ev_var rfl) hl8 (ev_I0 (ev_I0 (ev_var rfl) ev_c) (ev_var rfl)) (by omega) (by omega)) (ev_bit (i := wd - 1 - j) (ev_var rfl) (ev_I0 (ev_I0 (ev_var rfl) ev_c) (ev_var rfl)) (by omega))) (congrArg V.int (b2_xor _ _))) (ev_var rfl) (Ev.is (ev_I0 (ev_I0 (ev_var rfl) ev_c) (ev_var rfl)) (congrArg V.int (by omega))) (by rw [List.length_map, row_len]; omega) fun H9 e9 => ?_
            refine ⟨_, rfl, Ex.mut (ex8.trans e9) hp0, ?_⟩
            rw [upd_same, row_setV, row_congr fun l _ => ?_]
            subst hg
            dsimp only
            by_cases h : l = i + 1 + j
            · subst h
              rw [if_pos rfl, if_neg (by omega), if_neg (by omega), decide_eq_false (show ¬ i + 1 + j < i + 1 + j by omega), decide_eq_true (show i < i + 1 + j by omega), decide_eq_true (show i + 1 + j < i + 1 + (j + 1) by omega), Bool.and_false, Bool.false_and, Bool.xor_false, Bool.true_and, Bool.true_and, show i + 1 + j - (i + 1) = j by omega]
              unfold reg
              rw [decide_eq_true hj, Bool.true_and]
            · rw [if_neg h]
              by_cases h2 : l = i
              · rw [if_pos h2, if_pos h2]
              · rw [if_neg h2, if_neg h2]
                by_cases h3 : l < i + 1 + j
                · rw [decide_eq_true h3, decide_eq_true (show l < i + 1 + (j + 1) by omega)]
                · rw [decide_eq_false h3, decide_eq_false (show ¬ l < i + 1 + (j + 1) by omega)]
          · rintro σ4 H8 ⟨d7, rfl, ex8, hl8⟩
            refine ⟨_, _, rfl, ex8, ?_⟩
            rw [hl8, Int.toNat_natCast, row_congr fun l _ => ?_]
            unfold lstep
            rw [if_pos hft]
            show _ = if l = i then false else _
            by_cases h : l = i
            · rw [if_pos h, if_pos h]
            · rw [if_neg h, if_neg h]
              by_cases h3 : l ≤ i + wd
              · rw [decide_eq_true h3, decide_eq_true (show l < i + 1 + wd by omega)]
              · rw [decide_eq_false h3, decide_eq_false (show ¬ l < i + 1 + wd by omega)]
        · intro hb H5 e5
          have hft : ¬ f i = true := fun h => by
            have := of_decide_eq_false hb
            rw [h] at this
            exact this rfl
          refine ⟨_, _, rfl, ex4.trans e5, ?_⟩
          unfold lstep
          rw [if_neg hft]
          exact e5 _ _ hl4
      · rintro σ3 H4 ⟨c6, c7, rfl, ex4, hl4⟩
        rw [Int.toNat_natCast] at hl4
        have hfin := fun i (h : ms.length ≤ i) => lrun_ok (reg_supp wd pl) ms (reg wd r) ms.length (Nat.le_refl _) i h
        generalize lrun (reg wd pl) wd (fun i => ms.getD i false ^^ reg wd r i) ms.length = f at *
        walk_at "asg"
        intro H5 e5
        refine q_forS (xs := ((row (ms.length + wd) f).drop ms.length).map V.int) (EvR.s (EvL.r (el_from (i := ms.length) (Ev.s (ev_var rfl) (sq_of (e5 _ _ hl4))) (Ev.is (ev_I0 (hlv (ev_var rfl) (e5 _ _ hl4)) (ev_var rfl)) (congrArg V.int (by omega)))))) fun p3 H6 e6 hq => ?_
        refine q_forLn (a := p3) ev_c hq (fun i σ' H' => ∃ c9, σ' = [some (.ref a), some (.int (r : Int)), some (.int (wd : Int)), some (.int (pl : Int)), some (.ref p2), c5, c6, c7, some (.int ((valb (Arun (reg wd pl) (reg wd r) (ms.take ms.length)) i : Nat) : Int)), c9] ∧ Ex H6 H')
          (fun H7 e7 => ⟨none, rfl, e7⟩) (fun i σ' H' _ h => by obtain ⟨_, _, e⟩ := h; exact ex_l e hq) ?_ ?_
        · rintro i x σ4 H7 hx ⟨c9, rfl, ex7⟩
          obtain ⟨n, hn, hi, rfl⟩ := int_at hx
          rw [List.length_drop, row_len] at hi
          rw [List.getElem?_drop, row_at (by omega)] at hn
          have hn := Option.some.inj hn
          have hv := hfin (ms.length + i) (by omega)
          rw [List.getD_eq_getElem?_getD, List.getElem?_eq_none (by omega), show ms.length + i - ms.length = i by omega] at hv
          have hv : f (ms.length + i) = Arun (reg wd pl) (reg wd r) (ms.take ms.length) i := by
            rw [hv]
            exact Bool.false_xor _
          rw [hv] at hn
          subst hn
          refine s_asg (Ev.is (ev_I0 (ev_I ev_c (ev_var rfl) (.inl (by decide))) (ev_var rfl)) (congrArg V.int (a₂ := ((valb (Arun (reg wd pl) (reg wd r) (ms.take ms.length)) (i + 1) : Nat) : Int)) ?_)) fun H8 e8 => ⟨_, rfl, ex7.trans e8⟩
          show _ = ((2 * valb _ i + (Arun (reg wd pl) (reg wd r) (ms.take ms.length) i).toNat : Nat) : Int)
          cases Arun (reg wd pl) (reg wd r) (ms.take ms.length) i
          · show 2 * _ + (0 : Int) = _
            rw [Int.natCast_add, Int.natCast_mul]
            rfl
          · show 2 * _ + (1 : Int) = _
            rw [Int.natCast_add, Int.natCast_mul]
            rfl
        · rintro σ4 H7 ⟨c9, rfl, ex7⟩
          walk_at "ret"
          intro H8 e8
          refine ret_eq k ((((ex4.trans e5).trans e6).trans ex7).trans e8) ?_
          rw [List.length_map, List.length_drop, row_len, show ms.length + wd - ms.length = wd by omega]
theorem ev_rem {σ : L2.St} {H : Hp} {t1 t2 t3 t4 : TE} {E : XK} {a : Addr} {ds : List Nat} {w r : Nat} (hw : w = 8 ∨ w = 16 ∨ w = 32) (h1 : EvS K t1 σ H ((cs ds).map V.int)) (h2 : Ev t2 σ H (.int (r : Int))) (h3 : Ev t3 σ H (.int (w : Int))) (h4 : Ev t4 σ H (.int ((PW w : Nat) : Int))) (hr : r < 2 ^ w) (hd : ∀ d ∈ ds, d < 256) (hl : ds.length ≤ 100) : Ev (tCall (sp_rem K) [] E (tCons t1 (tCons t2 (tCons t3 (tCons t4 tNil))))) σ H (.int ((crcN w (TW w) r ds : Nat) : Int)) := fun H1 e Q q =>
  h1 H1 e _ fun p H2 e2 hp => h2 H2 (e.trans e2) _ fun H3 e3 => h3 H3 ((e.trans e2).trans e3) _ fun H4 e4 => h4 H4 (((e.trans e2).trans e3).trans e4) _ fun H5 e5 =>
    ⟨p, ds, r, w, PW w, rfl, ex_l ((e3.trans e4).trans e5) hp, hl, hd, by omega, fun H6 e6 => by rw [rem_eq (tabW hw) hr hd]; exact q H6 ((((e2.trans e3).trans e4).trans e5).trans e6)⟩
def sp_told (K : PySem.W.Frag) : Sp := fun vs H Q _ => ∃ (a : Addr) (ds : List Nat) (r w : Nat), vs = [.ref a, .int (r : Int), .int (w : Int)] ∧ SqL K H a ((cs ds).map V.int) ∧ (∀ d ∈ ds, d < 256) ∧ r < 2 ^ w ∧ (w = 8 ∨ w = 16 ∨ w = 32) ∧ RetV (.int ((crcN w (TW w) r ds : Nat) : Int)) H Q
theorem wrong {p : Prop} {x y : Int} (hb : decide (V.int x = V.int y) = true) (h : x ≠ y) : p := absurd (V.int.inj (of_decide_eq_true hb)) h
theorem wrong2 {p : Prop} {x y : Int} (hb : decide (V.int x = V.int y) = false) (h : x = y) : p := absurd (congrArg V.int h) (of_decide_eq_false hb)
theorem ok_law_told (T : TX K mg) : FnOk P w K mg base CX0 3 T.a_law_told T.d_law_told ["data", "begin", "width"] (sp_told K) := by
  refine T.F_law_told.ok sc_law_told (fun vs H Q E h => by obtain ⟨a, ds, r, w, rfl, _⟩ := h; rfl) (fun cdv A outer s H vs Q E hr h => ?_)
  obtain ⟨a, ds, r, wd, rfl, hS, hds, hrw, hw, k⟩ := h
  refine ⟨_, (pss_cons (ps_if (pt_cmpR op_eq (pe_op op_mod (pe_callTy call_int1 (by rfl) T.m_int PyProof.Rows.boot_int (pa_cons (pv 1) pa_nil)) pe_int) pe_int (nomark _)) (pss_cons (ps_if (pt_cmpR op_eq (pv 2) pe_int (nomark _)) (pss_one (ps_ret (pe_callN (ok_crc8 T) (hr.mono (by decide)) (by rfl) T.g_crc8 T.F_crc8.kp T.k1_start_crc8 pass0 (pa_cons (pv 0) pa_nil) (pk_cons (pv 1) pk_nil)))) pss_nil)
        (pss_cons (ps_if (pt_cmpR op_eq (pv 2) pe_int (nomark _)) (pss_one (ps_ret (pe_callN (ok_crc16 T) (hr.mono (by decide)) (by rfl) T.g_crc16 T.F_crc16.kp T.k1_start_crc16 pass0 (pa_cons (pv 0) pa_nil) (pk_cons (pv 1) pk_nil)))) pss_nil)
        (pss_one (ps_ret (pe_callN (ok_crc32 T) (hr.mono (by decide)) (by rfl) T.g_crc32 T.F_crc32.kp T.k1_start_crc32 pass0 (pa_cons (pv 0) pa_nil) (pk_cons (pv 1) pk_nil)))))) pss_nil)
      (pss_cons (ps_if (pt_cmpR op_eq (pv 2) pe_int (nomark _)) (pss_one (ps_ret (pe_call (ok_crc8 T) (hr.mono (by decide)) (by rfl) T.g_crc8 T.F_crc8.kp T.b2_crc8 T.v2_crc8 pass0 (pa_cons (pv 0) (pa_cons (pv 1) pa_nil))))) pss_nil)
      (pss_cons (ps_if (pt_cmpR op_eq (pv 2) pe_int (nomark _)) (pss_one (ps_ret (pe_call (ok_crc16 T) (hr.mono (by decide)) (by rfl) T.g_crc16 T.F_crc16.kp T.b2_crc16 T.v2_crc16 pass0 (pa_cons (pv 0) (pa_cons (pv 1) pa_nil))))) pss_nil)
      (pss_one (ps_ret (pe_call (ok_crc32 T) (hr.mono (by decide)) (by rfl) T.g_crc32 T.F_crc32.kp T.b2_crc32 T.v2_crc32 pass0 (pa_cons (pv 0) (pa_cons (pv 1) pa_nil)))))))), ?_⟩
  walk_at "when"
  · intro _ H1 e1
    walk_at "when"
    · intro hb H2 e2
      rcases hw with rfl | rfl | rfl
      · exact s_ret (ev_crcK (ev_var rfl) (ex_l (e1.trans e2) hS) (ev_var rfl) hrw hds) fun H3 e3 => k H3 ((e1.trans e2).trans e3)
      · exact wrong hb (by decide)
      · exact wrong hb (by decide)
    · intro hb2 H2 e2
      walk_at "when"
      · intro hb H3 e3
        rcases hw with rfl | rfl | rfl
        · exact wrong hb (by decide)
        · exact s_ret (ev_crcK (ev_var rfl) (ex_l ((e1.trans e2).trans e3) hS) (ev_var rfl) hrw hds) fun H4 e4 => k H4 (((e1.trans e2).trans e3).trans e4)
        · exact wrong hb (by decide)
      · intro hb H3 e3
        rcases hw with rfl | rfl | rfl
        · exact wrong2 hb2 (by decide)
        · exact wrong2 hb (by decide)
        · exact s_ret (ev_crcK (ev_var rfl) (ex_l ((e1.trans e2).trans e3) hS) (ev_var rfl) hrw hds) fun H4 e4 => k H4 (((e1.trans e2).trans e3).trans e4)
  · intro _ H1 e1
    walk_at "when"
    · intro hb H2 e2
      rcases hw with rfl | rfl | rfl
      · exact s_ret (ev_crc1 (ev_var rfl) (ex_l (e1.trans e2) hS) (ev_var rfl) hrw hds) fun H3 e3 => k H3 ((e1.trans e2).trans e3)
      · exact wrong hb (by decide)
      · exact wrong hb (by decide)
    · intro hb2 H2 e2
      walk_at "when"
      · intro hb H3 e3
        rcases hw with rfl | rfl | rfl
        · exact wrong hb (by decide)
        · exact s_ret (ev_crc1 (ev_var rfl) (ex_l ((e1.trans e2).trans e3) hS) (ev_var rfl) hrw hds) fun H4 e4 => k H4 (((e1.trans e2).trans e3).trans e4)
        · exact wrong hb (by decide)
      · intro hb H3 e3
        rcases hw with rfl | rfl | rfl
        · exact wrong2 hb2 (by decide)
        · exact wrong2 hb (by decide)
        · exact s_ret (ev_crc1 (ev_var rfl) (ex_l ((e1.trans e2).trans e3) hS) (ev_var rfl) hrw hds) fun H4 e4 => k H4 (((e1.trans e2).trans e3).trans e4)
theorem ev_told {σ : L2.St} {H : Hp} {t1 t2 t3 : TE} {E : XK} {ds : List Nat} {w r : Nat} (hw : w = 8 ∨ w = 16 ∨ w = 32) (h1 : EvS K t1 σ H ((cs ds).map V.int)) (h2 : Ev t2 σ H (.int (r : Int))) (h3 : Ev t3 σ H (.int (w : Int))) (hr : r < 2 ^ w) (hd : ∀ d ∈ ds, d < 256) : Ev (tCall (sp_told K) [] E (tCons t1 (tCons t2 (tCons t3 tNil)))) σ H (.int ((crcN w (TW w) r ds : Nat) : Int)) := fun H1 e Q q =>
  h1 H1 e _ fun p H2 e2 hp => h2 H2 (e.trans e2) _ fun H3 e3 => h3 H3 ((e.trans e2).trans e3) _ fun H4 e4 =>
    ⟨p, ds, r, w, rfl, ex_l (e3.trans e4) hp, hd, hr, hw, fun H6 e6 => q H6 (((e2.trans e3).trans e4).trans e6)⟩
def sp_bare (K : PySem.W.Frag) : Sp := fun vs H Q _ => ∃ (a : Addr) (ds : List Nat) (w : Nat), vs = [.ref a, .int (w : Int)] ∧ SqL K H a ((cs ds).map V.int) ∧ (∀ d ∈ ds, d < 256) ∧ (w = 8 ∨ w = 16 ∨ w = 32) ∧ RetV (.int ((crcN w (TW w) 0 ds : Nat) : Int)) H Q
theorem ok_law_bare (T : TX K mg) : FnOk P w K mg base CX0 3 T.a_law_bare T.d_law_bare ["data", "width"] (sp_bare K) := by
  refine T.F_law_bare.ok sc_law_bare (fun vs H Q E h => by obtain ⟨a, ds, w, rfl, _⟩ := h; rfl) (fun cdv A outer s H vs Q E hr h => ?_)
  obtain ⟨a, ds, wd, rfl, hS, hds, hw, k⟩ := h
  refine ⟨_, (pss_cons (ps_if (pt_cmpR op_eq (pv 1) pe_int (nomark _)) (pss_one (ps_ret (pe_call (ok_crc8 T) (hr.mono (by decide)) (by rfl) T.g_crc8 T.F_crc8.kp T.b1_crc8 T.v1_crc8 pass0 (pa_cons (pv 0) pa_nil)))) pss_nil)
      (pss_cons (ps_if (pt_cmpR op_eq (pv 1) pe_int (nomark _)) (pss_one (ps_ret (pe_call (ok_crc16 T) (hr.mono (by decide)) (by rfl) T.g_crc16 T.F_crc16.kp T.b1_crc16 T.v1_crc16 pass0 (pa_cons (pv 0) pa_nil)))) pss_nil)
      (pss_one (ps_ret (pe_call (ok_crc32 T) (hr.mono (by decide)) (by rfl) T.g_crc32 T.F_crc32.kp T.b1_crc32 T.v1_crc32 pass0 (pa_cons (pv 0) pa_nil)))))), ?_⟩
  walk_at "when"
  · intro hb H2 e2
    rcases hw with rfl | rfl | rfl
    · exact s_ret (ev_crc0 (ev_var rfl) (ex_l (e2) hS) hds) fun H3 e3 => k H3 (e2.trans e3)
    · exact wrong hb (by decide)
    · exact wrong hb (by decide)
  · intro hb2 H2 e2
    walk_at "when"
    · intro hb H3 e3
      rcases hw with rfl | rfl | rfl
      · exact wrong hb (by decide)
      · exact s_ret (ev_crc0 (ev_var rfl) (ex_l (e2.trans e3) hS) hds) fun H4 e4 => k H4 ((e2.trans e3).trans e4)
      · exact wrong hb (by decide)
    · intro hb H3 e3
      rcases hw with rfl | rfl | rfl
      · exact wrong2 hb2 (by decide)
      · exact wrong2 hb (by decide)
      · exact s_ret (ev_crc0 (ev_var rfl) (ex_l (e2.trans e3) hS) hds) fun H4 e4 => k H4 ((e2.trans e3).trans e4)
theorem ev_bare {σ : L2.St} {H : Hp} {t1 t3 : TE} {E : XK} {ds : List Nat} {w : Nat} (hw : w = 8 ∨ w = 16 ∨ w = 32) (h1 : EvS K t1 σ H ((cs ds).map V.int)) (h3 : Ev t3 σ H (.int (w : Int))) (hd : ∀ d ∈ ds, d < 256) : Ev (tCall (sp_bare K) [] E (tCons t1 (tCons t3 tNil))) σ H (.int ((crcN w (TW w) 0 ds : Nat) : Int)) := fun H1 e Q q =>
  h1 H1 e _ fun p H2 e2 hp => h3 H2 (e.trans e2) _ fun H4 e4 => ⟨p, ds, w, rfl, ex_l e4 hp, hd, hw, fun H6 e6 => q H6 ((e2.trans e4).trans e6)⟩
def sp_right : Sp := fun vs H Q _ => ∃ a e : Int, vs = [.int a, .int e] ∧ RetV (.bl (decide (a = e))) H Q
theorem ok_law_right (T : TX K mg) : FnOk P w K mg base CX0 1 T.a_law_right T.d_law_right ["actual", "expected"] sp_right := by
  refine T.F_law_right.ok sc_law_right (fun vs H Q E h => by obtain ⟨a, e, rfl, _⟩ := h; rfl) (fun cdv A outer s H vs Q E hr h => ?_)
  obtain ⟨a, e, rfl, k⟩ := h
  refine ⟨_, (pss_one (ps_ret (pe_and (pe_callB (r := rIsi K) call_isi (by rfl) T.m_isinstance PyProof.Rows.boot_isinstance (pa_cons (pv 0) (pa_cons (pe_bltn (v := V.ty "int") (by rfl) T.m_int PyProof.Rows.boot_int rfl) pa_nil))) (pe_and (pe_not (pe_callB (r := rIsi K) call_isi (by rfl) T.m_isinstance PyProof.Rows.boot_isinstance (pa_cons (pv 0) (pa_cons (pe_bltn (v := V.ty "bool") (by rfl) T.m_bool PyProof.Rows.boot_bool rfl) pa_nil)))) (pe_one (pe_cmpR op_eq (pv 0) (pv 1) (nomark _))))))), ?_⟩
  walk_at "ret"
  intro H2 e2
  refine ret_eq k e2 (congrArg V.bl ?_)
  by_cases h : a = e
  · subst h
    simp
  · have h2 : V.int a ≠ V.int e := fun z => h (V.int.inj z)
    simp [h, h2]
theorem et_right {σ : L2.St} {H : Hp} {t1 t2 : TE} {E : XK} {a e : Int} (h1 : Ev t1 σ H (.int a)) (h2 : Ev t2 σ H (.int e)) (he : a = e) : EvT (tB (tCall sp_right [] E (tCons t1 (tCons t2 tNil)))) σ H true :=
  et_B (ev_call (ea_cons h1 (ea_cons h2 ea_nil)) fun H1 _ Q q _ => ⟨a, e, rfl, by rw [decide_eq_true he]; exact q⟩)
def WW (i : Nat) : Nat := [8, 16, 32].getD i 0
theorem WW_is {i : Nat} (h : i < 3) : WW i = 8 ∨ WW i = 16 ∨ WW i = 32 := by
  match i, h with
  | 0, _ => exact .inl rfl
  | 1, _ => exact .inr (.inl rfl)
  | 2, _ => exact .inr (.inr rfl)
def sp_law (K : PySem.W.Frag) : Sp := fun vs H Q _ => ∃ (a : Addr) (ns : List Int), vs = [.ref a] ∧ SqL K H a (ns.map V.int) ∧ ns.length ≤ 63 ∧ ∀ H', Q (.bl true) H'
theorem ok_law (T : TX K mg) : FnOk P w K mg base CX0 4 T.a_law T.d_law ["script"] (sp_law K) := by
  refine T.F_law.ok sc_law (fun vs H Q E h => by obtain ⟨a, ns, rfl, _⟩ := h; rfl) (fun cdv A outer s H vs Q E hr h => ?_)
  obtain ⟨a, ns, rfl, hS, hlen, k⟩ := h
  refine ⟨_, (pss_cons (ps_set (i := 1) sc_law.nd rfl (Or.inl rfl) (pe_call (ok_law_data T) (hr.mono (by decide)) (by rfl) T.g_law_data T.F_law_data.kp T.b_law_data .nil pass0 (pa_cons (pe_call (ok_law_cell T) (hr.mono (by decide)) (by rfl) T.g_law_cell T.F_law_cell.kp T.b_law_cell .nil pass0 (pa_cons (pv 0) (pa_cons pe_int pa_nil))) (pa_cons (pe_call (ok_law_cell T) (hr.mono (by decide)) (by rfl) T.g_law_cell T.F_law_cell.kp T.b_law_cell .nil pass0 (pa_cons (pv 0) (pa_cons pe_int pa_nil))) pa_nil))))
      (pss_cons (ps_set (i := 2) sc_law.nd rfl (Or.inl rfl) (pe_call (ok_law_draw T) (hr.mono (by decide)) (by rfl) T.g_law_draw T.F_law_draw.kp T.b_law_draw .nil pass0 (pa_cons (pe_call (ok_law_cell T) (hr.mono (by decide)) (by rfl) T.g_law_cell T.F_law_cell.kp T.b_law_cell .nil pass0 (pa_cons (pv 0) (pa_cons pe_int pa_nil))) (pa_cons pe_int (pa_cons (pe_op op_shl pe_int pe_int) pa_nil)))))
      (pss_cons (ps_set (i := 3) sc_law.nd rfl (Or.inl rfl) (pe_op op_mod (pe_callTy call_int1 (by rfl) T.m_int PyProof.Rows.boot_int (pa_cons (pe_call (ok_law_cell T) (hr.mono (by decide)) (by rfl) T.g_law_cell T.F_law_cell.kp T.b_law_cell .nil pass0 (pa_cons (pv 0) (pa_cons pe_int pa_nil))) pa_nil)) (pe_op op_add (pe_callB (r := rLenS K) call_len_seq (by rfl) T.m_len PySem.boot_len (pa_cons (pv 1) pa_nil)) pe_int)))
      (pss_cons (ps_set (i := 4) sc_law.nd rfl (Or.inl rfl) (pe_lst (pa_cons pe_int (pa_cons pe_int (pa_cons pe_int pa_nil)))))
      (pss_cons (ps_for PassesOwn.never rfl (pi_range1 (by rfl) T.m_range (pa_cons pe_int pa_nil)) (pg_name (i := 5) sc_law.nd rfl (Or.inl rfl)) (pss_cons (ps_set (i := 6) sc_law.nd rfl (Or.inl rfl) (pe_ix (r := rIxL K) ix_list (pe_lst (pa_cons pe_int (pa_cons pe_int (pa_cons pe_int pa_nil)))) (pv 5) (fun _ _ => rfl)))
        (pss_cons (ps_set (i := 7) sc_law.nd rfl (Or.inl rfl) (pe_op op_mod (pe_callTy call_int1 (by rfl) T.m_int PyProof.Rows.boot_int (pa_cons (pe_ix (r := rIxL K) ix_list (pv 2) (pv 5) (fun _ _ => rfl)) pa_nil)) (pe_op op_shl pe_int (pv 6))))
        (pss_cons (ps_if (pt_cmpR op_eq (pe_op op_mod (pe_callTy call_int1 (by rfl) T.m_int PyProof.Rows.boot_int (pa_cons (pe_call (ok_law_cell T) (hr.mono (by decide)) (by rfl) T.g_law_cell T.F_law_cell.kp T.b_law_cell .nil pass0 (pa_cons (pv 0) (pa_cons pe_int pa_nil))) pa_nil)) pe_int) pe_int (nomark _)) (pss_one (ps_set (i := 7) sc_law.nd rfl (Or.inl rfl) pe_int)) pss_nil)
        (pss_cons (ps_set (i := 8) sc_law.nd rfl (Or.inl rfl) (pe_callTy (r := rListS K) call_list_of (by rfl) T.m_list PyProof.Rows.boot_list (pa_cons (pv 1) pa_nil)))
        (pss_cons (ps_set (i := 9) sc_law.nd rfl (Or.inl rfl) (pe_call (ok_law_remainder T) (hr.mono (by decide)) (by rfl) T.g_law_remainder T.F_law_remainder.kp T.b_law_remainder .nil pass0 (pa_cons (pv 1) (pa_cons (pv 7) (pa_cons (pv 6) (pa_cons (pe_ix (r := rIxL K) ix_list (pv 4) (pv 5) (fun _ _ => rfl)) pa_nil))))))
        (pss_cons (ps_if (PW.pt (pw_or (pt_not (pt_val (pe_call (ok_law_right T) (hr.mono (by decide)) (by rfl) T.g_law_right T.F_law_right.kp T.b_law_right .nil pass0 (pa_cons (pe_call (ok_law_told T) (hr.mono (by decide)) (by rfl) T.g_law_told T.F_law_told.kp T.b_law_told .nil pass0 (pa_cons (pv 8) (pa_cons (pv 7) (pa_cons (pv 6) pa_nil)))) (pa_cons (pv 9) pa_nil))))) (pw_or1 (pt_cmpR (op_neD (hu64 hr)) (pv 8) (pv 1) (nomark _))))) (pss_one (ps_ret pe_bl)) pss_nil)
        (pss_cons (ps_set (i := 10) sc_law.nd rfl (Or.inl rfl) (pe_call (ok_law_told T) (hr.mono (by decide)) (by rfl) T.g_law_told T.F_law_told.kp T.b_law_told .nil pass0 (pa_cons (pe_slice (r := rSlL K) sl_list (pv 1) po_none (po_some (pv 3))) (pa_cons (pv 7) (pa_cons (pv 6) pa_nil)))))
        (pss_cons (ps_if (pt_not (pt_val (pe_call (ok_law_right T) (hr.mono (by decide)) (by rfl) T.g_law_right T.F_law_right.kp T.b_law_right .nil pass0 (pa_cons (pv 10) (pa_cons (pe_call (ok_law_remainder T) (hr.mono (by decide)) (by rfl) T.g_law_remainder T.F_law_remainder.kp T.b_law_remainder .nil pass0 (pa_cons (pe_slice (r := rSlL K) sl_list (pv 1) po_none (po_some (pv 3))) (pa_cons (pv 7) (pa_cons (pv 6) (pa_cons (pe_ix (r := rIxL K) ix_list (pv 4) (pv 5) (fun _ _ => rfl)) pa_nil))))) pa_nil))))) (pss_one (ps_ret pe_bl)) pss_nil)
        (pss_cons (ps_if (pt_not (pt_val (pe_call (ok_law_right T) (hr.mono (by decide)) (by rfl) T.g_law_right T.F_law_right.kp T.b_law_right .nil pass0 (pa_cons (pe_call (ok_law_told T) (hr.mono (by decide)) (by rfl) T.g_law_told T.F_law_told.kp T.b_law_told .nil pass0 (pa_cons (pe_slice (r := rSlL K) sl_list (pv 1) (po_some (pv 3)) po_none) (pa_cons (pv 10) (pa_cons (pv 6) pa_nil)))) (pa_cons (pv 9) pa_nil))))) (pss_one (ps_ret pe_bl)) pss_nil)
        (pss_one (ps_if (pt_not (pt_val (pe_call (ok_law_right T) (hr.mono (by decide)) (by rfl) T.g_law_right T.F_law_right.kp T.b_law_right .nil pass0 (pa_cons (pe_call (ok_law_bare T) (hr.mono (by decide)) (by rfl) T.g_law_bare T.F_law_bare.kp T.b_law_bare .nil pass0 (pa_cons (pv 1) (pa_cons (pv 6) pa_nil))) (pa_cons (pe_call (ok_law_remainder T) (hr.mono (by decide)) (by rfl) T.g_law_remainder T.F_law_remainder.kp T.b_law_remainder .nil pass0 (pa_cons (pv 1) (pa_cons pe_int (pa_cons (pv 6) (pa_cons (pe_ix (r := rIxL K) ix_list (pv 4) (pv 5) (fun _ _ => rfl)) pa_nil))))) pa_nil))))) (pss_one (ps_ret pe_bl)) pss_nil))))))))))))
      (pss_one (ps_ret pe_bl))))))), ?_⟩
  refine q_asgC (vs := [.int (cellI ns 0), .int (cellI ns 1)]) (by walk_at "ea") fun H1 e1 => ⟨_, _, rfl, fun p ds H2 hp e2 hl hdl hds => ?_⟩
  have ex2 := e1.trans e2
  refine q_asgC (vs := [.int (cellI ns 2), .int 3, .int (1 * 2 ^ (32 : Int).toNat)]) (ea_cons (by walk_at "ev") (ea_cons ev_c (ea_cons (ev_I ev_c ev_c ⟨by decide, by decide, by decide⟩) ea_nil))) fun H3 e3 => ⟨_, 3, _, rfl, by decide, by decide, by decide, by decide, fun p2 ss H4 hp2 e4 hl2 hsl hss => ?_⟩
  obtain ⟨s0, s1, s2, rfl⟩ := three_of hsl
  have ex4 := ex2.trans (e3.trans e4)
  have hl4 := e4 _ _ (e3 _ _ hl)
  have hm0 := Int.emod_nonneg (cellI ns 3) (show ((ds.length : Int) + 1) ≠ 0 by omega)
  have hm1 := Int.emod_lt_of_pos (cellI ns 3) (show 0 < ((ds.length : Int) + 1) by omega)
  refine q_asg (v := .int (((cellI ns 3 % (ds.length + 1)).toNat : Nat) : Int)) (Ev.is (ev_I (by walk_at "ev") (ev_I0 (ev_lenS (Ev.s (ev_var rfl) (sq_of hl4))) ev_c) (by rw [List.length_map, cs_len]; omega)) (congrArg V.int (by rw [List.length_map, cs_len]; omega))) fun H5 e5 => ?_
  have hcl : (cellI ns 3 % (ds.length + 1)).toNat ≤ ds.length := by omega
  generalize (cellI ns 3 % (ds.length + 1)).toNat = cut at *
  refine q_asgL (xs := (cs [7, 32773, 79764919]).map V.int) (el_lst (by walk_at "ea") (by decide)) fun p3 H6 hp3 e6 hl3 => ?_
  have ex6 := ex4.trans (e5.trans e6)
  have gl := e6 _ _ (e5 _ _ hl4)
  have gl2 := e6 _ _ (e5 _ _ hl2)
  refine q_forR1 (n := 3) (by walk_at "ea") (by omega) (fun i σ' H' => ∃ z5 z6 z7 z8 z9 z10, σ' = [some (.ref a), some (.ref p), some (.ref p2), some (.int (cut : Int)), some (.ref p3), z5, z6, z7, z8, z9, z10] ∧ Ex H6 H') (fun H7 e7 => ⟨none, none, none, none, none, none, rfl, e7⟩) ?_ ?_
  · rintro i σ' H7 hi ⟨z5, z6, z7, z8, z9, z10, rfl, ex⟩
    have hi : i < 3 := by omega
    have hw := WW_is hi
    have hc3 : [7, 32773, 79764919][i]? = some (PW (WW i)) := by
      match i, hi with
      | 0, _ => rfl
      | 1, _ => rfl
      | 2, _ => rfl
    have hsi : ∃ s, [s0, s1, s2][i]? = some s := by
      match i, hi with
      | 0, _ => exact ⟨_, rfl⟩
      | 1, _ => exact ⟨_, rfl⟩
      | 2, _ => exact ⟨_, rfl⟩
    obtain ⟨s, hs⟩ := hsi
    refine q_asg (v := .int ((WW i : Nat) : Int)) (ev_at (xs := (cs [8, 16, 32]).map V.int) (EvR.s (EvL.r (el_lst (by walk_at "ea") (by decide)))) (ev_var rfl) (at_of rfl (at_int (cs_at ?_)))) fun H8 e8 => ?_
    · match i, hi with
      | 0, _ => rfl
      | 1, _ => rfl
      | 2, _ => rfl
    generalize WW i = wd at *
    have hp2w : (1 : Int) * 2 ^ ((wd : Int)).toNat = ((2 ^ wd : Nat) : Int) := by
      rw [Int.toNat_natCast, Int.one_mul, Int.natCast_pow]
      rfl
    have hpos : 0 < 2 ^ wd := Nat.two_pow_pos _
    refine q_asg (v := .int (((s % ((2 ^ wd : Nat) : Int)).toNat : Nat) : Int)) (Ev.is (ev_I (ev_int1 (ev_at (Ev.s (ev_var rfl) (sq_of (e8 _ _ (ex _ _ gl2)))) (ev_var rfl) (at_of rfl (at_int hs)))) (ev_I ev_c (ev_var rfl) (show CPow 1 _ from ⟨by omega, by omega, by decide⟩)) (by rw [hp2w]; show (0 : Int) < _; omega)) (congrArg V.int (by rw [hp2w]; have := Int.emod_nonneg s (show ((2 ^ wd : Nat) : Int) ≠ 0 by omega); omega))) fun H9 e9 => ?_
    have hrw : (s % ((2 ^ wd : Nat) : Int)).toNat < 2 ^ wd := by
      have := Int.emod_lt_of_pos s (show (0 : Int) < ((2 ^ wd : Nat) : Int) by omega)
      omega
    generalize (s % ((2 ^ wd : Nat) : Int)).toNat = r0 at *
    generalize hrr : (if decide (V.int (cellI ns 4 % 2) = V.int 0) = true then 0 else r0) = r
    have hr : r < 2 ^ wd := by
      subst hrr
      split
      · exact hpos
      · exact hrw
    have ex9 := ex.trans (e8.trans e9)
    have exS := ex6.trans ex9
    refine q_ifAsg (b := decide (V.int (cellI ns 4 % 2) = V.int 0)) (v := V.int (r : Int)) (et_test (by walk_at "ev")) (fun hb => Ev.is ev_c (by rw [← hrr, if_pos hb]; rfl)) (fun hb => by rw [← hrr, if_neg (by rw [hb]; decide)]; rfl) fun H10 e10 => ?_
    have gd : H10 p = _ := e10 _ _ (ex9 _ _ gl)
    refine q_asgL (xs := (cs ds).map V.int) (el_of (Ev.s (ev_var rfl) (sq_of gd))) fun p4 H11 hp4 e11 hl11 => ?_
    have gd11 := e11 _ _ gd
    have gp : H11 p3 = _ := e11 _ _ (e10 _ _ (ex9 _ _ hl3))
    have hev : ∀ {σ : L2.St} {H12 : Hp} {tl ti : TE}, Ex H11 H12 → Ev tl σ H12 (.ref p3) → Ev ti σ H12 (.int (i : Int)) → Ev (tOp (rIxL K) tl ti) σ H12 (.int ((PW wd : Nat) : Int)) := fun e12 h1 h2 => ev_at (Ev.s h1 (sq_of (e12 _ _ gp))) h2 (at_of rfl (at_int (cs_at hc3)))
    refine q_asg (ev_rem (a := p) hw (Ev.s (ev_var rfl) (sq_of gd11)) (ev_var rfl) (ev_var rfl) (hev (Ex.refl _) (ev_var rfl) (ev_var rfl)) hr hds (by omega)) fun H12 e12 => ?_
    have h4 := e12 _ _ hl11
    have gd12 := e12 _ _ gd11
    refine q_when (b := false) (et_or (a := !true) (b := false) (et_not (et_right (ev_told hw (Ev.s (ev_var rfl) (sq_of h4)) (ev_var rfl) (ev_var rfl) hr hds) (ev_var rfl) rfl)) fun _ => et_test (Ev.is (ev_neI (Ev.s (ev_var rfl) (sq_of h4)) (Ev.s (ev_var rfl) (sq_of gd12))) (by rw [decide_eq_true rfl]; rfl))) (fun hb => by cases hb) fun _ H13 e13 => ?_
    have gd13 := e13 _ _ gd12
    have htk : EvS K (tSl (rSlL K) (tVar 1) tNoPart (tPart (tVar 3))) ([some (.ref a), some (.ref p), some (.ref p2), some (.int (cut : Int)), some (.ref p3), some (.int (i : Int)), some (.int (wd : Int)), some (.int (r : Int)), some (.ref p4), some (.int ((crcN wd (TW wd) r ds : Nat) : Int)), z10] : L2.St) H13 ((cs (ds.take cut)).map V.int) := by
      rw [← cs_take]
      exact EvR.s (EvL.r (el_to (Ev.s (ev_var rfl) (sq_of gd13)) (ev_var rfl)))
    have hdt : ∀ d ∈ ds.take cut, d < 256 := fun d hd => hds d (List.mem_of_mem_take hd)
    have hdd : ∀ d ∈ ds.drop cut, d < 256 := fun d hd => hds d (List.mem_of_mem_drop hd)
    refine q_asg (ev_told hw htk (ev_var rfl) (ev_var rfl) hr hdt) fun H14 e14 => ?_
    have hfl := (crcN_ok (tabW hw) (ds.take cut) r hr hdt).1
    have gd14 := e14 _ _ gd13
    have happ : crcN wd (TW wd) (crcN wd (TW wd) r (ds.take cut)) (ds.drop cut) = crcN wd (TW wd) r ds := by
      conv => rhs; rw [← List.take_append_drop cut ds]
      unfold crcN
      rw [List.foldl_append]
    refine q_when (b := !true) (et_not (et_right (ev_var rfl) (ev_rem (a := p) hw (EvR.s (EvL.r (EvL.is (el_to (Ev.s (ev_var rfl) (sq_of gd14)) (ev_var rfl)) (by rw [cs_take])))) (ev_var rfl) (ev_var rfl) (hev (e12.trans (e13.trans e14)) (ev_var rfl) (ev_var rfl)) hr hdt (by rw [List.length_take]; omega)) rfl)) (fun hb => by cases hb) fun _ H15 e15 => ?_
    have gd15 := e15 _ _ gd14
    refine q_when (b := !true) (et_not (et_right (ev_told hw (EvR.s (EvL.r (EvL.is (el_from (Ev.s (ev_var rfl) (sq_of gd15)) (ev_var rfl)) (by rw [cs_drop])))) (ev_var rfl) (ev_var rfl) hfl hdd) (ev_var rfl) (congrArg (fun n : Nat => (n : Int)) happ))) (fun hb => by cases hb) fun _ H16 e16 => ?_
    have gd16 := e16 _ _ gd15
    refine s_when (b := !true) (et_not (et_right (ev_bare hw (Ev.s (ev_var rfl) (sq_of gd16)) (ev_var rfl) hds) (ev_rem (r := 0) (a := p) hw (Ev.s (ev_var rfl) (sq_of gd16)) ev_c (ev_var rfl) (hev (e12.trans (e13.trans (e14.trans (e15.trans e16)))) (ev_var rfl) (ev_var rfl)) hpos hds (by omega)) rfl)) (fun hb => by cases hb) fun _ H17 e17 => ?_
    exact ⟨_, _, _, _, _, _, rfl, ex9.trans (e10.trans (e11.trans (e12.trans (e13.trans (e14.trans (e15.trans (e16.trans e17)))))))⟩
  · rintro σ' H7 ⟨z5, z6, z7, z8, z9, z10, rfl, ex⟩
    walk_at "ret"
    intro H8 e8
    exact k _

end
theorem all_mk {l : PySem.W.OpenLaw} {w : World} {K : PySem.W.Frag} {h : Heap} {mg : Str → Option Value} {fa : Addr} {f1 f2 f3 f4 f5 f6 f7 f8 f9 f10 f11 f12 A_STEPS_8 A_STEPS_16 A_STEPS_32 : Addr} (X : K.In h) (G : h.Ns mainGlobals mg) (hfa : mg "law" = some (.ref fa))
    {od1 an1 : Option Addr} {sl1 : Array (Option Value)} {oc1 dc1 pm1 cd1 ct1 : Value} {kV1 : Value} {DT1 : Addr} {du1_0 tc1 : Value} {td1 : Option Addr} {tn1 : Nat} {tsl1 : Array (Option Value)} {od2 an2 : Option Addr} {sl2 : Array (Option Value)} {oc2 dc2 pm2 cd2 ct2 : Value} {kV2 : Value} {DT2 : Addr} {du2_0 tc2 : Value} {td2 : Option Addr} {tn2 : Nat} {tsl2 : Array (Option Value)} {od3 an3 : Option Addr} {sl3 : Array (Option Value)} {oc3 dc3 pm3 cd3 ct3 : Value} {kV3 : Value} {DT3 : Addr} {du3_0 tc3 : Value} {td3 : Option Addr} {tn3 : Nat} {tsl3 : Array (Option Value)} {od4 an4 : Option Addr} {sl4 : Array (Option Value)} {oc4 dc4 pm4 cd4 ct4 : Value} {kV4 : Value} {od5 an5 : Option Addr} {sl5 : Array (Option Value)} {oc5 dc5 pm5 cd5 ct5 : Value} {kV5 : Value} {od6 an6 : Option Addr} {sl6 : Array (Option Value)} {oc6 dc6 pm6 cd6 ct6 : Value} {kV6 : Value} {od7 an7 : Option Addr} {sl7 : Array (Option Value)} {oc7 dc7 pm7 cd7 ct7 : Value} {kV7 : Value} {od8 an8 : Option Addr} {sl8 : Array (Option Value)} {oc8 dc8 pm8 cd8 ct8 : Value} {kV8 : Value} {od9 an9 : Option Addr} {sl9 : Array (Option Value)} {oc9 dc9 pm9 cd9 ct9 : Value} {kV9 : Value} {od10 an10 : Option Addr} {sl10 : Array (Option Value)} {oc10 dc10 pm10 cd10 ct10 : Value} {kV10 : Value} {od11 an11 : Option Addr} {sl11 : Array (Option Value)} {oc11 dc11 pm11 cd11 ct11 : Value} {kV11 : Value} {od12 an12 : Option Addr} {sl12 : Array (Option Value)} {oc12 dc12 pm12 cd12 ct12 : Value} {kV12 : Value} {wSTEPS_8_0 wSTEPS_8_1 wSTEPS_8_2 wSTEPS_8_3 wSTEPS_8_4 wSTEPS_8_5 wSTEPS_8_6 wSTEPS_8_7 wSTEPS_8_8 wSTEPS_8_9 wSTEPS_8_10 wSTEPS_8_11 wSTEPS_8_12 wSTEPS_8_13 wSTEPS_8_14 wSTEPS_8_15 : Value} {dxSTEPS_8 : Option Addr} {nxSTEPS_8 : Nat} {sxSTEPS_8 : Array (Option Value)} {wSTEPS_16_0 wSTEPS_16_1 wSTEPS_16_2 wSTEPS_16_3 wSTEPS_16_4 wSTEPS_16_5 wSTEPS_16_6 wSTEPS_16_7 wSTEPS_16_8 wSTEPS_16_9 wSTEPS_16_10 wSTEPS_16_11 wSTEPS_16_12 wSTEPS_16_13 wSTEPS_16_14 wSTEPS_16_15 : Value} {dxSTEPS_16 : Option Addr} {nxSTEPS_16 : Nat} {sxSTEPS_16 : Array (Option Value)} {wSTEPS_32_0 wSTEPS_32_1 wSTEPS_32_2 wSTEPS_32_3 wSTEPS_32_4 wSTEPS_32_5 wSTEPS_32_6 wSTEPS_32_7 wSTEPS_32_8 wSTEPS_32_9 wSTEPS_32_10 wSTEPS_32_11 wSTEPS_32_12 wSTEPS_32_13 wSTEPS_32_14 wSTEPS_32_15 : Value} {dxSTEPS_32 : Option Addr} {nxSTEPS_32 : Nat} {sxSTEPS_32 : Array (Option Value)}
    (a1 : PySem.W.nsIn K mainGlobals "crc8" = some (some (.ref f1)))
    (l1 : K.lookup f1 = some ⟨oc1, od1, .func (PySem.W.fnOf "crc8" "crc8" (defArgs s_crc8) (defBody s_crc8) (defScope s_crc8) (.ref DT1) kV1 dc1 pm1 an1 cd1 ct1), sl1⟩) (c1 : PySem.W.codeIn K cd1 "crc8" = true) (k1 : PySem.W.keepIn K (.ref f1) = true)
    (t1 : K.lookup DT1 = some ⟨tc1, td1, .seq (List.toArray [du1_0]) tn1, tsl1⟩)
    (rd1_0 : RelV (V.int 0) du1_0)
    (a2 : PySem.W.nsIn K mainGlobals "crc16" = some (some (.ref f2)))
    (l2 : K.lookup f2 = some ⟨oc2, od2, .func (PySem.W.fnOf "crc16" "crc16" (defArgs s_crc16) (defBody s_crc16) (defScope s_crc16) (.ref DT2) kV2 dc2 pm2 an2 cd2 ct2), sl2⟩) (c2 : PySem.W.codeIn K cd2 "crc16" = true) (k2 : PySem.W.keepIn K (.ref f2) = true)
    (t2 : K.lookup DT2 = some ⟨tc2, td2, .seq (List.toArray [du2_0]) tn2, tsl2⟩)
    (rd2_0 : RelV (V.int 0) du2_0)
    (a3 : PySem.W.nsIn K mainGlobals "crc32" = some (some (.ref f3)))
    (l3 : K.lookup f3 = some ⟨oc3, od3, .func (PySem.W.fnOf "crc32" "crc32" (defArgs s_crc32) (defBody s_crc32) (defScope s_crc32) (.ref DT3) kV3 dc3 pm3 an3 cd3 ct3), sl3⟩) (c3 : PySem.W.codeIn K cd3 "crc32" = true) (k3 : PySem.W.keepIn K (.ref f3) = true)
    (t3 : K.lookup DT3 = some ⟨tc3, td3, .seq (List.toArray [du3_0]) tn3, tsl3⟩)
    (rd3_0 : RelV (V.int 0) du3_0)
    (a4 : PySem.W.nsIn K mainGlobals "_divided" = some (some (.ref f4)))
    (l4 : K.lookup f4 = some ⟨oc4, od4, .func (PySem.W.fnOf "_divided" "_divided" (defArgs s_divided) (defBody s_divided) (defScope s_divided) .none kV4 dc4 pm4 an4 cd4 ct4), sl4⟩) (c4 : PySem.W.codeIn K cd4 "_divided" = true) (k4 : PySem.W.keepIn K (.ref f4) = true)
    (a5 : PySem.W.nsIn K mainGlobals "_law_draw" = some (some (.ref f5)))
    (l5 : K.lookup f5 = some ⟨oc5, od5, .func (PySem.W.fnOf "_law_draw" "_law_draw" (defArgs s_law_draw) (defBody s_law_draw) (defScope s_law_draw) .none kV5 dc5 pm5 an5 cd5 ct5), sl5⟩) (c5 : PySem.W.codeIn K cd5 "_law_draw" = true) (k5 : PySem.W.keepIn K (.ref f5) = true)
    (a6 : PySem.W.nsIn K mainGlobals "_law_cell" = some (some (.ref f6)))
    (l6 : K.lookup f6 = some ⟨oc6, od6, .func (PySem.W.fnOf "_law_cell" "_law_cell" (defArgs s_law_cell) (defBody s_law_cell) (defScope s_law_cell) .none kV6 dc6 pm6 an6 cd6 ct6), sl6⟩) (c6 : PySem.W.codeIn K cd6 "_law_cell" = true) (k6 : PySem.W.keepIn K (.ref f6) = true)
    (a7 : PySem.W.nsIn K mainGlobals "_law_data" = some (some (.ref f7)))
    (l7 : K.lookup f7 = some ⟨oc7, od7, .func (PySem.W.fnOf "_law_data" "_law_data" (defArgs s_law_data) (defBody s_law_data) (defScope s_law_data) .none kV7 dc7 pm7 an7 cd7 ct7), sl7⟩) (c7 : PySem.W.codeIn K cd7 "_law_data" = true) (k7 : PySem.W.keepIn K (.ref f7) = true)
    (a8 : PySem.W.nsIn K mainGlobals "_law_remainder" = some (some (.ref f8)))
    (l8 : K.lookup f8 = some ⟨oc8, od8, .func (PySem.W.fnOf "_law_remainder" "_law_remainder" (defArgs s_law_remainder) (defBody s_law_remainder) (defScope s_law_remainder) .none kV8 dc8 pm8 an8 cd8 ct8), sl8⟩) (c8 : PySem.W.codeIn K cd8 "_law_remainder" = true) (k8 : PySem.W.keepIn K (.ref f8) = true)
    (a9 : PySem.W.nsIn K mainGlobals "_law_told" = some (some (.ref f9)))
    (l9 : K.lookup f9 = some ⟨oc9, od9, .func (PySem.W.fnOf "_law_told" "_law_told" (defArgs s_law_told) (defBody s_law_told) (defScope s_law_told) .none kV9 dc9 pm9 an9 cd9 ct9), sl9⟩) (c9 : PySem.W.codeIn K cd9 "_law_told" = true) (k9 : PySem.W.keepIn K (.ref f9) = true)
    (a10 : PySem.W.nsIn K mainGlobals "_law_bare" = some (some (.ref f10)))
    (l10 : K.lookup f10 = some ⟨oc10, od10, .func (PySem.W.fnOf "_law_bare" "_law_bare" (defArgs s_law_bare) (defBody s_law_bare) (defScope s_law_bare) .none kV10 dc10 pm10 an10 cd10 ct10), sl10⟩) (c10 : PySem.W.codeIn K cd10 "_law_bare" = true) (k10 : PySem.W.keepIn K (.ref f10) = true)
    (a11 : PySem.W.nsIn K mainGlobals "_law_right" = some (some (.ref f11)))
    (l11 : K.lookup f11 = some ⟨oc11, od11, .func (PySem.W.fnOf "_law_right" "_law_right" (defArgs s_law_right) (defBody s_law_right) (defScope s_law_right) .none kV11 dc11 pm11 an11 cd11 ct11), sl11⟩) (c11 : PySem.W.codeIn K cd11 "_law_right" = true) (k11 : PySem.W.keepIn K (.ref f11) = true)
    (a12 : PySem.W.nsIn K mainGlobals "law" = some (some (.ref f12)))
    (l12 : K.lookup f12 = some ⟨oc12, od12, .func (PySem.W.fnOf "law" "law" (defArgs s_law) (defBody s_law) (defScope s_law) .none kV12 dc12 pm12 an12 cd12 ct12), sl12⟩) (c12 : PySem.W.codeIn K cd12 "law" = true) (k12 : PySem.W.keepIn K (.ref f12) = true)
    (z_range : PySem.W.nsIn K mainGlobals "range" = some none)
    (z_int : PySem.W.nsIn K mainGlobals "int" = some none)
    (z_len : PySem.W.nsIn K mainGlobals "len" = some none)
    (z_isinstance : PySem.W.nsIn K mainGlobals "isinstance" = some none)
    (z_bool : PySem.W.nsIn K mainGlobals "bool" = some none)
    (z_list : PySem.W.nsIn K mainGlobals "list" = some none)
    (q_STEPS_8 : PySem.W.nsIn K mainGlobals "_STEPS_8" = some (some (.ref A_STEPS_8))) (l_STEPS_8 : K.lookup A_STEPS_8 = some ⟨.type "tuple", dxSTEPS_8, .seq (List.toArray [wSTEPS_8_0, wSTEPS_8_1, wSTEPS_8_2, wSTEPS_8_3, wSTEPS_8_4, wSTEPS_8_5, wSTEPS_8_6, wSTEPS_8_7, wSTEPS_8_8, wSTEPS_8_9, wSTEPS_8_10, wSTEPS_8_11, wSTEPS_8_12, wSTEPS_8_13, wSTEPS_8_14, wSTEPS_8_15]) nxSTEPS_8, sxSTEPS_8⟩)
    (r_STEPS_8_0 : RelV (.int 0) wSTEPS_8_0)
    (r_STEPS_8_1 : RelV (.int 7) wSTEPS_8_1)
    (r_STEPS_8_2 : RelV (.int 14) wSTEPS_8_2)
    (r_STEPS_8_3 : RelV (.int 9) wSTEPS_8_3)
    (r_STEPS_8_4 : RelV (.int 28) wSTEPS_8_4)
    (r_STEPS_8_5 : RelV (.int 27) wSTEPS_8_5)
    (r_STEPS_8_6 : RelV (.int 18) wSTEPS_8_6)
    (r_STEPS_8_7 : RelV (.int 21) wSTEPS_8_7)
    (r_STEPS_8_8 : RelV (.int 56) wSTEPS_8_8)
    (r_STEPS_8_9 : RelV (.int 63) wSTEPS_8_9)
    (r_STEPS_8_10 : RelV (.int 54) wSTEPS_8_10)
    (r_STEPS_8_11 : RelV (.int 49) wSTEPS_8_11)
    (r_STEPS_8_12 : RelV (.int 36) wSTEPS_8_12)
    (r_STEPS_8_13 : RelV (.int 35) wSTEPS_8_13)
    (r_STEPS_8_14 : RelV (.int 42) wSTEPS_8_14)
    (r_STEPS_8_15 : RelV (.int 45) wSTEPS_8_15)
    (q_STEPS_16 : PySem.W.nsIn K mainGlobals "_STEPS_16" = some (some (.ref A_STEPS_16))) (l_STEPS_16 : K.lookup A_STEPS_16 = some ⟨.type "tuple", dxSTEPS_16, .seq (List.toArray [wSTEPS_16_0, wSTEPS_16_1, wSTEPS_16_2, wSTEPS_16_3, wSTEPS_16_4, wSTEPS_16_5, wSTEPS_16_6, wSTEPS_16_7, wSTEPS_16_8, wSTEPS_16_9, wSTEPS_16_10, wSTEPS_16_11, wSTEPS_16_12, wSTEPS_16_13, wSTEPS_16_14, wSTEPS_16_15]) nxSTEPS_16, sxSTEPS_16⟩)
    (r_STEPS_16_0 : RelV (.int 0) wSTEPS_16_0)
    (r_STEPS_16_1 : RelV (.int 32773) wSTEPS_16_1)
    (r_STEPS_16_2 : RelV (.int 32783) wSTEPS_16_2)
    (r_STEPS_16_3 : RelV (.int 10) wSTEPS_16_3)
    (r_STEPS_16_4 : RelV (.int 32795) wSTEPS_16_4)
    (r_STEPS_16_5 : RelV (.int 30) wSTEPS_16_5)
    (r_STEPS_16_6 : RelV (.int 20) wSTEPS_16_6)
    (r_STEPS_16_7 : RelV (.int 32785) wSTEPS_16_7)
    (r_STEPS_16_8 : RelV (.int 32819) wSTEPS_16_8)
    (r_STEPS_16_9 : RelV (.int 54) wSTEPS_16_9)
    (r_STEPS_16_10 : RelV (.int 60) wSTEPS_16_10)
    (r_STEPS_16_11 : RelV (.int 32825) wSTEPS_16_11)
    (r_STEPS_16_12 : RelV (.int 40) wSTEPS_16_12)
    (r_STEPS_16_13 : RelV (.int 32813) wSTEPS_16_13)
    (r_STEPS_16_14 : RelV (.int 32807) wSTEPS_16_14)
    (r_STEPS_16_15 : RelV (.int 34) wSTEPS_16_15)
    (q_STEPS_32 : PySem.W.nsIn K mainGlobals "_STEPS_32" = some (some (.ref A_STEPS_32))) (l_STEPS_32 : K.lookup A_STEPS_32 = some ⟨.type "tuple", dxSTEPS_32, .seq (List.toArray [wSTEPS_32_0, wSTEPS_32_1, wSTEPS_32_2, wSTEPS_32_3, wSTEPS_32_4, wSTEPS_32_5, wSTEPS_32_6, wSTEPS_32_7, wSTEPS_32_8, wSTEPS_32_9, wSTEPS_32_10, wSTEPS_32_11, wSTEPS_32_12, wSTEPS_32_13, wSTEPS_32_14, wSTEPS_32_15]) nxSTEPS_32, sxSTEPS_32⟩)
    (r_STEPS_32_0 : RelV (.int 0) wSTEPS_32_0)
    (r_STEPS_32_1 : RelV (.int 79764919) wSTEPS_32_1)
    (r_STEPS_32_2 : RelV (.int 159529838) wSTEPS_32_2)
    (r_STEPS_32_3 : RelV (.int 222504665) wSTEPS_32_3)
    (r_STEPS_32_4 : RelV (.int 319059676) wSTEPS_32_4)
    (r_STEPS_32_5 : RelV (.int 398814059) wSTEPS_32_5)
    (r_STEPS_32_6 : RelV (.int 445009330) wSTEPS_32_6)
    (r_STEPS_32_7 : RelV (.int 507990021) wSTEPS_32_7)
    (r_STEPS_32_8 : RelV (.int 638119352) wSTEPS_32_8)
    (r_STEPS_32_9 : RelV (.int 583659535) wSTEPS_32_9)
    (r_STEPS_32_10 : RelV (.int 797628118) wSTEPS_32_10)
    (r_STEPS_32_11 : RelV (.int 726387553) wSTEPS_32_11)
    (r_STEPS_32_12 : RelV (.int 890018660) wSTEPS_32_12)
    (r_STEPS_32_13 : RelV (.int 835552979) wSTEPS_32_13)
    (r_STEPS_32_14 : RelV (.int 1015980042) wSTEPS_32_14)
    (r_STEPS_32_15 : RelV (.int 944750013) wSTEPS_32_15)
    : ∃ fd : FuncData, (∀ (s : Shared) (v : Value), BindsTo s fd ⟨[v], []⟩ [("script", v)]) ∧ ∀ base : Heap, K.In base → base.Ns mainGlobals mg → FnOk l.prog w K mg base CX0 4 fa fd ["script"] (sp_law K) := by
  have e := hfa.symm.trans (PySem.W.mg_of X G a12)
  cases e
  have F1 : FunD K "crc8" "crc8" (defArgs s_crc8) (defBody s_crc8) (defScope s_crc8) [V.int 0] [] _ _ := ⟨⟨_, _, _, _, _, _, _, _, _, _, rfl, l1, c1, (.inr ⟨by simp, DT1, _, [du1_0], tn1, rfl, t1, rfl, (.cons rd1_0 .nil)⟩), (.inl rfl)⟩, k1⟩
  obtain ⟨e2_1, v2_1, b2_1⟩ := F1.binds1 (ps := ["data", "start"]) 2 1 (by simp) rfl fun T0 kV doc pm an cdv ct us its hu hi => match us, hu, its, hi with | [_, _], _, [_], _ => ⟨_, rfl, rfl⟩
  obtain ⟨e1_1, v1_1, b1_1⟩ := F1.binds1 (ps := ["data", "start"]) 1 0 (by simp) rfl fun T0 kV doc pm an cdv ct us its hu hi => match us, hu, its, hi with | [_], _, [_], _ => ⟨_, rfl, rfl⟩
  have kb1_start_1 : KBn K _ ["data", "start"] 1 ["start"] (fun us ws => us ++ ws) (fun us ws => us ++ ws) := fund_kb1 F1 (by simp) 1 ["start"] (fun h1 h2 => Vals.append h1 h2) fun T0 kV doc pm an cdv ct us its ws hu hi hw => match us, hu, ws, hw, its, hi with | [_], _, [_], _, [_], _ => ⟨_, rfl, rfl⟩
  have F2 : FunD K "crc16" "crc16" (defArgs s_crc16) (defBody s_crc16) (defScope s_crc16) [V.int 0] [] _ _ := ⟨⟨_, _, _, _, _, _, _, _, _, _, rfl, l2, c2, (.inr ⟨by simp, DT2, _, [du2_0], tn2, rfl, t2, rfl, (.cons rd2_0 .nil)⟩), (.inl rfl)⟩, k2⟩
  obtain ⟨e2_2, v2_2, b2_2⟩ := F2.binds1 (ps := ["data", "start"]) 2 1 (by simp) rfl fun T0 kV doc pm an cdv ct us its hu hi => match us, hu, its, hi with | [_, _], _, [_], _ => ⟨_, rfl, rfl⟩
  obtain ⟨e1_2, v1_2, b1_2⟩ := F2.binds1 (ps := ["data", "start"]) 1 0 (by simp) rfl fun T0 kV doc pm an cdv ct us its hu hi => match us, hu, its, hi with | [_], _, [_], _ => ⟨_, rfl, rfl⟩
  have kb1_start_2 : KBn K _ ["data", "start"] 1 ["start"] (fun us ws => us ++ ws) (fun us ws => us ++ ws) := fund_kb1 F2 (by simp) 1 ["start"] (fun h1 h2 => Vals.append h1 h2) fun T0 kV doc pm an cdv ct us its ws hu hi hw => match us, hu, ws, hw, its, hi with | [_], _, [_], _, [_], _ => ⟨_, rfl, rfl⟩
  have F3 : FunD K "crc32" "crc32" (defArgs s_crc32) (defBody s_crc32) (defScope s_crc32) [V.int 0] [] _ _ := ⟨⟨_, _, _, _, _, _, _, _, _, _, rfl, l3, c3, (.inr ⟨by simp, DT3, _, [du3_0], tn3, rfl, t3, rfl, (.cons rd3_0 .nil)⟩), (.inl rfl)⟩, k3⟩
  obtain ⟨e2_3, v2_3, b2_3⟩ := F3.binds1 (ps := ["data", "start"]) 2 1 (by simp) rfl fun T0 kV doc pm an cdv ct us its hu hi => match us, hu, its, hi with | [_, _], _, [_], _ => ⟨_, rfl, rfl⟩
  obtain ⟨e1_3, v1_3, b1_3⟩ := F3.binds1 (ps := ["data", "start"]) 1 0 (by simp) rfl fun T0 kV doc pm an cdv ct us its hu hi => match us, hu, its, hi with | [_], _, [_], _ => ⟨_, rfl, rfl⟩
  have kb1_start_3 : KBn K _ ["data", "start"] 1 ["start"] (fun us ws => us ++ ws) (fun us ws => us ++ ws) := fund_kb1 F3 (by simp) 1 ["start"] (fun h1 h2 => Vals.append h1 h2) fun T0 kV doc pm an cdv ct us its ws hu hi hw => match us, hu, ws, hw, its, hi with | [_], _, [_], _, [_], _ => ⟨_, rfl, rfl⟩
  have F4 := fun_mk (st := s_divided) l4 c4 k4
  have b4 := F4.binds (ps := ["data", "start", "width", "steps"]) fun _ _ _ _ _ _ us hl => match us, hl with | [_, _, _, _], _ => rfl
  have F5 := fun_mk (st := s_law_draw) l5 c5 k5
  have b5 := F5.binds (ps := ["cell", "many", "bound"]) fun _ _ _ _ _ _ us hl => match us, hl with | [_, _, _], _ => rfl
  have F6 := fun_mk (st := s_law_cell) l6 c6 k6
  have b6 := F6.binds (ps := ["script", "k"]) fun _ _ _ _ _ _ us hl => match us, hl with | [_, _], _ => rfl
  have F7 := fun_mk (st := s_law_data) l7 c7 k7
  have b7 := F7.binds (ps := ["cell", "more"]) fun _ _ _ _ _ _ us hl => match us, hl with | [_, _], _ => rfl
  have F8 := fun_mk (st := s_law_remainder) l8 c8 k8
  have b8 := F8.binds (ps := ["data", "begin", "width", "polynomial"]) fun _ _ _ _ _ _ us hl => match us, hl with | [_, _, _, _], _ => rfl
  have F9 := fun_mk (st := s_law_told) l9 c9 k9
  have b9 := F9.binds (ps := ["data", "begin", "width"]) fun _ _ _ _ _ _ us hl => match us, hl with | [_, _, _], _ => rfl
  have F10 := fun_mk (st := s_law_bare) l10 c10 k10
  have b10 := F10.binds (ps := ["data", "width"]) fun _ _ _ _ _ _ us hl => match us, hl with | [_, _], _ => rfl
  have F11 := fun_mk (st := s_law_right) l11 c11 k11
  have b11 := F11.binds (ps := ["actual", "expected"]) fun _ _ _ _ _ _ us hl => match us, hl with | [_, _], _ => rfl
  have F12 := fun_mk (st := s_law) l12 c12 k12
  have b12 := F12.binds (ps := ["script"]) fun _ _ _ _ _ _ us hl => match us, hl with | [_], _ => rfl
  let T : TX K mg := ⟨f1, _, F1, e2_1, v2_1, b2_1, e1_1, v1_1, b1_1, kb1_start_1, (PySem.W.mg_of X G a1), f2, _, F2, e2_2, v2_2, b2_2, e1_2, v1_2, b1_2, kb1_start_2, (PySem.W.mg_of X G a2), f3, _, F3, e2_3, v2_3, b2_3, e1_3, v1_3, b1_3, kb1_start_3, (PySem.W.mg_of X G a3), f4, _, F4, b4, (PySem.W.mg_of X G a4), f5, _, F5, b5, (PySem.W.mg_of X G a5), f6, _, F6, b6, (PySem.W.mg_of X G a6), f7, _, F7, b7, (PySem.W.mg_of X G a7), f8, _, F8, b8, (PySem.W.mg_of X G a8), f9, _, F9, b9, (PySem.W.mg_of X G a9), f10, _, F10, b10, (PySem.W.mg_of X G a10), f11, _, F11, b11, (PySem.W.mg_of X G a11), fa, _, F12, b12, (PySem.W.mg_of X G a12), (PySem.W.mg_none_of X G z_range), (PySem.W.mg_none_of X G z_int), (PySem.W.mg_none_of X G z_len), (PySem.W.mg_none_of X G z_isinstance), (PySem.W.mg_none_of X G z_bool), (PySem.W.mg_none_of X G z_list), A_STEPS_8, (PySem.W.mg_of X G q_STEPS_8), (fun H => .inr ⟨_, _, _, l_STEPS_8, rfl, rfl, Nat.le_of_ble_eq_true rfl, (.cons r_STEPS_8_0 (.cons r_STEPS_8_1 (.cons r_STEPS_8_2 (.cons r_STEPS_8_3 (.cons r_STEPS_8_4 (.cons r_STEPS_8_5 (.cons r_STEPS_8_6 (.cons r_STEPS_8_7 (.cons r_STEPS_8_8 (.cons r_STEPS_8_9 (.cons r_STEPS_8_10 (.cons r_STEPS_8_11 (.cons r_STEPS_8_12 (.cons r_STEPS_8_13 (.cons r_STEPS_8_14 (.cons r_STEPS_8_15 .nil))))))))))))))))⟩), A_STEPS_16, (PySem.W.mg_of X G q_STEPS_16), (fun H => .inr ⟨_, _, _, l_STEPS_16, rfl, rfl, Nat.le_of_ble_eq_true rfl, (.cons r_STEPS_16_0 (.cons r_STEPS_16_1 (.cons r_STEPS_16_2 (.cons r_STEPS_16_3 (.cons r_STEPS_16_4 (.cons r_STEPS_16_5 (.cons r_STEPS_16_6 (.cons r_STEPS_16_7 (.cons r_STEPS_16_8 (.cons r_STEPS_16_9 (.cons r_STEPS_16_10 (.cons r_STEPS_16_11 (.cons r_STEPS_16_12 (.cons r_STEPS_16_13 (.cons r_STEPS_16_14 (.cons r_STEPS_16_15 .nil))))))))))))))))⟩), A_STEPS_32, (PySem.W.mg_of X G q_STEPS_32), (fun H => .inr ⟨_, _, _, l_STEPS_32, rfl, rfl, Nat.le_of_ble_eq_true rfl, (.cons r_STEPS_32_0 (.cons r_STEPS_32_1 (.cons r_STEPS_32_2 (.cons r_STEPS_32_3 (.cons r_STEPS_32_4 (.cons r_STEPS_32_5 (.cons r_STEPS_32_6 (.cons r_STEPS_32_7 (.cons r_STEPS_32_8 (.cons r_STEPS_32_9 (.cons r_STEPS_32_10 (.cons r_STEPS_32_11 (.cons r_STEPS_32_12 (.cons r_STEPS_32_13 (.cons r_STEPS_32_14 (.cons r_STEPS_32_15 .nil))))))))))))))))⟩)⟩
  exact ⟨_, fun s v => .of_eq rfl, fun base _ _ => ok_law T⟩
end K05
open PySem PySem.W PyProof.Rows
set_option maxRecDepth 100000 in
set_option maxHeartbeats 0 in
theorem PySem.Challenge.cw_monochord_k05_checksums_by_division_holds : PySem.Challenge.rw_monochord_k05_checksums_by_division.Holds := by
  w_on; o_law; k_head; (case hw => w_witness2)
  k_fill
  refine L2.walk_of (l := PySem.Challenge.rw_monochord_k05_checksums_by_division) (n := 63) (k := 4) (x := "script") (CX := fun _ => L2.CX0) (sp := fun w => K05.sp_law _) rfl (by decide) rfl ⟨rfl, by decide, by decide⟩ (fun w h Y => PySem.W.kIn_of Y) ?F (fun _ _ a ns hl _ hS => ⟨a, ns, rfl, hS, hl, fun _ => rfl⟩) (fun _ _ _ _ _ h => h)
  case F =>
    intro w mg fa h KX G hmg
    refine' K05.all_mk KX G hmg ?a1 ?l1 ?c1 ?k1 ?t1 ?rd1_0 ?a2 ?l2 ?c2 ?k2 ?t2 ?rd2_0 ?a3 ?l3 ?c3 ?k3 ?t3 ?rd3_0 ?a4 ?l4 ?c4 ?k4 ?a5 ?l5 ?c5 ?k5 ?a6 ?l6 ?c6 ?k6 ?a7 ?l7 ?c7 ?k7 ?a8 ?l8 ?c8 ?k8 ?a9 ?l9 ?c9 ?k9 ?a10 ?l10 ?c10 ?k10 ?a11 ?l11 ?c11 ?k11 ?a12 ?l12 ?c12 ?k12 ?z_range ?z_int ?z_len ?z_isinstance ?z_bool ?z_list ?q_STEPS_8 ?l_STEPS_8 ?r_STEPS_8_0 ?r_STEPS_8_1 ?r_STEPS_8_2 ?r_STEPS_8_3 ?r_STEPS_8_4 ?r_STEPS_8_5 ?r_STEPS_8_6 ?r_STEPS_8_7 ?r_STEPS_8_8 ?r_STEPS_8_9 ?r_STEPS_8_10 ?r_STEPS_8_11 ?r_STEPS_8_12 ?r_STEPS_8_13 ?r_STEPS_8_14 ?r_STEPS_8_15 ?q_STEPS_16 ?l_STEPS_16 ?r_STEPS_16_0 ?r_STEPS_16_1 ?r_STEPS_16_2 ?r_STEPS_16_3 ?r_STEPS_16_4 ?r_STEPS_16_5 ?r_STEPS_16_6 ?r_STEPS_16_7 ?r_STEPS_16_8 ?r_STEPS_16_9 ?r_STEPS_16_10 ?r_STEPS_16_11 ?r_STEPS_16_12 ?r_STEPS_16_13 ?r_STEPS_16_14 ?r_STEPS_16_15 ?q_STEPS_32 ?l_STEPS_32 ?r_STEPS_32_0 ?r_STEPS_32_1 ?r_STEPS_32_2 ?r_STEPS_32_3 ?r_STEPS_32_4 ?r_STEPS_32_5 ?r_STEPS_32_6 ?r_STEPS_32_7 ?r_STEPS_32_8 ?r_STEPS_32_9 ?r_STEPS_32_10 ?r_STEPS_32_11 ?r_STEPS_32_12 ?r_STEPS_32_13 ?r_STEPS_32_14 ?r_STEPS_32_15
    (case a1 => k_is)
    (case l1 => k_is)
    (case c1 => k_is)
    (case k1 => k_is)
    (case t1 => k_is)
    (case rd1_0 => first | rfl | exact ⟨_, rfl⟩)
    (case a2 => k_is)
    (case l2 => k_is)
    (case c2 => k_is)
    (case k2 => k_is)
    (case t2 => k_is)
    (case rd2_0 => first | rfl | exact ⟨_, rfl⟩)
    (case a3 => k_is)
    (case l3 => k_is)
    (case c3 => k_is)
    (case k3 => k_is)
    (case t3 => k_is)
    (case rd3_0 => first | rfl | exact ⟨_, rfl⟩)
    (case a4 => k_is)
    (case l4 => k_is)
    (case c4 => k_is)
    (case k4 => k_is)
    (case a5 => k_is)
    (case l5 => k_is)
    (case c5 => k_is)
    (case k5 => k_is)
    (case a6 => k_is)
    (case l6 => k_is)
    (case c6 => k_is)
    (case k6 => k_is)
    (case a7 => k_is)
    (case l7 => k_is)
    (case c7 => k_is)
    (case k7 => k_is)
    (case a8 => k_is)
    (case l8 => k_is)
    (case c8 => k_is)
    (case k8 => k_is)
    (case a9 => k_is)
    (case l9 => k_is)
    (case c9 => k_is)
    (case k9 => k_is)
    (case a10 => k_is)
    (case l10 => k_is)
    (case c10 => k_is)
    (case k10 => k_is)
    (case a11 => k_is)
    (case l11 => k_is)
    (case c11 => k_is)
    (case k11 => k_is)
    (case a12 => k_is)
    (case l12 => k_is)
    (case c12 => k_is)
    (case k12 => k_is)
    (case z_range => k_is)
    (case z_int => k_is)
    (case z_len => k_is)
    (case z_isinstance => k_is)
    (case z_bool => k_is)
    (case z_list => k_is)
    (case q_STEPS_8 => k_is)
    (case l_STEPS_8 => k_is)
    (case r_STEPS_8_0 => first | rfl | exact ⟨_, rfl⟩)
    (case r_STEPS_8_1 => first | rfl | exact ⟨_, rfl⟩)
    (case r_STEPS_8_2 => first | rfl | exact ⟨_, rfl⟩)
    (case r_STEPS_8_3 => first | rfl | exact ⟨_, rfl⟩)
    (case r_STEPS_8_4 => first | rfl | exact ⟨_, rfl⟩)
    (case r_STEPS_8_5 => first | rfl | exact ⟨_, rfl⟩)
    (case r_STEPS_8_6 => first | rfl | exact ⟨_, rfl⟩)
    (case r_STEPS_8_7 => first | rfl | exact ⟨_, rfl⟩)
    (case r_STEPS_8_8 => first | rfl | exact ⟨_, rfl⟩)
    (case r_STEPS_8_9 => first | rfl | exact ⟨_, rfl⟩)
    (case r_STEPS_8_10 => first | rfl | exact ⟨_, rfl⟩)
    (case r_STEPS_8_11 => first | rfl | exact ⟨_, rfl⟩)
    (case r_STEPS_8_12 => first | rfl | exact ⟨_, rfl⟩)
    (case r_STEPS_8_13 => first | rfl | exact ⟨_, rfl⟩)
    (case r_STEPS_8_14 => first | rfl | exact ⟨_, rfl⟩)
    (case r_STEPS_8_15 => first | rfl | exact ⟨_, rfl⟩)
    (case q_STEPS_16 => k_is)
    (case l_STEPS_16 => k_is)
    (case r_STEPS_16_0 => first | rfl | exact ⟨_, rfl⟩)
    (case r_STEPS_16_1 => first | rfl | exact ⟨_, rfl⟩)
    (case r_STEPS_16_2 => first | rfl | exact ⟨_, rfl⟩)
    (case r_STEPS_16_3 => first | rfl | exact ⟨_, rfl⟩)
    (case r_STEPS_16_4 => first | rfl | exact ⟨_, rfl⟩)
    (case r_STEPS_16_5 => first | rfl | exact ⟨_, rfl⟩)
    (case r_STEPS_16_6 => first | rfl | exact ⟨_, rfl⟩)
    (case r_STEPS_16_7 => first | rfl | exact ⟨_, rfl⟩)
    (case r_STEPS_16_8 => first | rfl | exact ⟨_, rfl⟩)
    (case r_STEPS_16_9 => first | rfl | exact ⟨_, rfl⟩)
    (case r_STEPS_16_10 => first | rfl | exact ⟨_, rfl⟩)
    (case r_STEPS_16_11 => first | rfl | exact ⟨_, rfl⟩)
    (case r_STEPS_16_12 => first | rfl | exact ⟨_, rfl⟩)
    (case r_STEPS_16_13 => first | rfl | exact ⟨_, rfl⟩)
    (case r_STEPS_16_14 => first | rfl | exact ⟨_, rfl⟩)
    (case r_STEPS_16_15 => first | rfl | exact ⟨_, rfl⟩)
    (case q_STEPS_32 => k_is)
    (case l_STEPS_32 => k_is)
    (case r_STEPS_32_0 => first | rfl | exact ⟨_, rfl⟩)
    (case r_STEPS_32_1 => first | rfl | exact ⟨_, rfl⟩)
    (case r_STEPS_32_2 => first | rfl | exact ⟨_, rfl⟩)
    (case r_STEPS_32_3 => first | rfl | exact ⟨_, rfl⟩)
    (case r_STEPS_32_4 => first | rfl | exact ⟨_, rfl⟩)
    (case r_STEPS_32_5 => first | rfl | exact ⟨_, rfl⟩)
    (case r_STEPS_32_6 => first | rfl | exact ⟨_, rfl⟩)
    (case r_STEPS_32_7 => first | rfl | exact ⟨_, rfl⟩)
    (case r_STEPS_32_8 => first | rfl | exact ⟨_, rfl⟩)
    (case r_STEPS_32_9 => first | rfl | exact ⟨_, rfl⟩)
    (case r_STEPS_32_10 => first | rfl | exact ⟨_, rfl⟩)
    (case r_STEPS_32_11 => first | rfl | exact ⟨_, rfl⟩)
    (case r_STEPS_32_12 => first | rfl | exact ⟨_, rfl⟩)
    (case r_STEPS_32_13 => first | rfl | exact ⟨_, rfl⟩)
    (case r_STEPS_32_14 => first | rfl | exact ⟨_, rfl⟩)
    (case r_STEPS_32_15 => first | rfl | exact ⟨_, rfl⟩)
