import PyProof.Rows.All
import Wide.All
import OpenK.AllK
import Wide.FinOn
import HandS.ForMost
import HandS.Steps
import HandS.Evl
import HandS.IsInst
import HandS.Defaults
import HandS.Wide
import PySem.Challenge.RW_monochord_k06_checksums_tell_bursts
set_option Elab.async false
set_option linter.all false
set_option maxRecDepth 100000
set_option maxHeartbeats 4000000
namespace K06
open PySem PySem.Spec PyProof.Rows L2 Evl
def topS (i : Nat) : Stmt := PySem.Challenge.pw_monochord_k06_checksums_tell_bursts.main.body.getD i (.Pass ⟨0, 0, 0, 0⟩)
abbrev s_crc8 : Stmt := topS 4
theorem sc_crc8 : FnScope ["data", "start"] ["data", "start"] (defScope s_crc8) := ⟨rfl, rfl, rfl, by decide +kernel, rfl, by decide +kernel, by decide +kernel⟩
abbrev s_crc16 : Stmt := topS 5
theorem sc_crc16 : FnScope ["data", "start"] ["data", "start"] (defScope s_crc16) := ⟨rfl, rfl, rfl, by decide +kernel, rfl, by decide +kernel, by decide +kernel⟩
abbrev s_crc32 : Stmt := topS 6
theorem sc_crc32 : FnScope ["data", "start"] ["data", "start"] (defScope s_crc32) := ⟨rfl, rfl, rfl, by decide +kernel, rfl, by decide +kernel, by decide +kernel⟩
abbrev s_divided : Stmt := topS 7
theorem sc_divided : FnScope ["data", "start", "width", "steps", "rest", "top", "kept", "byte"] ["data", "start", "width", "steps"] (defScope s_divided) := ⟨rfl, rfl, rfl, by decide +kernel, rfl, by decide +kernel, by decide +kernel⟩
abbrev s_law_draw : Stmt := topS 9
theorem sc_law_draw : FnScope ["cell", "many", "bound", "numbers", "k", "seed", "mixed"] ["cell", "many", "bound"] (defScope s_law_draw) := ⟨rfl, rfl, rfl, by decide +kernel, rfl, by decide +kernel, by decide +kernel⟩
abbrev s_law_cell : Stmt := topS 10
theorem sc_law_cell : FnScope ["script", "k"] ["script", "k"] (defScope s_law_cell) := ⟨rfl, rfl, rfl, by decide +kernel, rfl, by decide +kernel, by decide +kernel⟩
abbrev s_law_told : Stmt := topS 11
theorem sc_law_told : FnScope ["data", "width"] ["data", "width"] (defScope s_law_told) := ⟨rfl, rfl, rfl, by decide +kernel, rfl, by decide +kernel, by decide +kernel⟩
abbrev s_law_changed : Stmt := topS 12
theorem sc_law_changed : FnScope ["data", "at", "pattern", "size", "result", "k", "bit"] ["data", "at", "pattern", "size"] (defScope s_law_changed) := ⟨rfl, rfl, rfl, by decide +kernel, rfl, by decide +kernel, by decide +kernel⟩
abbrev s_law_pattern : Stmt := topS 13
theorem sc_law_pattern : FnScope ["cell", "width", "size", "inner"] ["cell", "width"] (defScope s_law_pattern) := ⟨rfl, rfl, rfl, by decide +kernel, rfl, by decide +kernel, by decide +kernel⟩
abbrev s_law : Stmt := topS 14
theorem sc_law : FnScope ["script", "many", "data", "other", "k", "both", "width", "size", "pattern", "at", "told", "own", "j"] ["script"] (defScope s_law) := ⟨rfl, rfl, rfl, by decide +kernel, rfl, by decide +kernel, by decide +kernel⟩
theorem hu64 {A : Around} {k : Nat} (hr : Room k A) : A.units + 64 < cLine := hr.units
/-! ### short words for readings -/
theorem ret_eq {v w : V} {H H' : Hp} {Q : VK} (k : RetV v H Q) (ex : Ex H H') (e : w = v) : Q w H' := e ▸ k H' ex
/-- isinstance(x, T), T a built-in class -/
theorem ev_isi {K : PySem.W.Frag} {σ : L2.St} {H : Hp} {ta : TE} {x : V} {t : String} {T : String} {b : Bool} (ha : Ev ta σ H x) (ht : ∀ H1, Ex H H1 → TyX K H1 x (.type t)) (hk : kitB t T = some b) :
    Ev (tCB (rIsi K) (tCons ta (tCons (tC (.ty T)) tNil))) σ H (.bl b) :=
  ev_cb (ea_cons ha (ea_cons ev_c ea_nil)) fun H1 e Q q => ⟨x, .ty T, _, _, b, rfl, .ty T, ht H1 e, kit_ty hk, q H1 (Ex.refl H1)⟩
theorem isi_int {K : PySem.W.Frag} {H : Hp} {i : Int} : ∀ H1, Ex H H1 → TyX K H1 (V.int i) (.type "int") := fun _ _ => .base (.int _)
theorem isi_bl {K : PySem.W.Frag} {H : Hp} {b : Bool} : ∀ H1, Ex H H1 → TyX K H1 (V.bl b) (.type "bool") := fun _ _ => .base (.bl _)
theorem isi_non {K : PySem.W.Frag} {H : Hp} : ∀ H1, Ex H H1 → TyX K H1 V.non (.type "NoneType") := fun _ _ => .base .non
theorem isi_lst {K : PySem.W.Frag} {H : Hp} {a : Addr} {xs : List V} (h : H a = some (.lst xs)) : ∀ H1, Ex H H1 → TyX K H1 (V.ref a) (.type "list") := fun _ e => .base (.lst (e _ _ h))
theorem isi_tup {K : PySem.W.Frag} {H : Hp} {a : Addr} {xs : List V} (h : H a = some (.tup xs)) : ∀ H1, Ex H H1 → TyX K H1 (V.ref a) (.type "tuple") := fun _ e => .base (.tup (e _ _ h))
theorem kit_ii : kitB "int" "int" = some true := by decide +kernel
theorem kit_ib : kitB "int" "bool" = some false := by decide +kernel
theorem kit_bb : kitB "bool" "bool" = some true := by decide +kernel
theorem kit_bi : kitB "bool" "int" = some true := by decide +kernel
theorem kit_ll : kitB "list" "list" = some true := by decide +kernel
theorem kit_tt : kitB "tuple" "tuple" = some true := by decide +kernel
theorem ev_isiI {K : PySem.W.Frag} {σ : L2.St} {H : Hp} {ta : TE} {i : Int} (ha : Ev ta σ H (.int i)) : Ev (tCB (rIsi K) (tCons ta (tCons (tC (.ty "int")) tNil))) σ H (.bl true) := ev_isi ha isi_int kit_ii
theorem ev_isiB {K : PySem.W.Frag} {σ : L2.St} {H : Hp} {ta : TE} {i : Int} (ha : Ev ta σ H (.int i)) : Ev (tCB (rIsi K) (tCons ta (tCons (tC (.ty "bool")) tNil))) σ H (.bl false) := ev_isi ha isi_int kit_ib
theorem ev_isiL {K : PySem.W.Frag} {σ : L2.St} {H : Hp} {ta : TE} {a : Addr} {xs : List V} (ha : Ev ta σ H (.ref a)) (h : H a = some (.lst xs)) : Ev (tCB (rIsi K) (tCons ta (tCons (tC (.ty "list")) tNil))) σ H (.bl true) := ev_isi ha (isi_lst h) kit_ll
theorem ev_isiBB {K : PySem.W.Frag} {σ : L2.St} {H : Hp} {ta : TE} {b : Bool} (ha : Ev ta σ H (.bl b)) : Ev (tCB (rIsi K) (tCons ta (tCons (tC (.ty "bool")) tNil))) σ H (.bl true) := ev_isi ha isi_bl kit_bb
theorem ev_chain {σ : L2.St} {H : Hp} {ta tb tc : TE} {g g' : Int → Int → Bool} {a b c : Int} (ha : Ev ta σ H (.int a)) (hb : Ev tb σ H (.int b)) (hc : Ev tc σ H (.int c)) :
    Ev (tChain (rI0 fun i j => .bl (g i j)) (rI0 fun i j => .bl (g' i j)) ta tb tc) σ H (.bl (g a b && g' b c)) := fun H1 e Q q =>
  ha H1 e _ fun H2 e2 => hb H2 (e.trans e2) _ fun H3 e3 => ⟨a, b, rfl, rfl, g a b, rfl, by
    cases hg : g a b with
    | true =>
      rw [if_pos rfl]
      rw [hg, Bool.true_and] at q
      exact hc H3 ((e.trans e2).trans e3) _ fun H4 e4 => ⟨b, c, rfl, rfl, q H4 ((e2.trans e3).trans e4)⟩
    | false =>
      rw [if_neg (by decide)]
      rw [hg, Bool.false_and] at q
      exact q H3 (e2.trans e3)⟩
theorem ev_isN {σ : L2.St} {H : Hp} {ta : TE} {x : V} (ha : Ev ta σ H x) : Ev (tOp rIsN ta (tC .non)) σ H (.bl (decide (x = .non))) := fun H1 e Q q => ha H1 e _ fun H2 e2 => ⟨rfl, q H2 e2⟩
theorem ev_notN {σ : L2.St} {H : Hp} {ta : TE} {x : V} (ha : Ev ta σ H x) : Ev (tOp rNotN ta (tC .non)) σ H (.bl (!decide (x = .non))) := fun H1 e Q q => ha H1 e _ fun H2 e2 => ⟨rfl, q H2 e2⟩
theorem ev_min2 {σ : L2.St} {H : Hp} {ta tb : TE} {i j : Int} (ha : Ev ta σ H (.int i)) (hb : Ev tb σ H (.int j)) :
    Ev (tCB (fun xs H Q => ∃ i j, xs = [.int i, .int j] ∧ Q (.int (if j < i then j else i)) H) (tCons ta (tCons tb tNil))) σ H (.int (if j < i then j else i)) :=
  ev_cb (ea_cons ha (ea_cons hb ea_nil)) fun H1 _ _ q => ⟨i, j, rfl, q H1 (Ex.refl H1)⟩
theorem ev_negI {σ : L2.St} {H : Hp} {ta : TE} {i : Int} (ha : Ev ta σ H (.int i)) : Ev (tUn (rU fun i => .int (-i)) ta) σ H (.int (-i)) := ev_un ha ru_neg
theorem ev_I0 {σ : L2.St} {H : Hp} {ta tb : TE} {g : Int → Int → V} {i j : Int} (ha : Ev ta σ H (.int i)) (hb : Ev tb σ H (.int j)) : Ev (tOp (rI0 g) ta tb) σ H (g i j) := ev_op ha hb rv_I0
theorem ev_I {σ : L2.St} {H : Hp} {ta tb : TE} {C : Int → Int → Prop} {g : Int → Int → V} {i j : Int} (ha : Ev ta σ H (.int i)) (hb : Ev tb σ H (.int j)) (hc : C i j) : Ev (tOp (rI C g) ta tb) σ H (g i j) := ev_op ha hb (rv_I hc)
theorem ev_eq {σ : L2.St} {H : Hp} {ta tb : TE} {x y : V} (ha : Ev ta σ H x) (hb : Ev tb σ H y) (hs : scal x y = true) : Ev (tOp rEq ta tb) σ H (.bl (decide (x = y))) := ev_op ha hb (rv_eq hs)
theorem ev_ne {σ : L2.St} {H : Hp} {ta tb : TE} {x y : V} (ha : Ev ta σ H x) (hb : Ev tb σ H y) (hs : scal x y = true) : Ev (tOp rNe ta tb) σ H (.bl (!decide (x = y))) := ev_op ha hb (rv_ne hs)
theorem et_B' {σ : L2.St} {H : Hp} {te : TE} {x : V} {b : Bool} (h : Ev te σ H x) (e : x = .bl b) : EvT (tB te) σ H b := et_B (e ▸ h)
theorem dec_lt {a b : Nat} : decide ((a : Int) < (b : Int)) = decide (a < b) := by
  by_cases h : a < b
  · rw [decide_eq_true h, decide_eq_true (by omega)]
  · rw [decide_eq_false h, decide_eq_false (by omega)]
theorem int_at {ns : List Int} {i : Nat} {x : V} (hx : (ns.map V.int)[i]? = some x) : ∃ n, ns[i]? = some n ∧ i < ns.length ∧ x = V.int n := by
  rw [List.getElem?_map] at hx
  cases en : ns[i]? with
  | none => rw [en] at hx; cases hx
  | some n => rw [en] at hx; exact ⟨n, rfl, (List.getElem?_eq_some_iff.mp en).1, (Option.some.inj hx).symm⟩
theorem at_int {ns : List Int} {i : Nat} {n : Int} (h : ns[i]? = some n) : (ns.map V.int)[i]? = some (V.int n) := by rw [List.getElem?_map, h]; rfl
local macro_rules | `(tactic| walk_at "side") => `(tactic| first
  | omega | (show CMul _ _; unfold CMul; omega) | (show CDiv _ _; unfold CDiv; omega) | (show CPow _ _; unfold CPow; omega) | (show (_ : Int) < _; omega) | (show (_ : Int) ≤ _; omega) | decide)
local macro_rules | `(tactic| walk_at "ev") => `(tactic| first
  | exact ev_var rfl
  | exact ev_c
  | (refine' ev_I0 ?h1 ?h2; (case h1 => walk_at "ev"); (case h2 => walk_at "ev"))
  | (refine' ev_negI ?h1; (case h1 => walk_at "ev"))
  | (refine' ev_I ?h1 ?h2 ?hc; (case h1 => walk_at "ev"); (case h2 => walk_at "ev"); (case hc => walk_at "side"))
  | (refine' ev_eq ?h1 ?h2 ?hc; (case h1 => walk_at "ev"); (case h2 => walk_at "ev"); (case hc => rfl))
  | (refine' ev_ne ?h1 ?h2 ?hc; (case h1 => walk_at "ev"); (case h2 => walk_at "ev"); (case hc => rfl))
  | (refine' ev_max2 ?h1 ?h2; (case h1 => walk_at "ev"); (case h2 => walk_at "ev"))
  | (refine' ev_min2 ?h1 ?h2; (case h1 => walk_at "ev"); (case h2 => walk_at "ev"))
  | (refine' ev_chain ?h1 ?h2 ?h3; (case h1 => walk_at "ev"); (case h2 => walk_at "ev"); (case h3 => walk_at "ev"))
  | (refine' ev_isN ?h1; (case h1 => walk_at "ev"))
  | (refine' ev_notN ?h1; (case h1 => walk_at "ev"))
  | (refine' ev_isiI ?h1; (case h1 => walk_at "ev"))
  | (refine' ev_isiB ?h1; (case h1 => walk_at "ev"))
  | (refine' ev_isiBB ?h1; (case h1 => walk_at "ev"))
  | (refine' ev_andV ?h1 (fun _ => ?h2); (case h1 => walk_at "ev"); (case h2 => walk_at "ev"))
  | (refine' ev_orV ?h1 (fun _ => ?h2); (case h1 => walk_at "ev"); (case h2 => walk_at "ev"))
  | (refine' ev_notV ?h1; (case h1 => walk_at "ev"))
  | walk_at "evmore")
local macro_rules | `(tactic| walk_at "et") => `(tactic| first
  | (refine' et_test ?h1; (case h1 => walk_at "ev"))
  | (refine' et_B ?h1; (case h1 => walk_at "ev"))
  | (refine' et_not ?h1; (case h1 => walk_at "et"))
  | (refine' et_and ?h1 (fun _ => ?h2); (case h1 => walk_at "et"); (case h2 => walk_at "et"))
  | (refine' et_or ?h1 (fun _ => ?h2); (case h1 => walk_at "et"); (case h2 => walk_at "et")))
local macro_rules | `(tactic| walk_at "ea") => `(tactic| first
  | exact ea_nil
  | (refine' ea_cons ?h1 ?h2; (case h1 => walk_at "ev"); (case h2 => walk_at "ea")))
local macro_rules | `(tactic| walk_at "when") => `(tactic| (refine' q_when ?h ?h1 ?h2; (case h => walk_at "et")))
local macro_rules | `(tactic| walk_at "whenS") => `(tactic| (refine' s_when ?h ?h1 ?h2; (case h => walk_at "et")))
local macro_rules | `(tactic| walk_at "if") => `(tactic| (refine' q_if ?h ?h1 ?h2; (case h => walk_at "et")))
local macro_rules | `(tactic| walk_at "ifS") => `(tactic| (refine' s_if ?h ?h1 ?h2; (case h => walk_at "et")))
local macro_rules | `(tactic| walk_at "ret") => `(tactic| (refine' s_ret ?h ?h1; (case h => walk_at "ev")))
local macro_rules | `(tactic| walk_at "asg") => `(tactic| (refine' q_asg ?h ?h1; (case h => walk_at "ev")))
local macro_rules | `(tactic| walk_at "asgS") => `(tactic| (refine' s_asg ?h ?h1; (case h => walk_at "ev")))

/-! ### lists, existing or new -/
def EvR (te : TE) (σ : L2.St) (H : Hp) (xs : List V) : Prop := ∀ H1, Ex H H1 → ∀ Q : VK, (∀ p H2, Ex H1 H2 → H2 p = some (.lst xs) → Q (.ref p) H2) → te σ H1 Q
def EvS (K : PySem.W.Frag) (te : TE) (σ : L2.St) (H : Hp) (xs : List V) : Prop := ∀ H1, Ex H H1 → ∀ Q : VK, (∀ p H2, Ex H1 H2 → SqL K H2 p xs → Q (.ref p) H2) → te σ H1 Q
section
variable {K : PySem.W.Frag} {σ : L2.St} {H H' : Hp} {ta tb te : TE} {xs ys : List V} {a : Addr}
theorem EvL.r (h : EvL te σ H xs) : EvR te σ H xs := fun H1 e Q q => h H1 e Q fun p H2 _ e2 h2 => q p H2 e2 h2
theorem Ev.r (h : Ev te σ H (.ref a)) (hx : H a = some (.lst xs)) : EvR te σ H xs := fun H1 e Q q => h H1 e Q fun H2 e2 => q a H2 e2 (e2 _ _ (e _ _ hx))
theorem EvR.s (h : EvR te σ H xs) : EvS K te σ H xs := fun H1 e Q q => h H1 e Q fun p H2 e2 h2 => q p H2 e2 (sq_of h2)
theorem Ev.s (h : Ev te σ H (.ref a)) (hx : SqL K H a xs) : EvS K te σ H xs := fun H1 e Q q => h H1 e Q fun H2 e2 => q a H2 e2 (ex_l e2 (ex_l e hx))
theorem EvR.mono (e : Ex H H') (h : EvR te σ H xs) : EvR te σ H' xs := fun H1 a Q q => h H1 (e.trans a) Q q
theorem EvS.mono (e : Ex H H') (h : EvS K te σ H xs) : EvS K te σ H' xs := fun H1 a Q q => h H1 (e.trans a) Q q
theorem EvL.is (h : EvL te σ H xs) (e : xs = ys) : EvL te σ H ys := e ▸ h
theorem EvR.is (h : EvR te σ H xs) (e : xs = ys) : EvR te σ H ys := e ▸ h
theorem el_cat (ha : EvR ta σ H xs) (hb : EvR tb σ H ys) (hl : xs.length + ys.length ≤ 100000) : EvL (tOp rCat ta tb) σ H (xs ++ ys) := fun H1 e Q q =>
  ha H1 e _ fun p H2 e2 h2 => hb H2 (e.trans e2) _ fun r H3 e3 h3 => ⟨p, r, xs, ys, rfl, rfl, e3 _ _ h2, h3, sz_of hl, fun l hl => q l _ (fresh_back (e2.trans e3) hl) ((e2.trans e3).trans (Ex.new hl)) upd_same⟩
theorem el_rep {k : Int} (ha : EvR ta σ H xs) (hb : Ev tb σ H (.int k)) (hk : -(2 ^ 63) ≤ k ∧ k < 2 ^ 63) (hl : xs.length * k.toNat ≤ 100000) : EvL (tOp rRep ta tb) σ H (List.replicate k.toNat xs).flatten := fun H1 e Q q =>
  ha H1 e _ fun p H2 e2 h2 => hb H2 (e.trans e2) _ fun H3 e3 => ⟨p, k, xs, rfl, rfl, e3 _ _ h2, hk.1, hk.2, sz_of hl, fun l hl => q l _ (fresh_back (e2.trans e3) hl) ((e2.trans e3).trans (Ex.new hl)) upd_same⟩
theorem rep_one {x : V} (n : Nat) : (List.replicate n [x]).flatten = List.replicate n x := by
  induction n with
  | zero => rfl
  | succ n ih => rw [List.replicate_succ, List.replicate_succ, List.flatten_cons, ih]; rfl
theorem el_of {te : TE} (h : EvS K te σ H xs) : EvL (tCB (rListS K) (tCons te tNil)) σ H xs := fun H1 e Q q =>
  h H1 e _ fun p H2 e2 h2 => ⟨p, xs, rfl, .inl h2, fun l hl => q l _ (fresh_back e2 hl) (e2.trans (Ex.new hl)) upd_same⟩
theorem ev_lenS (h : EvS K te σ H xs) : Ev (tCB (rLenS K) (tCons te tNil)) σ H (.int (xs.length : Int)) := fun H1 e Q q =>
  h H1 e _ fun p H2 e2 h2 => ⟨p, xs, rfl, .inl h2, q H2 e2⟩
theorem ev_sum {ns : List Int} (h : EvS K te σ H (ns.map V.int)) : Ev (tCB (rSum K) (tCons te tNil)) σ H (.int ns.sum) := fun H1 e Q q =>
  h H1 e _ fun p H2 e2 h2 => ⟨p, ns, rfl, h2, q H2 e2⟩
theorem dp_ints {K : PySem.W.Frag} {H : Hp} : ∀ ns : List Int, DpAll K H (ns.map V.int) (ns.map PyData.int)
  | [] => .nil
  | n :: r => .cons (.int n) (dp_ints r)
theorem eqv_ints : ∀ ns ms : List Int, PyData.eqvAll (ns.map PyData.int) (ms.map PyData.int) = decide (ns = ms)
  | [], [] => by simp [PyData.eqvAll]
  | [], _ :: _ => by simp [PyData.eqvAll]
  | _ :: _, [] => by simp [PyData.eqvAll]
  | n :: r, m :: t => by
    show (PyData.eqv (.int n) (.int m) && PyData.eqvAll (r.map PyData.int) (t.map PyData.int)) = _
    rw [eqv_ints r t]
    show ((n == m) && decide (r = t)) = _
    by_cases h1 : n = m <;> by_cases h2 : r = t <;> simp [h1, h2]
theorem canLay_ints : ∀ ns : List Int, PyData.canLayAll0 (ns.map PyData.int) = true
  | [] => by simp [PyData.canLayAll0]
  | n :: r => by
    show PyData.canLayAll0 (PyData.int n :: r.map PyData.int) = true
    rw [PyData.canLayAll0, canLay_ints r]
    simp [PyData.canLay0]
theorem depth_ints : ∀ ns : List Int, PyData.depthAll (ns.map PyData.int) ≤ 1
  | [] => by simp [PyData.depthAll]
  | n :: r => by
    show PyData.depthAll (PyData.int n :: r.map PyData.int) ≤ 1
    have := depth_ints r
    simp only [PyData.depthAll, PyData.depth]
    omega
theorem shaped_ints (ns : List Int) : SeqAt.shaped (.list (ns.map PyData.int)) = true := by
  unfold SeqAt.shaped
  have h1 := canLay_ints ns
  have h2 := depth_ints ns
  have h3 : PyData.depth (.list (ns.map PyData.int)) ≤ 64 := by
    rw [PyData.depth]
    omega
  rw [decide_eq_true h3, Bool.and_true]
  simpa only [PyData.canLay0] using h1
theorem ev_eqI {ns ms : List Int} (ha : EvS K ta σ H (ns.map V.int)) (hb : EvS K tb σ H (ms.map V.int)) : Ev (tOp (rEqD K) ta tb) σ H (.bl (decide (ns = ms))) := fun H1 e Q q =>
  ha H1 e _ fun p H2 e2 h2 => hb H2 (e.trans e2) _ fun r H3 e3 h3 => ⟨.list (ns.map PyData.int), .list (ms.map PyData.int), .lst (ex_l e3 h2) (dp_ints ns), .lst h3 (dp_ints ms), shaped_ints ns, shaped_ints ms, by
    show Q (.bl (PyData.eqvAll (ns.map PyData.int) (ms.map PyData.int))) H3
    rw [eqv_ints]
    exact q H3 (e2.trans e3)⟩
theorem ev_neI {ns ms : List Int} (ha : EvS K ta σ H (ns.map V.int)) (hb : EvS K tb σ H (ms.map V.int)) : Ev (tOp (rNeD K) ta tb) σ H (.bl (!decide (ns = ms))) := fun H1 e Q q =>
  ha H1 e _ fun p H2 e2 h2 => hb H2 (e.trans e2) _ fun r H3 e3 h3 => ⟨.list (ns.map PyData.int), .list (ms.map PyData.int), .lst (ex_l e3 h2) (dp_ints ns), .lst h3 (dp_ints ms), shaped_ints ns, shaped_ints ms, by
    show Q (.bl (!PyData.eqvAll (ns.map PyData.int) (ms.map PyData.int))) H3
    rw [eqv_ints]
    exact q H3 (e2.trans e3)⟩
theorem ev_ixS {i : Nat} {n : Int} {tl ti : TE} {v : V} (h : EvS K tl σ H xs) (hi : Ev ti σ H (.int n)) (ha : atI xs n = some v) : Ev (tOp (rIxL K) tl ti) σ H v := fun H1 e Q q =>
  h H1 e _ fun p H2 e2 h2 => hi H2 (e.trans e2) _ fun H3 e3 => ⟨p, xs, n, v, rfl, rfl, ex_l e3 h2, ha, q H3 (e2.trans e3)⟩
theorem el_slS {tl th : TO} {lo hi : Option Int} (h : EvS K te σ H xs) (h1 : EvO tl σ H lo) (h2 : EvO th σ H hi) : EvL (tSl (rSlL K) te tl th) σ H (cutV xs lo hi) := fun H1 e _ q =>
  h H1 e _ fun a H2 e2 hs => h1 H2 (e.trans e2) _ fun H3 e3 => h2 H3 ((e.trans e2).trans e3) _ fun H4 e4 =>
    ⟨a, xs, rfl, ex_l (e3.trans e4) hs, fun p hp => q p _ (fresh_back ((e2.trans e3).trans e4) hp) (((e2.trans e3).trans e4).trans (Ex.new hp)) upd_same⟩
theorem ev_at {n : Int} {tl ti : TE} {v : V} (h : EvS K tl σ H xs) (hi : Ev ti σ H (.int n)) (ha : atI xs n = some v) : Ev (tOp (rIxL K) tl ti) σ H v := ev_ixS (i := 0) h hi ha
theorem cut_to (xs : List V) (i : Nat) : cutV xs none (some (i : Int)) = xs.take i := by
  unfold cutV
  rw [HT.sIx_none, HT.sIx_nat, List.drop_zero, Nat.sub_zero]
  by_cases h : i ≤ xs.length
  · rw [Nat.min_eq_left h]
  · rw [Nat.min_eq_right (by omega), List.take_of_length_le (Nat.le_refl _), List.take_of_length_le (by omega)]
theorem cut_from (xs : List V) (i : Nat) : cutV xs (some (i : Int)) none = xs.drop i := by
  unfold cutV
  rw [HT.sIx_none, HT.sIx_nat]
  by_cases h : i ≤ xs.length
  · rw [Nat.min_eq_left h, List.take_of_length_le (by rw [List.length_drop]; omega)]
  · rw [Nat.min_eq_right (by omega), List.drop_of_length_le (Nat.le_refl _), List.drop_of_length_le (show xs.length ≤ i by omega), List.take_nil]
theorem cut_mid (xs : List V) (i j : Nat) : cutV xs (some (i : Int)) (some (j : Int)) = (xs.drop i).take (j - i) := by
  unfold cutV
  rw [HT.sIx_nat, HT.sIx_nat]
  by_cases h : i ≤ xs.length
  · rw [Nat.min_eq_left h]
    by_cases h2 : j ≤ xs.length
    · rw [Nat.min_eq_left h2]
    · rw [Nat.min_eq_right (by omega), List.take_of_length_le (by rw [List.length_drop]; omega), List.take_of_length_le (by rw [List.length_drop]; omega)]
  · rw [Nat.min_eq_right (by omega : xs.length ≤ i), List.drop_of_length_le (Nat.le_refl _), List.drop_of_length_le (show xs.length ≤ i by omega)]
    simp
theorem el_to {th : TE} {ns : List Int} {i : Nat} (h : EvS K te σ H (ns.map V.int)) (h2 : Ev th σ H (.int i)) : EvL (tSl (rSlL K) te tNoPart (tPart th)) σ H ((ns.take i).map V.int) :=
  EvL.is (el_slS h eo_none (eo_some h2)) (by rw [List.map_take]; exact cut_to _ i)
theorem el_from {th : TE} {ns : List Int} {i : Nat} (h : EvS K te σ H (ns.map V.int)) (h2 : Ev th σ H (.int i)) : EvL (tSl (rSlL K) te (tPart th) tNoPart) σ H ((ns.drop i).map V.int) :=
  EvL.is (el_slS h (eo_some h2) eo_none) (by rw [List.map_drop]; exact cut_from _ i)
theorem el_mid {t1 t2 : TE} {ns : List Int} {i j : Nat} (h : EvS K te σ H (ns.map V.int)) (h1 : Ev t1 σ H (.int i)) (h2 : Ev t2 σ H (.int j)) : EvL (tSl (rSlL K) te (tPart t1) (tPart t2)) σ H (((ns.drop i).take (j - i)).map V.int) :=
  EvL.is (el_slS h (eo_some h1) (eo_some h2)) (by rw [List.map_take, List.map_drop]; exact cut_mid _ i j)
section
variable {D : Ends} {tz : TS} {sp : Sp} {dvs vs : List V} {E : XK} {tA : TA}
/-- x = f(..), whatever f promises -/
theorem q_asgC {i : Nat} (h : EvA tA σ H vs) (k : ∀ H1, Ex H H1 → sp (vs ++ dvs) H1 (fun x H2 => tz D (σ.set i (some x)) H2) E) : tSeq (tAsg (tCall sp dvs E tA) (gName i)) tz D σ H := h H (Ex.refl H) _ fun H1 e => k H1 e
theorem s_asgC {i : Nat} (h : EvA tA σ H vs) (k : ∀ H1, Ex H H1 → sp (vs ++ dvs) H1 (fun x H2 => D.nx (σ.set i (some x)) H2) E) : tAsg (tCall sp dvs E tA) (gName i) D σ H := h H (Ex.refl H) _ fun H1 e => k H1 e
theorem q_dropC (h : EvA tA σ H vs) (k : ∀ H1, Ex H H1 → sp (vs ++ dvs) H1 (fun _ H2 => tz D σ H2) E) : tSeq (tDrop (tCall sp dvs E tA)) tz D σ H := h H (Ex.refl H) _ fun H1 e => k H1 e
theorem s_retC (h : EvA tA σ H vs) (k : ∀ H1, Ex H H1 → sp (vs ++ dvs) H1 D.rt E) : tRet (tCall sp dvs E tA) D σ H := h H (Ex.refl H) _ fun H1 e => k H1 e
end
theorem gl_get {ns : List Int} {i : Nat} (h : i < ns.length) : ns[i]? = some (ns.getD i 0) := by
  rw [List.getD_eq_getElem?_getD, List.getElem?_eq_getElem h]
  rfl
theorem q_asgRaw {te : TE} {i : Nat} {D : Ends} {tz : TS} (P : V → Hp → Prop) (h : ∀ Q : VK, (∀ x H2, P x H2 → Q x H2) → te σ H Q) (k : ∀ x H2, P x H2 → tz D (σ.set i (some x)) H2) : tSeq (tAsg te (gName i)) tz D σ H := h _ k
/-- a, b = a pair -/
theorem q_asgT {te : TE} {i j : Nat} {D : Ends} {tz : TS} (P : V → V → Hp → Prop) (h : ∀ Q : VK, (∀ t x y H2, P x y H2 → SqT K H2 t [x, y] → Q (.ref t) H2) → te σ H Q) (k : ∀ x y H2, P x y H2 → tz D ((σ.set i (some x)).set j (some y)) H2) :
    tSeq (tAsg te (gTup K 2 (gCons (gName i) (gCons (gName j) gNil)))) tz D σ H := h _ fun t x y H2 hP hT => ⟨t, [x, y], rfl, hT, rfl, x, [y], rfl, y, [], rfl, rfl, k x y H2 hP⟩
/-- the law's cell -/
def cellI (ns : List Int) (k : Int) : Int := ns.getD k.toNat 0
theorem cellI_in {ns : List Int} {k : Int} (h0 : 0 ≤ k) (h : k < ns.length) : ns[k.toNat]? = some (cellI ns k) := by
  unfold cellI
  rw [List.getD_eq_getElem?_getD, List.getElem?_eq_getElem (by omega)]
  rfl
theorem cellI_out {ns : List Int} {k : Int} (h : ¬ k < ns.length) : cellI ns k = 0 := by
  unfold cellI
  rw [List.getD_eq_getElem?_getD, List.getElem?_eq_none (by omega)]
  rfl
end
theorem Ex.get {H H' : Hp} {a : Addr} {o : HO} (e : Ex H H') (h : H a = some o) : H' a = some o := e a o h
local macro_rules | `(tactic| walk_at "hp") => `(tactic| first
  | assumption
  | exact upd_same
  | (refine' Ex.get (by assumption) ?h1; (case h1 => walk_at "hp")))
local macro_rules | `(tactic| walk_at "ex") => `(tactic| first
  | assumption
  | exact Ex.refl _
  | (refine' Ex.trans ?h1 (by assumption); (case h1 => walk_at "ex")))
local macro_rules | `(tactic| walk_at "sq") => `(tactic| first
  | assumption
  | (refine' sq_of ?h1; (case h1 => walk_at "hp"))
  | (refine' ex_l (by assumption) ?h1; (case h1 => walk_at "sq")))
local macro_rules | `(tactic| walk_at "evs") => `(tactic| first
  | (refine' Ev.s ?h1 ?h2; (case h1 => exact ev_var rfl); (case h2 => walk_at "sq"))
  | (refine' EvR.s ?h1; (case h1 => walk_at "evr")))
local macro_rules | `(tactic| walk_at "evr") => `(tactic| first
  | (refine' Ev.r ?h1 ?h2; (case h1 => exact ev_var rfl); (case h2 => walk_at "hp"))
  | (refine' EvL.r ?h1; (case h1 => walk_at "el")))
local macro_rules | `(tactic| walk_at "eo") => `(tactic| first
  | exact eo_none
  | (refine' eo_some ?h1; (case h1 => walk_at "ev")))
local macro_rules | `(tactic| walk_at "el") => `(tactic| first
  | (refine' el_lst ?h1 ?h2; (case h1 => walk_at "ea"); (case h2 => exact Nat.le_of_ble_eq_true rfl))
  | (refine' el_cat ?h1 ?h2 ?h3; (case h1 => walk_at "evr"); (case h2 => walk_at "evr"); (case h3 => walk_at "len"))
  | (refine' el_rep ?h1 ?h2 ?h3 ?h4; (case h1 => walk_at "evr"); (case h2 => walk_at "ev"); (case h3 => walk_at "side2"); (case h4 => walk_at "len"))
  | (refine' el_of ?h1; (case h1 => walk_at "evs"))
  | (refine' el_to ?h1 ?h2; (case h1 => walk_at "evs"); (case h2 => walk_at "ev"))
  | (refine' el_from ?h1 ?h2; (case h1 => walk_at "evs"); (case h2 => walk_at "ev"))
  | (refine' el_mid ?h1 ?h2 ?h3; (case h1 => walk_at "evs"); (case h2 => walk_at "ev"); (case h3 => walk_at "ev"))
  | (refine' el_slS ?h1 ?h2 ?h3; (case h1 => walk_at "evs"); (case h2 => walk_at "eo"); (case h3 => walk_at "eo"))
  | walk_at "elmore")
local macro_rules | `(tactic| walk_at "evmore") => `(tactic| first
  | (refine' ev_lenS ?h1; (case h1 => walk_at "evs"))
  | (refine' ev_sum ?h1; (case h1 => walk_at "evs"))
  | (refine' ev_eqI ?h1 ?h2; (case h1 => walk_at "evs"); (case h2 => walk_at "evs"))
  | (refine' ev_neI ?h1 ?h2; (case h1 => walk_at "evs"); (case h2 => walk_at "evs"))
  | (refine' ev_at ?h1 ?h2 ?h3; (case h1 => walk_at "evs"); (case h2 => walk_at "ev"); (case h3 => walk_at "at"))
  | (refine' ev_isiL ?h1 ?h2; (case h1 => walk_at "ev"); (case h2 => walk_at "hp"))
  | walk_at "evown")
local macro_rules | `(tactic| walk_at "at") => `(tactic| first
  | exact at_of rfl (at_int (by assumption))
  | exact at_of rfl (by assumption))
local macro_rules | `(tactic| walk_at "asgL") => `(tactic| (refine' q_asgL ?h ?h1; (case h => walk_at "el")))
local macro_rules | `(tactic| walk_at "retL") => `(tactic| (refine' s_retL ?h ?h1; (case h => walk_at "el")))

/-! ### comprehensions whose items are said in a list -/
theorem et_yes {σ : L2.St} {H : Hp} : EvT tYes σ H true := fun H1 _ _ q => q H1 (Ex.refl H1)
section
variable {K : PySem.W.Frag} {σ : L2.St} {H : Hp} {t1 t2 te : TE} {xs ys zs : List V} {vs : List Nat}
theorem take_snoc {zs : List V} {i : Nat} {z : V} (h : zs[i]? = some z) : zs.take (i + 1) = zs.take i ++ [z] := by
  rw [List.take_add_one, h]
  rfl
theorem el_lcZ {j1 j2 : Nat} (zs : List V) (h1 : EvS K t1 σ H xs) (h2 : EvS K t2 σ H ys) (hz : zs.length = min xs.length ys.length) (hb : zs.length ≤ 50000)
    (hw : ∀ x y, wipe (((wipe σ vs).set j1 (some x)).set j2 (some y)) vs = wipe σ vs)
    (he : ∀ (i : Nat) (x y : V) H1, Ex H H1 → xs[i]? = some x → ys[i]? = some y → ∃ z, zs[i]? = some z ∧ Ev te (((wipe σ vs).set j1 (some x)).set j2 (some y)) H1 z) :
    EvL (tLc (iZip K (tCons t1 (tCons t2 tNil))) (gTup K 2 (gCons (gName j1) (gCons (gName j2) gNil))) tYes te vs) σ H zs := fun H0 e Q q =>
  h1 H0 e _ fun p H1 e1 hp => h2 H1 (e.trans e1) _ fun r H2 e2 hr => ⟨p, r, xs, ys, rfl, ex_l e2 hp, hr, fun D hD =>
    ⟨fun i m H' => m = zs.length - i ∧ i ≤ zs.length ∧ Ex H2 H' ∧ H' D = some (.lst (zs.take i)), ⟨zs.length, rfl, Nat.zero_le _, Ex.new hD, upd_same⟩, by
      rintro i m H' ⟨rfl, hi, ex, hd⟩
      have qx : SqL K H' p xs := ex_l (e2.trans ex) hp
      have qy : SqL K H' r ys := ex_l ex hr
      by_cases hlt : i < zs.length
      · have hx : xs[i]? = some xs[i] := List.getElem?_eq_getElem (by omega)
        have hy : ys[i]? = some ys[i] := List.getElem?_eq_getElem (by omega)
        refine .inr ⟨⟨xs, ys, _, _, qx, qy, hx, hy⟩, fun H3 => i + 1 ≤ zs.length ∧ Ex H2 H3 ∧ H3 D = some (.lst (zs.take (i + 1))), fun H3 h3 => ⟨zs.length - (i + 1), by omega, rfl, h3⟩, fun v H3 hv => ?_⟩
        obtain ⟨T, x, y, rfl, hT, rfl, f1, f2⟩ := hv
        have ex3 : Ex H' (upd H' T (.tup [x, y])) := Ex.new hT
        obtain ⟨z, hz1, hz2⟩ := he i x y (upd H' T (.tup [x, y])) ((((e.trans e1).trans e2).trans ex).trans ex3) (f1 _ qx) (f2 _ qy)
        refine ⟨T, [x, y], rfl, st_of upd_same, rfl, x, [y], rfl, y, [], rfl, rfl, hw x y, ?_⟩
        refine hz2 _ (Ex.refl _) _ fun H4 e4 => ⟨zs.take i, e4 _ _ (ex3 _ _ hd), sz_lt (by rw [List.length_take]; omega), hlt, ?_, ?_⟩
        · exact Ex.mut ((ex.trans ex3).trans e4) hD
        · rw [upd_same, take_snoc hz1]
      · have ei : i = zs.length := by omega
        refine .inl ⟨⟨xs, ys, qx, qy, by omega⟩, ?_⟩
        rw [ei, List.take_length] at hd
        exact q D H' (fresh_back (e1.trans e2) hD) ((e1.trans e2).trans ex) hd⟩⟩
/-- over a list, each item kept -/
theorem el_lcS {j : Nat} (zs : List V) (h1 : EvS K t1 σ H xs) (hz : zs.length = xs.length) (hb : zs.length ≤ 50000) (hw : ∀ x, wipe ((wipe σ vs).set j (some x)) vs = wipe σ vs)
    (he : ∀ (i : Nat) (x : V) H1, Ex H H1 → xs[i]? = some x → ∃ z, zs[i]? = some z ∧ Ev te ((wipe σ vs).set j (some x)) H1 z) :
    EvL (tLc (iList K t1) (gName j) tYes te vs) σ H zs := fun H0 e Q q =>
  h1 H0 e _ fun p H1 e1 hp => ⟨p, rfl, ⟨xs, hp⟩, fun D hD => lc_list (xs := xs) (fun i H' => Ex H1 H' ∧ H' D = some (.lst (zs.take i))) ⟨Ex.new hD, upd_same⟩ (fun i H' _ h => ex_l h.1 hp)
    (fun i x H' hi h => ⟨hw x, by
      obtain ⟨z, hz1, hz2⟩ := he i x H' ((e.trans e1).trans h.1) hi
      have hl : i < xs.length := (List.getElem?_eq_some_iff.mp hi).1
      refine hz2 H' (Ex.refl _) _ fun H4 e4 => ⟨zs.take i, e4 _ _ h.2, sz_lt (by rw [List.length_take]; omega), Ex.mut (h.1.trans e4) hD, ?_⟩
      rw [upd_same, take_snoc hz1]⟩)
    (fun H' h => q D H' (fresh_back e1 hD) (e1.trans h.1) (by rw [h.2, ← hz, List.take_length]))⟩
/-- over range(n) -/
theorem el_lcR {ta : TA} {n : Int} {j : Nat} (zs : List V) (h1 : EvA ta σ H [.int n]) (hn : -100000 ≤ n) (hz : zs.length = n.toNat) (hb : zs.length ≤ 50000) (hw : ∀ x, wipe ((wipe σ vs).set j (some x)) vs = wipe σ vs)
    (he : ∀ (i : Nat) H1, Ex H H1 → i < zs.length → ∃ z, zs[i]? = some z ∧ Ev te ((wipe σ vs).set j (some (.int (i : Int)))) H1 z) :
    EvL (tLc (iRng1 ta) (gName j) tYes te vs) σ H zs := fun H0 e Q q =>
  h1 H0 e _ fun H1 e1 => ⟨n, rfl, by omega, by omega, fun D hD => lc_range (lo := 0) (n := n.toNat) (fun i H' => Ex H1 H' ∧ H' D = some (.lst (zs.take i))) ⟨Ex.new hD, upd_same⟩
    (fun i H' hi h => by
      have e0 : (0 : Int) + (i : Int) = (i : Int) := Int.zero_add _
      rw [e0]
      obtain ⟨z, hz1, hz2⟩ := he i H' ((e.trans e1).trans h.1) (by omega)
      refine ⟨hw _, hz2 H' (Ex.refl _) _ fun H4 e4 => ⟨zs.take i, e4 _ _ h.2, sz_lt (by rw [List.length_take]; omega), Ex.mut (h.1.trans e4) hD, ?_⟩⟩
      rw [upd_same, take_snoc hz1])
    (fun H' h => q D H' (fresh_back e1 hD) (e1.trans h.1) (by rw [h.2, show n.toNat = zs.length by omega, List.take_length]))⟩
/-- y = [.. for x in f(..)], whatever f promises -/
theorem s_asgLC {sp : Sp} {dvs args : List V} {E : XK} {ta : TA} {g : TG} {tt : TT} {D : Ends} {i : Nat} (h : EvA ta σ H args) (k : ∀ H1, Ex H H1 → sp (args ++ dvs) H1 (fun x H2 => tAsg (tLc (iList K (tC x)) g tt te vs) (gName i) D σ H2) E) :
    tAsg (tLc (iList K (tCall sp dvs E ta)) g tt te vs) (gName i) D σ H := h H (Ex.refl H) _ fun H1 e => k H1 e
theorem q_asgLC {sp : Sp} {dvs args : List V} {E : XK} {ta : TA} {g : TG} {tt : TT} {D : Ends} {i : Nat} {tz : TS} (h : EvA ta σ H args) (k : ∀ H1, Ex H H1 → sp (args ++ dvs) H1 (fun x H2 => tSeq (tAsg (tLc (iList K (tC x)) g tt te vs) (gName i)) tz D σ H2) E) :
    tSeq (tAsg (tLc (iList K (tCall sp dvs E ta)) g tt te vs) (gName i)) tz D σ H := h H (Ex.refl H) _ fun H1 e => k H1 e
end

/-! ### calls with keywords, defaults -/
theorem kwAll1 {K : PySem.W.Frag} {D : Addr} {q : Str × V} (h : ∃ u, PySem.W.nsIn K D q.1 = some (some u) ∧ RelV q.2 u) : ∀ p ∈ [q], ∃ u, PySem.W.nsIn K D p.1 = some (some u) ∧ RelV p.2 u := fun p hp => by
  rcases List.mem_cons.mp hp with rfl | hp
  · exact h
  · cases hp
section
variable {K : PySem.W.Frag} {x qual : Str} {params : Arguments} {body : List Stmt} {scope : Scope} {dvs : List V} {kws : List (Str × V)} {f : Addr} {fd : FuncData} {ps : List Str}
/-- f(a, .., k = v, ..), nothing left to a default, no defaults of place -/
theorem fund_kb0 {g : List Value → List Value → List Value} {gV : List V → List V → List V} (F : FunD K x qual params body scope [] kws f fd) (n : Nat) (ks : List Str)
    (hrel : ∀ {vs : List V} {us : List Value} {zs : List V} {ws : List Value}, Vals vs us → Vals zs ws → Vals (gV vs zs) (g us ws))
    (h : ∀ (kV doc pm : Value) (an : Option Addr) (cdv ct : Value) (us ws : List Value), us.length = n → ws.length = ks.length → bindArgs (PySem.W.fnOf x qual params body scope .none kV doc pm an cdv ct) ⟨us, ks.zip ws⟩ = pure (ps.zip (g us ws))) :
    KBn K fd ps n ks g gV := by
  obtain ⟨oc, od, dV, kV, doc, pm, an, cdv, ct, osl, rfl, lk, hcd, hD, hK⟩ := F.ex
  rcases hD with ⟨_, rfl⟩ | ⟨e, _⟩
  · exact ⟨fun s us ws X l1 l2 => .of_eq (h kV doc pm an cdv ct us ws l1 l2), hrel⟩
  · exact absurd rfl e
/-- the same of a def with defaults of place -/
theorem fund_kb1 {g : List Value → List Value → List Value} {gV : List V → List V → List V} (F : FunD K x qual params body scope dvs kws f fd) (hd : dvs ≠ []) (n : Nat) (ks : List Str)
    (hrel : ∀ {vs : List V} {us : List Value} {zs : List V} {ws : List Value}, Vals vs us → Vals zs ws → Vals (gV vs zs) (g us ws))
    (h : ∀ (T : Addr) (kV doc pm : Value) (an : Option Addr) (cdv ct : Value) (us its ws : List Value), us.length = n → its.length = dvs.length → ws.length = ks.length →
      ∃ k, bindArgs (PySem.W.fnOf x qual params body scope (.ref T) kV doc pm an cdv ct) ⟨us, ks.zip ws⟩ = seqItems? (.ref T) >>= k ∧ k (some its.toArray) = pure (ps.zip (g us ws))) :
    KBn K fd ps n ks g gV := by
  obtain ⟨oc, od, dV, kV, doc, pm, an, cdv, ct, osl, rfl, lk, hcd, hD, hK⟩ := F.ex
  rcases hD with ⟨e, _⟩ | ⟨_, T, o, its, m, rfl, lT, oT, rT⟩
  · exact absurd e hd
  · refine ⟨fun s us ws X l1 l2 => ?_, hrel⟩
    obtain ⟨k, e1, e2⟩ := h T kV doc pm an cdv ct us its ws l1 rT.length.symm l2
    refine BindsTo.of_looks fun M => ?_
    rw [e1]
    exact looks_items X lT oT (.of_pure e2)
end

/-- what the top has left -/
structure TX (K : PySem.W.Frag) (mg : Str → Option Value) where
  a_crc8 : Addr
  d_crc8 : FuncData
  F_crc8 : FunD K "crc8" "crc8" (defArgs s_crc8) (defBody s_crc8) (defScope s_crc8) [V.int 0] [] a_crc8 d_crc8
  e1_crc8 : List Value
  v1_crc8 : Vals [V.int 0] e1_crc8
  b1_crc8 : Binds K d_crc8 ["data", "start"] e1_crc8
  g_crc8 : mg "crc8" = some (.ref a_crc8)
  a_crc16 : Addr
  d_crc16 : FuncData
  F_crc16 : FunD K "crc16" "crc16" (defArgs s_crc16) (defBody s_crc16) (defScope s_crc16) [V.int 0] [] a_crc16 d_crc16
  e1_crc16 : List Value
  v1_crc16 : Vals [V.int 0] e1_crc16
  b1_crc16 : Binds K d_crc16 ["data", "start"] e1_crc16
  g_crc16 : mg "crc16" = some (.ref a_crc16)
  a_crc32 : Addr
  d_crc32 : FuncData
  F_crc32 : FunD K "crc32" "crc32" (defArgs s_crc32) (defBody s_crc32) (defScope s_crc32) [V.int 0] [] a_crc32 d_crc32
  e1_crc32 : List Value
  v1_crc32 : Vals [V.int 0] e1_crc32
  b1_crc32 : Binds K d_crc32 ["data", "start"] e1_crc32
  g_crc32 : mg "crc32" = some (.ref a_crc32)
  a_divided : Addr
  d_divided : FuncData
  F_divided : Fun K "_divided" "_divided" s_divided a_divided d_divided
  b_divided : Binds K d_divided ["data", "start", "width", "steps"] []
  g_divided : mg "_divided" = some (.ref a_divided)
  a_law_draw : Addr
  d_law_draw : FuncData
  F_law_draw : Fun K "_law_draw" "_law_draw" s_law_draw a_law_draw d_law_draw
  b_law_draw : Binds K d_law_draw ["cell", "many", "bound"] []
  g_law_draw : mg "_law_draw" = some (.ref a_law_draw)
  a_law_cell : Addr
  d_law_cell : FuncData
  F_law_cell : Fun K "_law_cell" "_law_cell" s_law_cell a_law_cell d_law_cell
  b_law_cell : Binds K d_law_cell ["script", "k"] []
  g_law_cell : mg "_law_cell" = some (.ref a_law_cell)
  a_law_told : Addr
  d_law_told : FuncData
  F_law_told : Fun K "_law_told" "_law_told" s_law_told a_law_told d_law_told
  b_law_told : Binds K d_law_told ["data", "width"] []
  g_law_told : mg "_law_told" = some (.ref a_law_told)
  a_law_changed : Addr
  d_law_changed : FuncData
  F_law_changed : Fun K "_law_changed" "_law_changed" s_law_changed a_law_changed d_law_changed
  b_law_changed : Binds K d_law_changed ["data", "at", "pattern", "size"] []
  g_law_changed : mg "_law_changed" = some (.ref a_law_changed)
  a_law_pattern : Addr
  d_law_pattern : FuncData
  F_law_pattern : Fun K "_law_pattern" "_law_pattern" s_law_pattern a_law_pattern d_law_pattern
  b_law_pattern : Binds K d_law_pattern ["cell", "width"] []
  g_law_pattern : mg "_law_pattern" = some (.ref a_law_pattern)
  a_law : Addr
  d_law : FuncData
  F_law : Fun K "law" "law" s_law a_law d_law
  b_law : Binds K d_law ["script"] []
  g_law : mg "law" = some (.ref a_law)
  m_range : mg "range" = none
  m_int : mg "int" = none
  m_len : mg "len" = none
  m_list : mg "list" = none
  m_isinstance : mg "isinstance" = none
  m_bool : mg "bool" = none
  A_STEPS_8 : Addr
  c_STEPS_8 : mg "_STEPS_8" = some (.ref A_STEPS_8)
  s_STEPS_8 : ∀ H, SqT K H A_STEPS_8 [V.int 0, V.int 7, V.int 14, V.int 9, V.int 28, V.int 27, V.int 18, V.int 21, V.int 56, V.int 63, V.int 54, V.int 49, V.int 36, V.int 35, V.int 42, V.int 45]
  A_STEPS_16 : Addr
  c_STEPS_16 : mg "_STEPS_16" = some (.ref A_STEPS_16)
  s_STEPS_16 : ∀ H, SqT K H A_STEPS_16 [V.int 0, V.int 32773, V.int 32783, V.int 10, V.int 32795, V.int 30, V.int 20, V.int 32785, V.int 32819, V.int 54, V.int 60, V.int 32825, V.int 40, V.int 32813, V.int 32807, V.int 34]
  A_STEPS_32 : Addr
  c_STEPS_32 : mg "_STEPS_32" = some (.ref A_STEPS_32)
  s_STEPS_32 : ∀ H, SqT K H A_STEPS_32 [V.int 0, V.int 79764919, V.int 159529838, V.int 222504665, V.int 319059676, V.int 398814059, V.int 445009330, V.int 507990021, V.int 638119352, V.int 583659535, V.int 797628118, V.int 726387553, V.int 890018660, V.int 835552979, V.int 1015980042, V.int 944750013]
section
variable {P : Program} {w : World} {K : PySem.W.Frag} {mg : Str → Option Value} {base : Heap}
def sp_cell (K : PySem.W.Frag) : Sp := fun vs H Q _ => ∃ (a : Addr) (ns : List Int) (k : Int), vs = [.ref a, .int k] ∧ SqL K H a (ns.map V.int) ∧ 0 ≤ k ∧ RetV (.int (cellI ns k)) H Q
theorem ok_law_cell (T : TX K mg) : FnOk P w K mg base CX0 1 T.a_law_cell T.d_law_cell ["script", "k"] (sp_cell K) := by
  refine T.F_law_cell.ok sc_law_cell (fun vs H Q E h => by obtain ⟨a, ns, k, rfl, _⟩ := h; rfl) (fun cdv A outer s H vs Q E hr h => ?_)
  obtain ⟨a, ns, k, rfl, hS, hk, q⟩ := h
  refine ⟨_, (pss_cons (ps_if (pt_cmpR op_lt (pv 1) (pe_callB (r := rLenS K) call_len_seq (by rfl) T.m_len PySem.boot_len (pa_cons (pv 0) pa_nil)) (nomark _)) (pss_one (ps_ret (pe_ix (r := rIxL K) ix_list (pv 0) (pv 1) (fun _ _ => rfl)))) pss_nil)
      (pss_one (ps_ret pe_int))), ?_⟩
  have hl := (ev_lenS (K := K) (Ev.s (te := tVar 0) (σ := start ["script", "k"] [.ref a, .int k]) (ev_var rfl) hS))
  refine q_when (et_test (ev_I0 (ev_var rfl) hl)) ?_ ?_
  · intro hb H1 e1
    have hb : k < ns.length := by
      have := of_decide_eq_true hb
      rwa [List.length_map] at this
    refine s_ret (v := .int (cellI ns k)) (ev_ixS (i := 0) (n := k) (Ev.s (ev_var rfl) (ex_l e1 hS)) (ev_var rfl) ?_) fun H2 e2 => q H2 (e1.trans e2)
    exact at_of (j := k.toNat) (by omega) (at_int (cellI_in hk hb))
  · intro hb H1 e1
    have hb : ¬ k < ns.length := by
      have := of_decide_eq_false hb
      rwa [List.length_map] at this
    walk_at "ret"
    intro H2 e2
    exact ret_eq q (e1.trans e2) (by rw [cellI_out hb])
theorem ev_cell {σ : L2.St} {H : Hp} {ta tk : TE} {E : XK} {ns : List Int} {k : Int} {a : Addr} (ha : Ev ta σ H (.ref a)) (hS : SqL K H a (ns.map V.int)) (hk : Ev tk σ H (.int k)) (h0 : 0 ≤ k) : Ev (tCall (sp_cell K) [] E (tCons ta (tCons tk tNil))) σ H (.int (cellI ns k)) :=
  ev_call (ea_cons ha (ea_cons hk ea_nil)) fun H1 e Q q _ => ⟨a, ns, k, rfl, ex_l e hS, h0, q⟩
local macro_rules | `(tactic| walk_at "evown") => `(tactic| (refine' ev_cell ?h1 ?h2 ?h3 ?h4; (case h1 => exact ev_var rfl); (case h2 => walk_at "sq"); (case h3 => walk_at "ev"); (case h4 => walk_at "side")))

/-! ### int(x), bits of a number -/
theorem Ev.is {σ : L2.St} {H : Hp} {te : TE} {x y : V} (h : Ev te σ H x) (e : x = y) : Ev te σ H y := e ▸ h
theorem ev_int1 {σ : L2.St} {H : Hp} {te : TE} {i : Int} (h : Ev te σ H (.int i)) : Ev (tCB (fun xs H Q => (∃ i, xs = [V.int i] ∧ Q (V.int i) H) ∨ ∃ k, xs = [V.bl k] ∧ Q (V.int (if k = true then 1 else 0)) H) (tCons te tNil)) σ H (.int i) :=
  ev_cb (ea_cons h ea_nil) fun H1 _ Q q => .inl ⟨i, rfl, q H1 (Ex.refl H1)⟩
theorem q_augR {σ : L2.St} {H : Hp} {te : TE} {D : Ends} {tz : TS} {i : Nat} {g : Int → Int → V} {a b : Int} (h1 : σ[i]? = some (some (.int a))) (h : Ev te σ H (.int b)) (k : ∀ H1, Ex H H1 → tz D (σ.set i (some (g a b))) H1) : tSeq (tAug i te (rI0 g)) tz D σ H :=
  ⟨_, h1, h H (Ex.refl H) _ fun H1 e => ⟨a, b, rfl, rfl, k H1 e⟩⟩
theorem s_augR {σ : L2.St} {H : Hp} {te : TE} {D : Ends} {i : Nat} {g : Int → Int → V} {a b : Int} (h1 : σ[i]? = some (some (.int a))) (h : Ev te σ H (.int b)) (k : ∀ H1, Ex H H1 → D.nx (σ.set i (some (g a b))) H1) : tAug i te (rI0 g) D σ H :=
  ⟨_, h1, h H (Ex.refl H) _ fun H1 e => ⟨a, b, rfl, rfl, k H1 e⟩⟩
theorem ev_atT {K : PySem.W.Frag} {σ : L2.St} {H : Hp} {tl ti : TE} {t : Addr} {xs : List V} {n : Int} {v : V} (h : Ev tl σ H (.ref t)) (hT : SqT K H t xs) (hi : Ev ti σ H (.int n)) (ha : atI xs n = some v) : Ev (tOp (rIxT K) tl ti) σ H v := fun H1 e Q q =>
  h H1 e _ fun H2 e2 => hi H2 (e.trans e2) _ fun H3 e3 => ⟨t, xs, n, v, rfl, rfl, ex_t ((e.trans e2).trans e3) hT, ha, q H3 (e2.trans e3)⟩
local macro_rules | `(tactic| walk_at "side") => `(tactic| first
  | omega
  | (show CDivW _ _; exact ⟨by omega, by decide⟩)
  | (show CDivW _ _; exact wide_div (b := 80) (by omega) (by omega) (by decide) (by decide)))
local macro_rules | `(tactic| walk_at "evown") => `(tactic| (refine' ev_int1 ?h1; (case h1 => walk_at "ev")))
/-- numbers of the law -/
def sp_draw : Sp := fun vs H Q _ => ∃ c m b : Int, vs = [.int c, .int m, .int b] ∧ 0 ≤ m ∧ m ≤ 5000 ∧ 0 < b ∧ b ≤ 2 ^ 64 ∧ ∀ p (ns : List Int) H', H p = none → Ex H H' → H' p = some (.lst (ns.map V.int)) → (ns.length : Int) = m → (∀ n ∈ ns, 0 ≤ n ∧ n < b) → Q (.ref p) H'
theorem ok_law_draw (T : TX K mg) : FnOk P w K mg base CX0 1 T.a_law_draw T.d_law_draw ["cell", "many", "bound"] sp_draw := by
  refine T.F_law_draw.ok sc_law_draw (fun vs H Q E h => by obtain ⟨c, m, b, rfl, _⟩ := h; rfl) (fun cdv A outer s H vs Q E hr h => ?_)
  obtain ⟨c, m, b, rfl, hm0, hm, hb0, hb, k⟩ := h
  have hb' : b ≤ 18446744073709551616 := hb
  refine ⟨_, (pss_cons (ps_set (i := 3) sc_law_draw.nd rfl (Or.inl rfl) (pe_lst pa_nil))
      (pss_cons (ps_if (pt_cmpR op_ge (pv 0) (pe_op op_pow pe_int pe_int) (nomark _)) (pss_cons (ps_for PassesOwn.never rfl (pi_range1 (by rfl) T.m_range (pa_cons (pv 1) pa_nil)) (pg_name (i := 4) sc_law_draw.nd rfl (Or.inl rfl)) (pss_cons (ps_expr (pe_bm PySem.F.plainAttrs_list PySem.F.slot_list_append PySem.F.type_list_append mt_append (pv 3) (pa_cons (pe_op op_mod (pe_callTy call_int1 (by rfl) T.m_int PyProof.Rows.boot_int (pa_cons (pv 0) pa_nil)) (pv 2)) pa_nil)))
          (pss_one (ps_set (i := 0) sc_law_draw.nd rfl (Or.inl rfl) (pe_op op_fdivW (pv 0) (pv 2))))))
        (pss_one (ps_ret (pv 3)))) pss_nil)
      (pss_cons (ps_set (i := 5) sc_law_draw.nd rfl (Or.inl rfl) (pe_op op_mod (pe_callTy call_int1 (by rfl) T.m_int PyProof.Rows.boot_int (pa_cons (pv 0) pa_nil)) pe_int))
      (pss_cons (ps_for PassesOwn.never rfl (pi_range1 (by rfl) T.m_range (pa_cons (pv 1) pa_nil)) (pg_name (i := 4) sc_law_draw.nd rfl (Or.inl rfl)) (pss_cons (ps_set (i := 5) sc_law_draw.nd rfl (Or.inl rfl) (pe_op op_mod (pe_callTy call_int1 (by rfl) T.m_int PyProof.Rows.boot_int (pa_cons (pe_op op_add (pe_op op_add (pe_op op_mul (pv 5) pe_int) pe_int) (pv 4)) pa_nil)) pe_int))
        (pss_cons (ps_set (i := 6) sc_law_draw.nd rfl (Or.inl rfl) (pe_op op_mod (pe_callTy call_int1 (by rfl) T.m_int PyProof.Rows.boot_int (pa_cons (pe_op op_add (pe_op op_mul (pv 5) pe_int) (pe_op op_mul pe_int (pv 4))) pa_nil)) pe_int))
        (pss_one (ps_expr (pe_bm PySem.F.plainAttrs_list PySem.F.slot_list_append PySem.F.type_list_append mt_append (pv 3) (pa_cons (pe_op op_mod (pe_callTy call_int1 (by rfl) T.m_int PyProof.Rows.boot_int (pa_cons (pe_op op_fdivW (pv 6) pe_int) pa_nil)) (pv 2)) pa_nil)))))))
      (pss_one (ps_ret (pv 3))))))), ?_⟩
  refine q_asgL (xs := []) (el_lst ea_nil (by decide)) fun p H1 hp e1 h1 => ?_
  refine' q_when (et_test (ev_I0 ?h1 ?h2)) ?_ ?_
  case h1 => walk_at "ev"
  case h2 => exact ev_I (ev_c) (ev_c) ⟨by decide, by decide, by decide⟩
  · intro _ H2 e2
    refine q_forR1 (n := m) (ea_cons (ev_var rfl) ea_nil) ⟨hm0, by omega⟩ (fun i σ' H' => ∃ (c' : Int) (k' : Option V) (ns : List Int), σ' = [some (.int c'), some (.int m), some (.int b), some (.ref p), k', none, none] ∧ Ex H H' ∧ H' p = some (.lst (ns.map V.int)) ∧ ns.length = i ∧ ∀ n ∈ ns, 0 ≤ n ∧ n < b)
      (fun H3 e3 => ⟨c, none, [], rfl, (e1.trans e2).trans e3, e3 _ _ (e2 _ _ h1), rfl, fun n hn => by cases hn⟩) ?_ ?_
    · rintro i σ' H' hi ⟨c', k', ns, rfl, ex, hl, hn, hns⟩
      refine q_app (v := .int (c' % b)) hl (ev_var rfl) (ev_I (ev_int1 (ev_var rfl)) (ev_var rfl) hb0) (by rw [List.length_map]; omega) fun H3 e3 => ?_
      refine s_asg (v := .int (c' / b)) (ev_I (ev_var rfl) (ev_var rfl) (by walk_at "side")) fun H4 e4 => ?_
      refine ⟨c' / b, some (.int i), ns ++ [c' % b], rfl, (Ex.mut (ex.trans e3) hp).trans e4, e4 _ _ (by rw [upd_same, List.map_append]; rfl), by rw [List.length_append, hn]; rfl, fun n hn => ?_⟩
      rcases List.mem_append.mp hn with h | h
      · exact hns n h
      · cases List.mem_singleton.mp h
        exact ⟨Int.emod_nonneg _ (by omega), Int.emod_lt_of_pos _ hb0⟩
    · rintro σ' H' ⟨c', k', ns, rfl, ex, hl, hn, hns⟩
      walk_at "ret"
      intro H3 e3
      exact k p ns H3 hp (ex.trans e3) (e3 _ _ hl) (by omega) hns
  · intro _ H2 e2
    refine q_asg (v := .int (c % 2147483647)) (ev_I (ev_int1 (ev_var rfl)) ev_c (by decide)) fun H3 e3 => ?_
    refine q_forR1 (n := m) (ea_cons (ev_var rfl) ea_nil) ⟨hm0, by omega⟩ (fun i σ' H' => ∃ (k' x : Option V) (sd : Int) (ns : List Int), σ' = [some (.int c), some (.int m), some (.int b), some (.ref p), k', some (.int sd), x] ∧ Ex H H' ∧ H' p = some (.lst (ns.map V.int)) ∧ ns.length = i ∧ ∀ n ∈ ns, 0 ≤ n ∧ n < b)
      (fun H4 e4 => ⟨none, none, _, [], rfl, ((e1.trans e2).trans e3).trans e4, e4 _ _ (e3 _ _ (e2 _ _ h1)), rfl, fun n hn => by cases hn⟩) ?_ ?_
    · rintro i σ' H' hi ⟨k', x, sd, ns, rfl, ex, hl, hn, hns⟩
      refine q_asg (v := .int ((sd * 48271 + 12345 + (i : Int)) % 2147483647)) (ev_I (ev_int1 (ev_I0 (ev_I0 (ev_I (ev_var rfl) ev_c (.inr (by decide))) ev_c) (ev_var rfl))) ev_c (by decide)) fun H4 e4 => ?_
      generalize (sd * 48271 + 12345 + (i : Int)) % 2147483647 = sd2
      refine q_asg (v := .int ((sd2 * 69621 + 977 * (i : Int)) % 2147483629)) (ev_I (ev_int1 (ev_I0 (ev_I (ev_var rfl) ev_c (.inr (by decide))) (ev_I ev_c (ev_var rfl) (.inl (by decide))))) ev_c (by decide)) fun H5 e5 => ?_
      generalize (sd2 * 69621 + 977 * (i : Int)) % 2147483629 = mx
      refine s_app (v := .int (mx / 3 % b)) (e5 _ _ (e4 _ _ hl)) (ev_var rfl) (ev_I (ev_int1 (ev_I (ev_var rfl) ev_c ⟨by decide, by decide⟩)) (ev_var rfl) hb0) (by rw [List.length_map]; omega) fun H6 e6 => ?_
      refine ⟨_, _, sd2, ns ++ [mx / 3 % b], rfl, Ex.mut (((ex.trans e4).trans e5).trans e6) hp, by rw [upd_same, List.map_append]; rfl, by rw [List.length_append, hn]; rfl, fun n hn => ?_⟩
      rcases List.mem_append.mp hn with h | h
      · exact hns n h
      · cases List.mem_singleton.mp h
        exact ⟨Int.emod_nonneg _ (by omega), Int.emod_lt_of_pos _ hb0⟩
    · rintro σ' H' ⟨k', x, sd, ns, rfl, ex, hl, hn, hns⟩
      walk_at "ret"
      intro H4 e4
      exact k p ns H4 hp (ex.trans e4) (e4 _ _ hl) (by omega) hns
/-- numbers from 0 on, as such -/
def cs (ds : List Nat) : List Int := ds.map fun d : Nat => (d : Int)
theorem cs_of {ns : List Int} {b : Int} (h : ∀ n ∈ ns, 0 ≤ n ∧ n < b) : ∃ ds : List Nat, ns = cs ds ∧ ds.length = ns.length ∧ ∀ d ∈ ds, (d : Int) < b := by
  refine ⟨ns.map Int.toNat, ?_, List.length_map .., fun d hd => ?_⟩
  · unfold cs
    rw [List.map_map]
    conv => lhs; rw [← List.map_id ns]
    refine List.map_congr_left fun n hn => ?_
    have := (h n hn).1
    show n = ((n.toNat : Nat) : Int)
    omega
  · obtain ⟨n, hn, rfl⟩ := List.mem_map.mp hd
    have := h n hn
    omega
theorem cs_len (ds : List Nat) : (cs ds).length = ds.length := List.length_map ..
theorem cs_at {ds : List Nat} {i : Nat} {d : Nat} (h : ds[i]? = some d) : (cs ds)[i]? = some (d : Int) := by unfold cs; rw [List.getElem?_map, h]; rfl
theorem cs_take (ds : List Nat) (i : Nat) : (cs ds).take i = cs (ds.take i) := by unfold cs; rw [List.map_take]
theorem cs_drop (ds : List Nat) (i : Nat) : (cs ds).drop i = cs (ds.drop i) := by unfold cs; rw [List.map_drop]
theorem cs_append (ds es : List Nat) : cs (ds ++ es) = cs ds ++ cs es := List.map_append ..

/-! ### division of polynomials, as functions of a place -/
abbrev Bits := Nat → Bool
def Bst (P A : Bits) : Bits := fun j => A (j + 1) ^^ (A 0 && P j)
def Ast (P A : Bits) (m : Bool) : Bits := fun j => A (j + 1) ^^ ((A 0 ^^ m) && P j)
def Arun (P : Bits) : Bits → List Bool → Bits
  | A, [] => A
  | A, m :: ms => Arun P (Ast P A m) ms
def inj (ms : List Bool) : Bits := fun j => ms.getD j false
def xf (A B : Bits) : Bits := fun j => A j ^^ B j
def Bn (P : Bits) : Bits → Nat → Bits
  | A, 0 => A
  | A, n + 1 => Bn P (Bst P A) n
theorem xf_nil (A : Bits) : xf A (inj []) = A := by
  funext j
  unfold xf inj
  rw [List.getD_nil, Bool.xor_false]
theorem Arun_eq (P : Bits) : ∀ (ms : List Bool) (A : Bits), Arun P A ms = Bn P (xf A (inj ms)) ms.length
  | [], A => by rw [xf_nil]; rfl
  | m :: ms, A => by
    show Arun P (Ast P A m) ms = Bn P (Bst P (xf A (inj (m :: ms)))) ms.length
    rw [Arun_eq P ms]
    congr 1
    funext j
    show ((A (j + 1) ^^ ((A 0 ^^ m) && P j)) ^^ ms.getD j false) = ((A (j + 1) ^^ ms.getD j false) ^^ ((A 0 ^^ m) && P j))
    generalize A (j + 1) = x
    generalize ((A 0 ^^ m) && P j) = y
    generalize ms.getD j false = z
    revert x y z
    decide
theorem Arun_append (P : Bits) : ∀ (ms ns : List Bool) (A : Bits), Arun P A (ms ++ ns) = Arun P (Arun P A ms) ns
  | [], _, _ => rfl
  | m :: ms, ns, A => Arun_append P ms ns (Ast P A m)
theorem Bst_xf (P A B : Bits) : Bst P (xf A B) = xf (Bst P A) (Bst P B) := by
  funext j
  show ((A (j + 1) ^^ B (j + 1)) ^^ ((A 0 ^^ B 0) && P j)) = ((A (j + 1) ^^ (A 0 && P j)) ^^ (B (j + 1) ^^ (B 0 && P j)))
  generalize A (j + 1) = a
  generalize B (j + 1) = b
  generalize A 0 = c
  generalize B 0 = d
  generalize P j = e
  revert a b c d e
  decide
theorem Bn_xf (P : Bits) : ∀ (n : Nat) (A B : Bits), Bn P (xf A B) n = xf (Bn P A n) (Bn P B n)
  | 0, _, _ => rfl
  | n + 1, A, B => by
    show Bn P (Bst P (xf A B)) n = xf (Bn P (Bst P A) n) (Bn P (Bst P B) n)
    rw [Bst_xf, Bn_xf P n]
def Supp (w : Nat) (A : Bits) : Prop := ∀ j, w ≤ j → A j = false
theorem Bst_supp {w : Nat} {P A : Bits} (hP : Supp w P) (hA : Supp w A) : Supp w (Bst P A) := fun j hj => by
  show (A (j + 1) ^^ (A 0 && P j)) = false
  rw [hA _ (by omega), hP _ hj, Bool.and_false]
  rfl
theorem Bn_supp {w : Nat} {P : Bits} (hP : Supp w P) : ∀ (n : Nat) {A : Bits}, Supp w A → Supp w (Bn P A n)
  | 0, _, h => h
  | n + 1, _, h => Bn_supp hP n (Bst_supp hP h)
/-- the bits of a register, the highest first -/
def reg (w r : Nat) : Bits := fun j => decide (j < w) && r.testBit (w - 1 - j)
theorem reg_supp (w r : Nat) : Supp w (reg w r) := fun j hj => by
  unfold reg
  rw [decide_eq_false (by omega), Bool.false_and]
theorem reg_xor (w r s : Nat) : reg w (r ^^^ s) = xf (reg w r) (reg w s) := by
  funext j
  show (decide (j < w) && (r ^^^ s).testBit (w - 1 - j)) = ((decide (j < w) && r.testBit (w - 1 - j)) ^^ (decide (j < w) && s.testBit (w - 1 - j)))
  rw [Nat.testBit_xor]
  cases decide (j < w)
  · rfl
  · rfl
def topn (n : Nat) : Bits := fun j => decide (j < 4) && n.testBit (3 - j)
/-- half a byte at once -/
def nib (w : Nat) (T : List Nat) (r : Nat) : Nat := ((r % 2 ^ (w - 4)) * 16) ^^^ T.getD (r / 2 ^ (w - 4) % 16) 0
theorem Bst_shift {P A : Bits} (h : A 0 = false) : Bst P A = fun j => A (j + 1) := by
  funext j
  show (A (j + 1) ^^ (A 0 && P j)) = _
  rw [h, Bool.false_and, Bool.xor_false]
theorem nib_ok {w : Nat} {T : List Nat} {P : Bits} (hw : 8 ≤ w) (hP : Supp w P) (hT : ∀ n, n < 16 → ∀ j, j < w → reg w (T.getD n 0) j = Bn P (topn n) 4 j) {r : Nat} (hr : r < 2 ^ w) : reg w (nib w T r) = Bn P (reg w r) 4 := by
  have hd : reg w r = xf (topn (r / 2 ^ (w - 4) % 16)) (fun j => decide (4 ≤ j) && reg w r j) := by
    funext j
    show (decide (j < w) && r.testBit (w - 1 - j)) = ((decide (j < 4) && (r / 2 ^ (w - 4) % 16).testBit (3 - j)) ^^ (decide (4 ≤ j) && (decide (j < w) && r.testBit (w - 1 - j))))
    by_cases h4 : j < 4
    · rw [decide_eq_true h4, decide_eq_true (show j < w by omega), decide_eq_false (show ¬ 4 ≤ j by omega), Bool.true_and, Bool.true_and, Bool.false_and, Bool.xor_false]
      have e16 : (16 : Nat) = 2 ^ 4 := rfl
      rw [e16, Nat.testBit_mod_two_pow, Nat.testBit_div_two_pow, decide_eq_true (show 3 - j < 4 by omega), Bool.true_and, show 3 - j + (w - 4) = w - 1 - j by omega]
    · rw [decide_eq_false h4, decide_eq_true (show 4 ≤ j by omega), Bool.false_and, Bool.false_xor, Bool.true_and]
  have hn : r / 2 ^ (w - 4) % 16 < 16 := Nat.mod_lt _ (by decide)
  have hTt : reg w (T.getD (r / 2 ^ (w - 4) % 16) 0) = Bn P (topn (r / 2 ^ (w - 4) % 16)) 4 := by
    funext j
    by_cases hj : j < w
    · exact hT _ hn j hj
    · rw [reg_supp w _ j (by omega), Bn_supp hP 4 (fun j hj => by unfold topn; rw [decide_eq_false (by omega), Bool.false_and]) j (by omega)]
  have hs : Bn P (fun j => decide (4 ≤ j) && reg w r j) 4 = fun j => reg w r (j + 4) := by
    show Bst P (Bst P (Bst P (Bst P _))) = _
    rw [Bst_shift rfl, Bst_shift rfl, Bst_shift rfl, Bst_shift rfl]
    funext j
    show (decide (4 ≤ j + 1 + 1 + 1 + 1) && reg w r (j + 1 + 1 + 1 + 1)) = _
    rw [decide_eq_true (by omega), Bool.true_and]
  conv => rhs; rw [hd]
  rw [Bn_xf, ← hTt, hs]
  unfold nib
  rw [reg_xor]
  funext j
  show (reg w (r % 2 ^ (w - 4) * 16) j ^^ reg w (T.getD (r / 2 ^ (w - 4) % 16) 0) j) = (reg w (T.getD (r / 2 ^ (w - 4) % 16) 0) j ^^ reg w r (j + 4))
  rw [Bool.xor_comm]
  congr 1
  unfold reg
  have e16 : (16 : Nat) = 2 ^ 4 := rfl
  rw [e16, Nat.testBit_mul_two_pow, Nat.testBit_mod_two_pow]
  by_cases h1 : j + 4 < w
  · rw [decide_eq_true (show j < w by omega), decide_eq_true h1, decide_eq_true (show 4 ≤ w - 1 - j by omega), decide_eq_true (show w - 1 - j - 4 < w - 4 by omega), show w - 1 - j - 4 = w - 1 - (j + 4) by omega]
    simp
  · rw [decide_eq_false h1, decide_eq_false (show ¬ 4 ≤ w - 1 - j by omega)]
    simp
theorem nib_lt {w : Nat} {T : List Nat} (hw : 8 ≤ w) (hT : ∀ n, n < 16 → T.getD n 0 < 2 ^ w) (r : Nat) : nib w T r < 2 ^ w := by
  unfold nib
  refine Nat.xor_lt_two_pow ?_ (hT _ (Nat.mod_lt _ (by decide)))
  have h1 : r % 2 ^ (w - 4) < 2 ^ (w - 4) := Nat.mod_lt _ (Nat.two_pow_pos _)
  have h2 : 2 ^ w = 2 ^ (w - 4) * 16 := by
    rw [show (16 : Nat) = 2 ^ 4 from rfl, ← Nat.pow_add, show w - 4 + 4 = w by omega]
  rw [h2]
  exact Nat.mul_lt_mul_of_pos_right h1 (by decide)
/-- the bits of a byte -/
def bits8 (b : Nat) : List Bool := (List.range 8).map fun k => b.testBit (7 - k)
theorem bits8_len (b : Nat) : (bits8 b).length = 8 := rfl
theorem byte_in {w b r : Nat} (hw : 8 ≤ w) (hb : b < 256) : reg w (r ^^^ (b * 2 ^ (w - 8))) = xf (reg w r) (inj (bits8 b)) := by
  rw [reg_xor]
  congr 1
  funext j
  unfold reg inj bits8
  rw [Nat.testBit_mul_two_pow, List.getD_eq_getElem?_getD, List.getElem?_map]
  by_cases h : j < 8
  · rw [List.getElem?_range h, decide_eq_true (show j < w by omega), decide_eq_true (show w - 8 ≤ w - 1 - j by omega), show w - 1 - j - (w - 8) = 7 - j by omega]
    rfl
  · rw [List.getElem?_eq_none (by rw [List.length_range]; omega)]
    by_cases h2 : j < w
    · rw [decide_eq_false (show ¬ w - 8 ≤ w - 1 - j by omega)]
      simp
    · rw [decide_eq_false h2]
      rfl
def stp (w : Nat) (T : List Nat) (r b : Nat) : Nat := nib w T (nib w T (r ^^^ (b * 2 ^ (w - 8))))
def crcN (w : Nat) (T : List Nat) (r : Nat) (ds : List Nat) : Nat := ds.foldl (stp w T) r
structure Tab (w p : Nat) (T : List Nat) : Prop where
  w8 : 8 ≤ w
  bd : ∀ n, n < 16 → T.getD n 0 < 2 ^ w
  ok : ∀ n, n < 16 → ∀ j, j < w → reg w (T.getD n 0) j = Bn (reg w p) (topn n) 4 j
theorem xor_bd {w r b : Nat} (hw : 8 ≤ w) (hr : r < 2 ^ w) (hb : b < 256) : r ^^^ (b * 2 ^ (w - 8)) < 2 ^ w := by
  refine Nat.xor_lt_two_pow hr ?_
  have h2 : 2 ^ w = 256 * 2 ^ (w - 8) := by
    rw [show (256 : Nat) = 2 ^ 8 from rfl, ← Nat.pow_add, show 8 + (w - 8) = w by omega]
  rw [h2]
  exact Nat.mul_lt_mul_of_pos_right hb (Nat.two_pow_pos _)
theorem stp_lt {w p : Nat} {T : List Nat} (t : Tab w p T) (r b : Nat) : stp w T r b < 2 ^ w := nib_lt t.w8 t.bd _
theorem stp_ok {w p : Nat} {T : List Nat} (t : Tab w p T) {r b : Nat} (hr : r < 2 ^ w) (hb : b < 256) : reg w (stp w T r b) = Arun (reg w p) (reg w r) (bits8 b) := by
  rw [Arun_eq, bits8_len, ← byte_in t.w8 hb]
  unfold stp
  rw [nib_ok t.w8 (reg_supp w p) t.ok (nib_lt t.w8 t.bd _), nib_ok t.w8 (reg_supp w p) t.ok (xor_bd t.w8 hr hb)]
  rfl
theorem crcN_ok {w p : Nat} {T : List Nat} (t : Tab w p T) : ∀ (ds : List Nat) (r : Nat), r < 2 ^ w → (∀ d ∈ ds, d < 256) → crcN w T r ds < 2 ^ w ∧ reg w (crcN w T r ds) = Arun (reg w p) (reg w r) (ds.flatMap bits8)
  | [], r, hr, _ => ⟨hr, rfl⟩
  | d :: ds, r, hr, h => by
    have ih := crcN_ok t ds (stp w T r d) (stp_lt t r d) fun x hx => h x (List.mem_cons_of_mem _ hx)
    rw [List.flatMap_cons, Arun_append, ← stp_ok t hr (h d (List.mem_cons_self ..))]
    exact ih
def T8 : List Nat := [0, 7, 14, 9, 28, 27, 18, 21, 56, 63, 54, 49, 36, 35, 42, 45]
def T16 : List Nat := [0, 32773, 32783, 10, 32795, 30, 20, 32785, 32819, 54, 60, 32825, 40, 32813, 32807, 34]
def T32 : List Nat := [0, 79764919, 159529838, 222504665, 319059676, 398814059, 445009330, 507990021, 638119352, 583659535, 797628118, 726387553, 890018660, 835552979, 1015980042, 944750013]
theorem tab8 : Tab 8 7 T8 := ⟨by decide, by decide +kernel, by decide +kernel⟩
theorem tab16 : Tab 16 32773 T16 := ⟨by decide, by decide +kernel, by decide +kernel⟩
theorem tab32 : Tab 32 79764919 T32 := ⟨by decide, by decide +kernel, by decide +kernel⟩
/-- two registers with the same bits -/
theorem reg_inj {w r s : Nat} (hr : r < 2 ^ w) (hs : s < 2 ^ w) (h : ∀ j, j < w → reg w r j = reg w s j) : r = s := by
  refine Nat.eq_of_testBit_eq fun i => ?_
  by_cases hi : i < w
  · have := h (w - 1 - i) (by omega)
    unfold reg at this
    rw [decide_eq_true (by omega), Bool.true_and, Bool.true_and, show w - 1 - (w - 1 - i) = i by omega] at this
    exact this
  · rw [Nat.testBit_lt_two_pow (Nat.lt_of_lt_of_le hr (Nat.pow_le_pow_right (by decide) (by omega))), Nat.testBit_lt_two_pow (Nat.lt_of_lt_of_le hs (Nat.pow_le_pow_right (by decide) (by omega)))]
/-! ### the division in a row of bits -/
def b2 (b : Bool) : Int := if b then 1 else 0
theorem b2_xor (a b : Bool) : Builtin.bitXor (b2 a) (b2 b) = b2 (a ^^ b) := by
  cases a <;> cases b <;> decide +kernel
theorem b2_bit (n i : Nat) : Builtin.bitAnd ((n : Int) / 2 ^ i) 1 = b2 (n.testBit i) := by
  have h1 : ((n : Int) / 2 ^ i) = ((n / 2 ^ i : Nat) : Int) := by
    rw [Int.natCast_ediv, Int.natCast_pow]
    rfl
  have h2 := _root_.Bits.bitAnd_mask (x := ((n / 2 ^ i : Nat) : Int)) 1 (Int.natCast_nonneg _)
  rw [h1]
  rw [show ((2 : Int) ^ 1 - 1) = 1 from rfl] at h2
  rw [h2, Nat.testBit_eq_decide_div_mod_eq]
  unfold b2
  by_cases h : n / 2 ^ i % 2 = 1
  · rw [decide_eq_true h, if_pos rfl]
    omega
  · rw [decide_eq_false h, if_neg (by decide)]
    omega
/-- a row of n bits -/
def row (n : Nat) (f : Bits) : List Int := (List.range n).map fun i => b2 (f i)
theorem row_len (n : Nat) (f : Bits) : (row n f).length = n := by unfold row; rw [List.length_map, List.length_range]
theorem row_at {n : Nat} {f : Bits} {i : Nat} (h : i < n) : (row n f)[i]? = some (b2 (f i)) := by
  unfold row
  rw [List.getElem?_map, List.getElem?_range h]
  rfl
theorem row_set {n : Nat} {f : Bits} {i : Nat} {x : Bool} : (row n f).set i (b2 x) = row n (fun j => if j = i then x else f j) := by
  refine List.ext_getElem? fun j => ?_
  by_cases hj : j < n
  · rw [row_at hj, List.getElem?_set]
    by_cases hi : i = j
    · subst hi
      rw [if_pos rfl, if_pos (by rw [row_len]; exact hj), if_pos rfl]
    · rw [if_neg hi, row_at hj, if_neg (fun e => hi e.symm)]
  · rw [List.getElem?_eq_none (by rw [List.length_set, row_len]; omega), List.getElem?_eq_none (by rw [row_len]; omega)]
theorem row_congr {n : Nat} {f g : Bits} (h : ∀ i, i < n → f i = g i) : row n f = row n g := by
  unfold row
  exact List.map_congr_left fun i hi => by rw [h i (List.mem_range.mp hi)]
/-- the k-th step -/
def lstep (P : Bits) (w k : Nat) (f : Bits) : Bits := if f k = true then fun i => if i = k then false else (f i ^^ (decide (k < i) && decide (i ≤ k + w) && P (i - (k + 1)))) else f
def lrun (P : Bits) (w : Nat) (f : Bits) : Nat → Bits
  | 0 => f
  | k + 1 => lstep P w k (lrun P w f k)
theorem lrun_ok {P : Bits} {w : Nat} (hP : Supp w P) (ms : List Bool) (A : Bits) : ∀ k, k ≤ ms.length → ∀ i, k ≤ i → lrun P w (fun i => ms.getD i false ^^ A i) k i = (ms.getD i false ^^ Arun P A (ms.take k) (i - k))
  | 0, _, i, _ => by rw [List.take_zero]; rfl
  | k + 1, hk, i, hi => by
    have ih := lrun_ok hP ms A k (by omega)
    have hm : ms.take (k + 1) = ms.take k ++ [ms.getD k false] := by
      rw [List.take_add_one, List.getD_eq_getElem?_getD, List.getElem?_eq_getElem (by omega)]
      rfl
    rw [hm, Arun_append]
    show lstep P w k (lrun P w _ k) i = (ms.getD i false ^^ Ast P (Arun P A (ms.take k)) (ms.getD k false) (i - (k + 1)))
    have h0 := ih k (Nat.le_refl _)
    have h1 := ih i (by omega)
    rw [Nat.sub_self] at h0
    generalize lrun P w (fun i => ms.getD i false ^^ A i) k = f at *
    generalize Arun P A (ms.take k) = B at *
    unfold lstep Ast
    have hp : (decide (k < i) && decide (i ≤ k + w) && P (i - (k + 1))) = P (i - (k + 1)) := by
      rw [decide_eq_true (by omega : k < i), Bool.true_and]
      by_cases h : i ≤ k + w
      · rw [decide_eq_true h, Bool.true_and]
      · rw [decide_eq_false h, hP _ (by omega)]
        rfl
    have hsub : i - (k + 1) + 1 = i - k := by omega
    rw [hsub]
    by_cases ht : f k = true
    · rw [if_pos ht]
      show (if i = k then false else (f i ^^ (decide (k < i) && decide (i ≤ k + w) && P (i - (k + 1))))) = _
      rw [if_neg (by omega), hp, h1]
      rw [h0] at ht
      have hx : (B 0 ^^ ms.getD k false) = true := by rw [Bool.xor_comm]; exact ht
      rw [hx, Bool.true_and, Bool.xor_assoc]
    · rw [if_neg ht, h1]
      rw [h0] at ht
      have hx : (B 0 ^^ ms.getD k false) = false := by
        rw [Bool.xor_comm]
        exact Bool.eq_false_iff.mpr ht
      rw [hx, Bool.false_and, Bool.xor_false]
/-- the value of bits, the highest first -/
def valb (f : Bits) : Nat → Nat
  | 0 => 0
  | n + 1 => 2 * valb f n + (f n).toNat
theorem valb_reg {w r : Nat} (hr : r < 2 ^ w) : ∀ n, n ≤ w → valb (reg w r) n = r / 2 ^ (w - n)
  | 0, _ => by
    rw [Nat.sub_zero, Nat.div_eq_of_lt hr]
    rfl
  | n + 1, h => by
    show 2 * valb (reg w r) n + (reg w r n).toNat = _
    rw [valb_reg hr n (by omega)]
    unfold reg
    rw [decide_eq_true (by omega), Bool.true_and, Nat.testBit_eq_decide_div_mod_eq, show w - 1 - n = w - (n + 1) by omega, show w - n = (w - (n + 1)) + 1 by omega, Nat.pow_succ, ← Nat.div_div_eq_div_mul]
    have := Nat.mod_two_eq_zero_or_one (r / 2 ^ (w - (n + 1)))
    rcases this with h | h
    · rw [h]
      show _ + 0 = _
      omega
    · rw [h]
      show _ + 1 = _
      omega
theorem valb_congr {f g : Bits} : ∀ n, (∀ i, i < n → f i = g i) → valb f n = valb g n
  | 0, _ => rfl
  | n + 1, h => by
    show 2 * valb f n + (f n).toNat = 2 * valb g n + (g n).toNat
    rw [valb_congr n fun i hi => h i (by omega), h n (by omega)]
theorem bits_len (ds : List Nat) : (ds.flatMap bits8).length = 8 * ds.length := by
  induction ds with
  | nil => rfl
  | cons d r ih =>
    rw [List.flatMap_cons, List.length_append, ih, bits8_len, List.length_cons]
    omega

theorem T8_len : T8.length = 16 := rfl
theorem T16_len : T16.length = 16 := rfl
theorem T32_len : T32.length = 16 := rfl
theorem nib_int {w : Nat} (T : List Nat) (r : Nat) : Builtin.bitXor (Builtin.bitAnd (r : Int) (1 * 2 ^ (w - 4) - 1) * 2 ^ 4) ((T.getD (r / 2 ^ (w - 4) % 16) 0 : Nat) : Int) = ((nib w T r : Nat) : Int) := by
  rw [Int.one_mul, _root_.Bits.bitAnd_mask _ (by omega)]
  have h1 : (r : Int) % 2 ^ (w - 4) * 2 ^ 4 = ((r % 2 ^ (w - 4) * 16 : Nat) : Int) := by
    rw [Int.natCast_mul, Int.natCast_emod, Int.natCast_pow]
    rfl
  rw [h1, _root_.Bits.bitXor_pp (by omega) (by omega)]
  rfl
theorem ix_int {w r : Nat} : Builtin.bitAnd ((r : Int) / 2 ^ (w - 4)) 15 = ((r / 2 ^ (w - 4) % 16 : Nat) : Int) := by
  have h1 : (r : Int) / 2 ^ (w - 4) = ((r / 2 ^ (w - 4) : Nat) : Int) := by
    rw [Int.natCast_ediv, Int.natCast_pow]
    rfl
  rw [h1]
  have h2 := _root_.Bits.bitAnd_mask (x := ((r / 2 ^ (w - 4) : Nat) : Int)) 4 (Int.natCast_nonneg _)
  rw [show ((2 : Int) ^ 4 - 1) = 15 from rfl] at h2
  rw [h2]
  rfl
theorem tab_at {T : List Nat} (hT : T.length = 16) (n : Nat) : atI ((cs T).map V.int) ((n % 16 : Nat) : Int) = some (.int ((T.getD (n % 16) 0 : Nat) : Int)) := by
  refine at_of rfl (at_int (cs_at ?_))
  rw [List.getD_eq_getElem?_getD, List.getElem?_eq_getElem (by omega)]
  rfl
theorem ev_nib {K : PySem.W.Frag} {σ : L2.St} {H : Hp} {t1 t2 t3 t4 t5 : TE} {w r : Nat} {T : List Nat} {p : Addr} (hT : T.length = 16) (hw : 8 ≤ w) (hw2 : w ≤ 32)
    (h1 : Ev t1 σ H (.int (r : Int))) (h2 : Ev t2 σ H (.int (1 * 2 ^ (w - 4) - 1))) (h3 : Ev t3 σ H (.ref p)) (hp : SqT K H p ((cs T).map V.int)) (h4 : Ev t4 σ H (.int (r : Int))) (h5 : Ev t5 σ H (.int (((w - 4 : Nat) : Int)))) :
    Ev (tOp (rI0 fun i j => .int (Builtin.bitXor i j)) (tOp (rI CPow fun i j => .int (i * 2 ^ j.toNat)) (tOp (rI0 fun i j => .int (Builtin.bitAnd i j)) t1 t2) (tC (.int 4))) (tOp (rIxT K) t3 (tOp (rI0 fun i j => .int (Builtin.bitAnd i j)) (tOp (rI (fun _ j => 0 ≤ j) fun i j => .int (i / 2 ^ j.toNat)) t4 t5) (tC (.int 15))))) σ H (.int ((nib w T r : Nat) : Int)) := by
  refine Ev.is (ev_I0 (ev_I (j := 4) (ev_I0 h1 h2) ev_c ⟨by decide, by decide, ?_⟩) (ev_atT (n := ((r / 2 ^ (w - 4) % 16 : Nat) : Int)) h3 hp (Ev.is (ev_I0 (ev_I h4 h5 (by show (0 : Int) ≤ _; omega)) ev_c) ?_) (tab_at hT _))) ?_
  · rw [Int.one_mul, _root_.Bits.bitAnd_mask _ (by omega)]
    have h1 : (r : Int) % 2 ^ (w - 4) = ((r % 2 ^ (w - 4) : Nat) : Int) := by
      rw [Int.natCast_emod, Int.natCast_pow]
      rfl
    rw [h1, Int.natAbs_natCast]
    exact Nat.lt_of_lt_of_le (Nat.mod_lt _ (Nat.two_pow_pos _)) (Nat.pow_le_pow_right (by decide) (by omega))
  · rw [Int.toNat_natCast, ix_int]
  · exact congrArg V.int (nib_int T r)
def sp_div (K : PySem.W.Frag) : Sp := fun vs H Q _ => ∃ (a t : Addr) (ds T : List Nat) (r w p : Nat), vs = [.ref a, .int (r : Int), .int (w : Int), .ref t] ∧ SqL K H a ((cs ds).map V.int) ∧ SqT K H t ((cs T).map V.int) ∧ T.length = 16 ∧ Tab w p T ∧ w ≤ 32 ∧ r < 2 ^ w ∧ (∀ d ∈ ds, d < 256) ∧ RetV (.int ((crcN w T r ds : Nat) : Int)) H Q
theorem crcN_snoc (w : Nat) (T : List Nat) (r : Nat) (ds : List Nat) (d : Nat) : crcN w T r (ds ++ [d]) = stp w T (crcN w T r ds) d := by
  unfold crcN
  rw [List.foldl_append]
  rfl
theorem ok_divided (T : TX K mg) : FnOk P w K mg base CX0 1 T.a_divided T.d_divided ["data", "start", "width", "steps"] (sp_div K) := by
  refine T.F_divided.ok sc_divided (fun vs H Q E h => by obtain ⟨a, t, ds, T, r, w, p, rfl, _⟩ := h; rfl) (fun cdv A outer s H vs Q E hr h => ?_)
  obtain ⟨a, t, ds, tb, r, wd, pl, rfl, hS, hT, hT16, tab, hw32, hrw, hds, k⟩ := h
  have hw8 := tab.w8
  refine ⟨_, (pss_cons (ps_set (i := 4) sc_divided.nd rfl (Or.inl rfl) (pv 1))
      (pss_cons (ps_set (i := 5) sc_divided.nd rfl (Or.inl rfl) (pe_op op_sub (pv 2) pe_int))
      (pss_cons (ps_set (i := 6) sc_divided.nd rfl (Or.inl rfl) (pe_op op_sub (pe_op op_shl pe_int (pv 5)) pe_int))
      (pss_cons (ps_for PassesOwn.never rfl (pi_list (pv 0)) (pg_name (i := 7) sc_divided.nd rfl (Or.inl rfl)) (pss_cons (ps_aug (i := 4) sc_divided.nd rfl (Or.inl rfl) (pe_op op_shl (pv 7) (pe_op op_sub (pv 2) pe_int)) iop_xor)
        (pss_cons (ps_set (i := 4) sc_divided.nd rfl (Or.inl rfl) (pe_op op_xor (pe_op op_shl (pe_op op_and (pv 4) (pv 6)) pe_int) (pe_ix (r := rIxT K) ix_tup (pv 3) (pe_op op_and (pe_op op_shr (pv 4) (pv 5)) pe_int) (fun _ _ => rfl))))
        (pss_one (ps_set (i := 4) sc_divided.nd rfl (Or.inl rfl) (pe_op op_xor (pe_op op_shl (pe_op op_and (pv 4) (pv 6)) pe_int) (pe_ix (r := rIxT K) ix_tup (pv 3) (pe_op op_and (pe_op op_shr (pv 4) (pv 5)) pe_int) (fun _ _ => rfl))))))))
      (pss_one (ps_ret (pv 4))))))), ?_⟩
  walk_at "asg"
  intro H1 e1
  refine q_asg (v := .int ((wd - 4 : Nat) : Int)) (Ev.is (ev_I0 (ev_var rfl) ev_c) (congrArg V.int (by omega))) fun H2 e2 => ?_
  refine q_asg (v := .int (1 * 2 ^ (wd - 4) - 1)) (ev_I0 (ev_I ev_c (ev_var rfl) (show CPow 1 ((wd - 4 : Nat) : Int) from ⟨by omega, by omega, by decide⟩)) ev_c) fun H3 e3 => ?_
  refine q_forLn (xs := (cs ds).map V.int) (a := a) (ev_var rfl) (ex_l ((e1.trans e2).trans e3) hS) (fun i σ' H' => ∃ c, σ' = [some (.ref a), some (.int (r : Int)), some (.int (wd : Int)), some (.ref t), some (.int ((crcN wd tb r (ds.take i) : Nat) : Int)), some (.int ((wd - 4 : Nat) : Int)), some (.int (1 * 2 ^ (wd - 4) - 1)), c] ∧ Ex H H')
    (fun H4 e4 => ⟨none, rfl, ((e1.trans e2).trans e3).trans e4⟩) (fun i σ' H' _ h => by obtain ⟨_, _, e⟩ := h; exact ex_l e hS) ?_ ?_
  · rintro i x σ' H' hx ⟨c, rfl, ex⟩
    obtain ⟨n, hn, hi, rfl⟩ := int_at hx
    rw [cs_len] at hi
    have hd : ds[i]? = some ds[i] := List.getElem?_eq_getElem hi
    have hn2 := cs_at hd
    rw [hn] at hn2
    have hn2 := Option.some.inj hn2
    have hd256 : ds[i] < 256 := hds _ (List.getElem_mem hi)
    rw [show ds.take (i + 1) = ds.take i ++ [ds[i]] from by rw [List.take_add_one, hd]; rfl, crcN_snoc]
    have hr1 := (crcN_ok tab (ds.take i) r hrw fun d hd => hds d (List.mem_of_mem_take hd)).1
    generalize crcN wd tb r (ds.take i) = r1 at *
    generalize ds[i] = d at *
    subst hn2
    refine q_augR (a := (r1 : Int)) (b := ((d * 2 ^ (wd - 8) : Nat) : Int)) rfl (Ev.is (ev_I (ev_var rfl) (ev_I0 (ev_var rfl) ev_c) (show CPow (d : Int) ((wd : Int) - 8) from ⟨by omega, by omega, by rw [Int.natAbs_natCast]; omega⟩)) ?_) fun H4 e4 => ?_
    · rw [show ((wd : Int) - 8).toNat = wd - 8 by omega, Int.natCast_mul, Int.natCast_pow]
      rfl
    rw [show Builtin.bitXor (r1 : Int) ((d * 2 ^ (wd - 8) : Nat) : Int) = ((r1 ^^^ (d * 2 ^ (wd - 8)) : Nat) : Int) from _root_.Bits.bitXor_pp (by omega) (by omega)]
    refine q_asg (ev_nib hT16 hw8 hw32 (ev_var rfl) (ev_var rfl) (ev_var rfl) (ex_t (ex.trans e4) hT) (ev_var rfl) (ev_var rfl)) fun H5 e5 => ?_
    refine s_asg (ev_nib hT16 hw8 hw32 (ev_var rfl) (ev_var rfl) (ev_var rfl) (ex_t ((ex.trans e4).trans e5) hT) (ev_var rfl) (ev_var rfl)) fun H6 e6 => ?_
    exact ⟨_, rfl, ((ex.trans e4).trans e5).trans e6⟩
  · rintro σ' H' ⟨c, rfl, ex⟩
    walk_at "ret"
    intro H4 e4
    refine ret_eq k (ex.trans e4) ?_
    rw [List.length_map, cs_len, List.take_length]
def TW (w : Nat) : List Nat := if w = 8 then T8 else if w = 16 then T16 else T32
def PW (w : Nat) : Nat := if w = 8 then 7 else if w = 16 then 32773 else 79764919
theorem tabW {w : Nat} (h : w = 8 ∨ w = 16 ∨ w = 32) : Tab w (PW w) (TW w) := by
  rcases h with rfl | rfl | rfl
  · exact tab8
  · exact tab16
  · exact tab32
theorem TW_len (w : Nat) : (TW w).length = 16 := by
  unfold TW
  split
  · rfl
  · split <;> rfl
def sp_crc (K : PySem.W.Frag) (w : Nat) : Sp := fun vs H Q _ => ∃ (a : Addr) (ds : List Nat) (r : Nat), vs = [.ref a, .int (r : Int)] ∧ SqL K H a ((cs ds).map V.int) ∧ r < 2 ^ w ∧ (∀ d ∈ ds, d < 256) ∧ RetV (.int ((crcN w (TW w) r ds : Nat) : Int)) H Q
theorem ok_crc8 (T : TX K mg) : FnOk P w K mg base CX0 2 T.a_crc8 T.d_crc8 ["data", "start"] (sp_crc K 8) := by
  refine T.F_crc8.ok sc_crc8 (fun vs H Q E h => by obtain ⟨a, ds, r, rfl, _⟩ := h; rfl) (fun cdv A outer s H vs Q E hr h => ?_)
  obtain ⟨a, ds, r, rfl, hS, hrw, hds, k⟩ := h
  refine ⟨_, (pss_one (ps_ret (pe_call (ok_divided T) (hr.mono (by decide)) (by rfl) T.g_divided T.F_divided.kp T.b_divided .nil pass0 (pa_cons (pv 0) (pa_cons (pv 1) (pa_cons pe_int (pa_cons (pe_glob (v := V.ref T.A_STEPS_8) (by rfl) T.c_STEPS_8 rfl) pa_nil))))))), ?_⟩
  refine s_ret (v := .int ((crcN 8 (TW 8) r ds : Nat) : Int)) (ev_call (ea_cons (ev_var rfl) (ea_cons (ev_var rfl) (ea_cons ev_c (ea_cons ev_c ea_nil)))) fun H1 e Q q _ => ⟨a, _, ds, T8, r, 8, 7, rfl, ex_l e hS, T.s_STEPS_8 _, rfl, tab8, by decide, hrw, hds, q⟩) fun H1 e => k H1 e
theorem ok_crc16 (T : TX K mg) : FnOk P w K mg base CX0 2 T.a_crc16 T.d_crc16 ["data", "start"] (sp_crc K 16) := by
  refine T.F_crc16.ok sc_crc16 (fun vs H Q E h => by obtain ⟨a, ds, r, rfl, _⟩ := h; rfl) (fun cdv A outer s H vs Q E hr h => ?_)
  obtain ⟨a, ds, r, rfl, hS, hrw, hds, k⟩ := h
  refine ⟨_, (pss_one (ps_ret (pe_call (ok_divided T) (hr.mono (by decide)) (by rfl) T.g_divided T.F_divided.kp T.b_divided .nil pass0 (pa_cons (pv 0) (pa_cons (pv 1) (pa_cons pe_int (pa_cons (pe_glob (v := V.ref T.A_STEPS_16) (by rfl) T.c_STEPS_16 rfl) pa_nil))))))), ?_⟩
  refine s_ret (v := .int ((crcN 16 (TW 16) r ds : Nat) : Int)) (ev_call (ea_cons (ev_var rfl) (ea_cons (ev_var rfl) (ea_cons ev_c (ea_cons ev_c ea_nil)))) fun H1 e Q q _ => ⟨a, _, ds, T16, r, 16, 32773, rfl, ex_l e hS, T.s_STEPS_16 _, rfl, tab16, by decide, hrw, hds, q⟩) fun H1 e => k H1 e
theorem ok_crc32 (T : TX K mg) : FnOk P w K mg base CX0 2 T.a_crc32 T.d_crc32 ["data", "start"] (sp_crc K 32) := by
  refine T.F_crc32.ok sc_crc32 (fun vs H Q E h => by obtain ⟨a, ds, r, rfl, _⟩ := h; rfl) (fun cdv A outer s H vs Q E hr h => ?_)
  obtain ⟨a, ds, r, rfl, hS, hrw, hds, k⟩ := h
  refine ⟨_, (pss_one (ps_ret (pe_call (ok_divided T) (hr.mono (by decide)) (by rfl) T.g_divided T.F_divided.kp T.b_divided .nil pass0 (pa_cons (pv 0) (pa_cons (pv 1) (pa_cons pe_int (pa_cons (pe_glob (v := V.ref T.A_STEPS_32) (by rfl) T.c_STEPS_32 rfl) pa_nil))))))), ?_⟩
  refine s_ret (v := .int ((crcN 32 (TW 32) r ds : Nat) : Int)) (ev_call (ea_cons (ev_var rfl) (ea_cons (ev_var rfl) (ea_cons ev_c (ea_cons ev_c ea_nil)))) fun H1 e Q q _ => ⟨a, _, ds, T32, r, 32, 79764919, rfl, ex_l e hS, T.s_STEPS_32 _, rfl, tab32, by decide, hrw, hds, q⟩) fun H1 e => k H1 e

/-! ### the crc of a width -/
theorem ev_crc1 {σ : L2.St} {H : Hp} {t1 t2 : TE} {E : XK} {a : Addr} {ds : List Nat} {w r : Nat} (h1 : Ev t1 σ H (.ref a)) (hS : SqL K H a ((cs ds).map V.int)) (h2 : Ev t2 σ H (.int (r : Int))) (hr : r < 2 ^ w) (hd : ∀ d ∈ ds, d < 256) : Ev (tCall (sp_crc K w) [] E (tCons t1 (tCons t2 tNil))) σ H (.int ((crcN w (TW w) r ds : Nat) : Int)) :=
  ev_call (ea_cons h1 (ea_cons h2 ea_nil)) fun H1 e Q q _ => ⟨a, ds, r, rfl, ex_l e hS, hr, hd, q⟩
theorem ev_crc0 {σ : L2.St} {H : Hp} {t1 : TE} {E : XK} {a : Addr} {ds : List Nat} {w : Nat} (h1 : Ev t1 σ H (.ref a)) (hS : SqL K H a ((cs ds).map V.int)) (hd : ∀ d ∈ ds, d < 256) : Ev (tCall (sp_crc K w) [.int 0] E (tCons t1 tNil)) σ H (.int ((crcN w (TW w) 0 ds : Nat) : Int)) :=
  ev_call (ea_cons h1 ea_nil) fun H1 e Q q _ => ⟨a, ds, 0, rfl, ex_l e hS, Nat.two_pow_pos _, hd, q⟩
theorem ev_crcK {σ : L2.St} {H : Hp} {t1 t2 : TE} {E : XK} {a : Addr} {ds : List Nat} {w r : Nat} (h1 : Ev t1 σ H (.ref a)) (hS : SqL K H a ((cs ds).map V.int)) (h2 : Ev t2 σ H (.int (r : Int))) (hr : r < 2 ^ w) (hd : ∀ d ∈ ds, d < 256) : Ev (tCallN 1 1 (sp_crc K w) (fun us ws => us ++ ws) E (tCons t1 tNil) (tCons t2 tNil)) σ H (.int ((crcN w (TW w) r ds : Nat) : Int)) := fun H1 e Q q =>
  h1 H1 e _ fun H2 e2 => h2 H2 (e.trans e2) _ fun H3 e3 => ⟨rfl, rfl, a, ds, r, rfl, ex_l ((e.trans e2).trans e3) hS, hr, hd, fun H4 e4 => q H4 ((e2.trans e3).trans e4)⟩
theorem two_of {ns : List Int} (h : (ns.length : Int) = 2) : ∃ x y, ns = [x, y] := by
  match ns, h with
  | [x, y], _ => exact ⟨x, y, rfl⟩
theorem three_of {ns : List Int} (h : (ns.length : Int) = 3) : ∃ x y z, ns = [x, y, z] := by
  match ns, h with
  | [x, y, z], _ => exact ⟨x, y, z, rfl⟩
theorem q_forS {σ : L2.St} {H : Hp} {D : Ends} {tu tz : TS} {tl : TE} {g : TG} {xs : List V} (h : EvS K tl σ H xs) (k : ∀ p H1, Ex H H1 → SqL K H1 p xs → tSeq (tFor (iList K (tC (.ref p))) g tu) tz D σ H1) : tSeq (tFor (iList K tl) g tu) tz D σ H := h H (Ex.refl H) _ fun p H1 e hp => k p H1 e hp

/-! ### bursts -/
theorem inj_bits : ∀ (ds : List Nat) (i : Nat), inj (ds.flatMap bits8) i = (ds.getD (i / 8) 0).testBit (7 - i % 8)
  | [], i => by
    show ([] : List Bool).getD i false = (([] : List Nat).getD (i / 8) 0).testBit _
    rw [List.getD_nil, List.getD_nil, Nat.zero_testBit]
  | d :: r, i => by
    unfold inj
    rw [List.flatMap_cons, List.getD_eq_getElem?_getD]
    by_cases h : i < 8
    · rw [List.getElem?_append_left (by rw [bits8_len]; exact h)]
      unfold bits8
      rw [List.getElem?_map, List.getElem?_range h, show i / 8 = 0 by omega, show i % 8 = i by omega]
      rfl
    · rw [List.getElem?_append_right (by rw [bits8_len]; omega), bits8_len, ← List.getD_eq_getElem?_getD]
      have ih := inj_bits r (i - 8)
      unfold inj at ih
      rw [ih, show i / 8 = (i - 8) / 8 + 1 by omega, List.getD_cons_succ, show (i - 8) % 8 = i % 8 by omega]
theorem reg_zero (w : Nat) : reg w 0 = fun _ => false := by
  funext j
  unfold reg
  rw [Nat.zero_testBit, Bool.and_false]
theorem crc_reg {w p : Nat} {T : List Nat} (t : Tab w p T) {ds : List Nat} (hd : ∀ d ∈ ds, d < 256) : reg w (crcN w T 0 ds) = Bn (reg w p) (inj (ds.flatMap bits8)) (8 * ds.length) := by
  rw [(crcN_ok t ds 0 (Nat.two_pow_pos _) hd).2, Arun_eq, bits_len, reg_zero]
  congr 1
  funext j
  exact Bool.false_xor _
theorem Bn_add (P : Bits) : ∀ (m n : Nat) (A : Bits), Bn P A (m + n) = Bn P (Bn P A m) n
  | 0, n, A => by rw [Nat.zero_add]; rfl
  | m + 1, n, A => by
    rw [show m + 1 + n = (m + n) + 1 by omega]
    show Bn P (Bst P A) (m + n) = Bn P (Bn P (Bst P A) m) n
    exact Bn_add P m n _
theorem Bn_shift (P : Bits) (g : Bits) : ∀ a : Nat, Bn P (fun i => decide (a ≤ i) && g (i - a)) a = g
  | 0 => by
    funext i
    show (decide (0 ≤ i) && g (i - 0)) = g i
    rw [decide_eq_true (Nat.zero_le _), Bool.true_and, Nat.sub_zero]
  | a + 1 => by
    have h := Bst_shift (P := P) (A := fun i => decide (a + 1 ≤ i) && g (i - (a + 1))) (by rw [decide_eq_false (by omega), Bool.false_and])
    show Bn P (Bst P _) a = g
    rw [h]
    have h2 : (fun j => decide (a + 1 ≤ j + 1) && g (j + 1 - (a + 1))) = fun i => decide (a ≤ i) && g (i - a) := by
      funext j
      rw [show j + 1 - (a + 1) = j - a by omega]
      congr 1
      by_cases h : a ≤ j
      · rw [decide_eq_true h, decide_eq_true (by omega)]
      · rw [decide_eq_false h, decide_eq_false (by omega)]
    rw [h2]
    exact Bn_shift P g a
theorem Bn_ne {w : Nat} {P : Bits} (hP : Supp w P) (h1 : P (w - 1) = true) (hw : 1 ≤ w) : ∀ (n : Nat) {A : Bits}, Supp w A → (∀ j, Bn P A n j = false) → ∀ j, A j = false
  | 0, _, _, h => h
  | n + 1, A, hA, h => by
    have ih := Bn_ne hP h1 hw n (Bst_supp hP hA) h
    have h0 : A 0 = false := by
      have := ih (w - 1)
      have h2 : (A (w - 1 + 1) ^^ (A 0 && P (w - 1))) = false := this
      rw [hA _ (by omega), h1, Bool.and_true, Bool.false_xor] at h2
      exact h2
    intro j
    cases j with
    | zero => exact h0
    | succ j =>
      have h2 : (A (j + 1) ^^ (A 0 && P j)) = false := ih j
      rw [h0, Bool.false_and, Bool.xor_false] at h2
      exact h2
theorem crc_burst {w p : Nat} {T : List Nat} (t : Tab w p T) (hp : reg w p (w - 1) = true) {ds es : List Nat} (hd : ∀ d ∈ ds, d < 256) (he : ∀ d ∈ es, d < 256) (hl : es.length = ds.length) {a : Nat} (ha : a ≤ 8 * ds.length) {g : Bits} (hg : Supp w g) (h0 : g 0 = true)
    (hx : ∀ i, inj (es.flatMap bits8) i = (inj (ds.flatMap bits8) i ^^ (decide (a ≤ i) && g (i - a)))) : crcN w T 0 es ≠ crcN w T 0 ds := fun e => by
  have h1 := crc_reg t hd
  have h2 := crc_reg t he
  rw [e, h1, hl] at h2
  have hx2 : inj (es.flatMap bits8) = xf (inj (ds.flatMap bits8)) (fun i => decide (a ≤ i) && g (i - a)) := funext hx
  rw [hx2, Bn_xf] at h2
  have h3 : ∀ j, Bn (reg w p) (fun i => decide (a ≤ i) && g (i - a)) (8 * ds.length) j = false := fun j => by
    have := congrFun h2 j
    unfold xf at this
    generalize Bn (reg w p) (inj (ds.flatMap bits8)) (8 * ds.length) j = x at this
    generalize Bn (reg w p) (fun i => decide (a ≤ i) && g (i - a)) (8 * ds.length) j = y at this
    revert x y
    decide
  rw [show 8 * ds.length = a + (8 * ds.length - a) by omega, Bn_add, Bn_shift] at h3
  have h4 := Bn_ne (reg_supp w p) hp (by have := t.w8; omega) _ hg h3 0
  rw [h0] at h4
  cases h4
/-- the bytes of a register -/
def ownN (w r : Nat) : List Nat := (List.range (w / 8)).map fun j => r / 2 ^ (w - 8 - 8 * j) % 256
theorem own_reg {w r : Nat} (hw : w % 8 = 0) : inj ((ownN w r).flatMap bits8) = reg w r := by
  funext i
  rw [inj_bits]
  unfold ownN reg
  rw [List.getD_eq_getElem?_getD, List.getElem?_map]
  by_cases h : i < w
  · rw [List.getElem?_range (by omega), decide_eq_true h, Bool.true_and]
    show (r / 2 ^ (w - 8 - 8 * (i / 8)) % 256).testBit (7 - i % 8) = _
    rw [show (256 : Nat) = 2 ^ 8 from rfl, Nat.testBit_mod_two_pow, Nat.testBit_div_two_pow, decide_eq_true (by omega), Bool.true_and]
    congr 1
    omega
  · rw [List.getElem?_eq_none (by rw [List.length_range]; omega), decide_eq_false h, Bool.false_and]
    exact Nat.zero_testBit _
theorem own_lt (w r : Nat) : ∀ d ∈ ownN w r, d < 256 := fun d hd => by
  obtain ⟨j, _, rfl⟩ := List.mem_map.mp hd
  exact Nat.mod_lt _ (by decide)
theorem Bn_zero (P : Bits) : ∀ n, Bn P (fun _ => false) n = fun _ => false
  | 0 => rfl
  | n + 1 => by
    show Bn P (Bst P fun _ => false) n = _
    have h : (Bst P fun _ => false) = fun _ => false := by
      funext j
      show (false ^^ (false && P j)) = false
      rfl
    rw [h]
    exact Bn_zero P n
theorem crc_own {w p : Nat} {T : List Nat} (t : Tab w p T) (hw : w % 8 = 0) {ds : List Nat} (hd : ∀ d ∈ ds, d < 256) : crcN w T 0 (ds ++ ownN w (crcN w T 0 ds)) = 0 := by
  have h1 := (crcN_ok t ds 0 (Nat.two_pow_pos _) hd).1
  have happ : crcN w T 0 (ds ++ ownN w (crcN w T 0 ds)) = crcN w T (crcN w T 0 ds) (ownN w (crcN w T 0 ds)) := by
    unfold crcN
    rw [List.foldl_append]
  rw [happ]
  generalize crcN w T 0 ds = r at *
  obtain ⟨h2, h3⟩ := crcN_ok t (ownN w r) r h1 (own_lt w r)
  refine reg_inj h2 (Nat.two_pow_pos _) fun j hj => ?_
  rw [h3, Arun_eq, own_reg hw, reg_zero]
  have hz : xf (reg w r) (reg w r) = fun _ => false := by
    funext j
    exact Bool.xor_self _
  rw [hz, Bn_zero]
theorem crc_xor {w p : Nat} {T : List Nat} (t : Tab w p T) {ds es bs : List Nat} (hd : ∀ d ∈ ds, d < 256) (he : ∀ d ∈ es, d < 256) (hb : ∀ d ∈ bs, d < 256) (hl : es.length = ds.length) (hm : bs.length = ds.length) (hx : ∀ i, bs.getD i 0 = ds.getD i 0 ^^^ es.getD i 0) :
    crcN w T 0 bs = crcN w T 0 ds ^^^ crcN w T 0 es := by
  have h1 := (crcN_ok t ds 0 (Nat.two_pow_pos _) hd).1
  have h2 := (crcN_ok t es 0 (Nat.two_pow_pos _) he).1
  have h3 := (crcN_ok t bs 0 (Nat.two_pow_pos _) hb).1
  refine reg_inj h3 (Nat.xor_lt_two_pow h1 h2) fun j _ => ?_
  rw [reg_xor, crc_reg t hb, crc_reg t hd, crc_reg t he, hl, hm, ← Bn_xf]
  congr 1
  congr 1
  funext i
  unfold xf
  rw [inj_bits, inj_bits, inj_bits, hx, Nat.testBit_xor]

def sp_told (K : PySem.W.Frag) : Sp := fun vs H Q _ => ∃ (a : Addr) (ds : List Nat) (w : Nat), vs = [.ref a, .int (w : Int)] ∧ SqL K H a ((cs ds).map V.int) ∧ (∀ d ∈ ds, d < 256) ∧ (w = 8 ∨ w = 16 ∨ w = 32) ∧ RetV (.int ((crcN w (TW w) 0 ds : Nat) : Int)) H Q
theorem wrong {p : Prop} {x y : Int} (hb : decide (V.int x = V.int y) = true) (h : x ≠ y) : p := absurd (V.int.inj (of_decide_eq_true hb)) h
theorem wrong2 {p : Prop} {x y : Int} (hb : decide (V.int x = V.int y) = false) (h : x = y) : p := absurd (congrArg V.int h) (of_decide_eq_false hb)
theorem ok_law_told (T : TX K mg) : FnOk P w K mg base CX0 3 T.a_law_told T.d_law_told ["data", "width"] (sp_told K) := by
  refine T.F_law_told.ok sc_law_told (fun vs H Q E h => by obtain ⟨a, ds, w, rfl, _⟩ := h; rfl) (fun cdv A outer s H vs Q E hr h => ?_)
  obtain ⟨a, ds, wd, rfl, hS, hds, hw, k⟩ := h
  refine ⟨_, (pss_cons (ps_if (pt_cmpR op_eq (pv 1) pe_int (nomark _)) (pss_one (ps_ret (pe_call (ok_crc8 T) (hr.mono (by decide)) (by rfl) T.g_crc8 T.F_crc8.kp T.b1_crc8 T.v1_crc8 pass0 (pa_cons (pv 0) pa_nil)))) pss_nil)
      (pss_cons (ps_if (pt_cmpR op_eq (pv 1) pe_int (nomark _)) (pss_one (ps_ret (pe_call (ok_crc16 T) (hr.mono (by decide)) (by rfl) T.g_crc16 T.F_crc16.kp T.b1_crc16 T.v1_crc16 pass0 (pa_cons (pv 0) pa_nil)))) pss_nil)
      (pss_one (ps_ret (pe_call (ok_crc32 T) (hr.mono (by decide)) (by rfl) T.g_crc32 T.F_crc32.kp T.b1_crc32 T.v1_crc32 pass0 (pa_cons (pv 0) pa_nil)))))), ?_⟩
  walk_at "when"
  · intro hb H2 e2
    rcases hw with rfl | rfl | rfl
    · exact s_ret (ev_crc0 (ev_var rfl) (ex_l (e2) hS) hds) fun H3 e3 => k H3 (e2.trans e3)
    · exact wrong hb (by decide)
    · exact wrong hb (by decide)
  · intro hb2 H2 e2
    walk_at "when"
    · intro hb H3 e3
      rcases hw with rfl | rfl | rfl
      · exact wrong hb (by decide)
      · exact s_ret (ev_crc0 (ev_var rfl) (ex_l (e2.trans e3) hS) hds) fun H4 e4 => k H4 ((e2.trans e3).trans e4)
      · exact wrong hb (by decide)
    · intro hb H3 e3
      rcases hw with rfl | rfl | rfl
      · exact wrong2 hb2 (by decide)
      · exact wrong2 hb (by decide)
      · exact s_ret (ev_crc0 (ev_var rfl) (ex_l (e2.trans e3) hS) hds) fun H4 e4 => k H4 ((e2.trans e3).trans e4)
theorem ev_told {σ : L2.St} {H : Hp} {t1 t3 : TE} {E : XK} {ds : List Nat} {w : Nat} (hw : w = 8 ∨ w = 16 ∨ w = 32) (h1 : EvS K t1 σ H ((cs ds).map V.int)) (h3 : Ev t3 σ H (.int (w : Int))) (hd : ∀ d ∈ ds, d < 256) : Ev (tCall (sp_told K) [] E (tCons t1 (tCons t3 tNil))) σ H (.int ((crcN w (TW w) 0 ds : Nat) : Int)) := fun H1 e Q q =>
  h1 H1 e _ fun p H2 e2 hp => h3 H2 (e.trans e2) _ fun H4 e4 => ⟨p, ds, w, rfl, ex_l e4 hp, hd, hw, fun H6 e6 => q H6 ((e2.trans e4).trans e6)⟩
/-! ### changed bits -/
theorem ev_bit {σ : L2.St} {H : Hp} {t1 t2 : TE} {n i : Nat} {j : Int} (h1 : Ev t1 σ H (.int (n : Int))) (h2 : Ev t2 σ H (.int j)) (hj : j = (i : Int)) : Ev (tOp (rI0 fun i j => .int (Builtin.bitAnd i j)) (tOp (rI (fun _ j => 0 ≤ j) fun i j => .int (i / 2 ^ j.toNat)) t1 t2) (tC (.int 1))) σ H (.int (b2 (n.testBit i))) := by
  subst hj
  exact Ev.is (ev_I0 (ev_I h1 h2 (by show (0 : Int) ≤ _; omega)) ev_c) (congrArg V.int (by rw [Int.toNat_natCast]; exact b2_bit n i))
theorem b2_one (b : Bool) : decide (V.int (b2 b) = V.int 1) = b := by
  cases b
  · exact decide_eq_false fun h => by cases h
  · rfl
def chg (a p n k i : Nat) : Bool := decide (a ≤ i) && (decide (i < a + k) && decide (i < 8 * n) && p.testBit (i - a))
structure Chg (ds es : List Nat) (a p k : Nat) : Prop where
  len : es.length = ds.length
  lt : ∀ d ∈ es, d < 256
  bit : ∀ i, (es.getD (i / 8) 0).testBit (7 - i % 8) = ((ds.getD (i / 8) 0).testBit (7 - i % 8) ^^ chg a p ds.length k i)
theorem chg_skip {a p n k i : Nat} (h : ¬ (a + k < 8 * n ∧ p.testBit k = true)) : chg a p n (k + 1) i = chg a p n k i := by
  unfold chg
  by_cases h1 : i = a + k
  · subst h1
    rw [show a + k - a = k by omega, decide_eq_false (show ¬ a + k < a + k by omega), Bool.false_and, Bool.false_and, Bool.and_false]
    by_cases h2 : a + k < 8 * n
    · have h3 : p.testBit k = false := Bool.eq_false_iff.mpr fun h4 => h ⟨h2, h4⟩
      rw [h3, Bool.and_false, Bool.and_false]
    · rw [decide_eq_false h2, Bool.and_false, Bool.false_and, Bool.and_false]
  · by_cases h2 : i < a + k
    · rw [decide_eq_true h2, decide_eq_true (show i < a + (k + 1) by omega)]
    · by_cases h3 : a ≤ i
      · rw [decide_eq_false h2, decide_eq_false (show ¬ i < a + (k + 1) by omega)]
      · rw [decide_eq_false h3, Bool.false_and, Bool.false_and]
theorem Chg.step {ds es : List Nat} {a p k : Nat} (h : Chg ds es a p k) (h1 : a + k < 8 * ds.length) (h2 : p.testBit k = true) : Chg ds (es.set ((a + k) / 8) (es.getD ((a + k) / 8) 0 ^^^ 2 ^ (7 - (a + k) % 8))) a p (k + 1) := by
  have hin : (a + k) / 8 < es.length := by rw [h.len]; omega
  have hb : es.getD ((a + k) / 8) 0 < 256 := by
    rw [List.getD_eq_getElem?_getD, List.getElem?_eq_getElem hin]
    exact h.lt _ (List.getElem_mem hin)
  refine ⟨by rw [List.length_set, h.len], fun d hd => ?_, fun i => ?_⟩
  · rcases List.mem_or_eq_of_mem_set hd with h3 | h3
    · exact h.lt d h3
    · subst h3
      exact Nat.xor_lt_two_pow (n := 8) hb (Nat.pow_lt_pow_right (by decide) (by omega))
  · have hc : chg a p ds.length (k + 1) i = (chg a p ds.length k i ^^ decide (i = a + k)) := by
      unfold chg
      by_cases h3 : i = a + k
      · subst h3
        rw [show a + k - a = k by omega, h2, decide_eq_true (show a ≤ a + k by omega), decide_eq_true (show a + k < a + (k + 1) by omega), decide_eq_true h1, decide_eq_false (show ¬ a + k < a + k by omega), decide_eq_true (show a + k = a + k by rfl)]
        rfl
      · rw [decide_eq_false h3, Bool.xor_false]
        by_cases h4 : i < a + k
        · rw [decide_eq_true h4, decide_eq_true (show i < a + (k + 1) by omega)]
        · by_cases h5 : a ≤ i
          · rw [decide_eq_false h4, decide_eq_false (show ¬ i < a + (k + 1) by omega)]
          · rw [decide_eq_false h5, Bool.false_and, Bool.false_and]
    rw [hc, ← Bool.xor_assoc, ← h.bit i, List.getD_eq_getElem?_getD, List.getElem?_set]
    by_cases h3 : (a + k) / 8 = i / 8
    · rw [if_pos h3, if_pos hin]
      show (es.getD ((a + k) / 8) 0 ^^^ 2 ^ (7 - (a + k) % 8)).testBit (7 - i % 8) = _
      rw [Nat.testBit_xor, Nat.testBit_two_pow, h3]
      congr 1
      by_cases h4 : i = a + k
      · rw [decide_eq_true h4, decide_eq_true (by omega)]
      · rw [decide_eq_false h4, decide_eq_false (by omega)]
    · rw [if_neg h3, ← List.getD_eq_getElem?_getD, decide_eq_false (fun h4 => h3 (by rw [h4])), Bool.xor_false]
def sp_chg (K : PySem.W.Frag) : Sp := fun vs H Q _ => ∃ (b : Addr) (ds : List Nat) (a p k : Nat), vs = [.ref b, .int (a : Int), .int (p : Int), .int (k : Int)] ∧ SqL K H b ((cs ds).map V.int) ∧ (∀ d ∈ ds, d < 256) ∧ ds.length ≤ 1000 ∧ k ≤ 100 ∧ ∀ q es H', Ex H H' → H' q = some (.lst ((cs es).map V.int)) → Chg ds es a p k → Q (.ref q) H'
theorem ok_law_changed (T : TX K mg) : FnOk P w K mg base CX0 1 T.a_law_changed T.d_law_changed ["data", "at", "pattern", "size"] (sp_chg K) := by
  refine T.F_law_changed.ok sc_law_changed (fun vs H Q E h => by obtain ⟨b, ds, a, p, k, rfl, _⟩ := h; rfl) (fun cdv A outer s H vs Q E hr h => ?_)
  obtain ⟨b, ds, a, p, sz, rfl, hS, hds, hlen, hsz, k⟩ := h
  refine ⟨_, (pss_cons (ps_set (i := 4) sc_law_changed.nd rfl (Or.inl rfl) (pe_callTy (r := rListS K) call_list_of (by rfl) T.m_list PyProof.Rows.boot_list (pa_cons (pv 0) pa_nil)))
      (pss_cons (ps_for PassesOwn.never rfl (pi_range1 (by rfl) T.m_range (pa_cons (pv 3) pa_nil)) (pg_name (i := 5) sc_law_changed.nd rfl (Or.inl rfl)) (pss_cons (ps_set (i := 6) sc_law_changed.nd rfl (Or.inl rfl) (pe_op op_add (pv 1) (pv 5)))
        (pss_one (ps_if (PW.pt (pw_and (pt_cmpR op_lt (pv 6) (pe_op op_mul pe_int (pe_callB (r := rLenS K) call_len_seq (by rfl) T.m_len PySem.boot_len (pa_cons (pv 0) pa_nil))) (nomark _)) (pw_and1 (pt_cmpR op_eq (pe_op op_and (pe_op op_shr (pv 2) (pv 5)) pe_int) pe_int (nomark _))))) (pss_one (ps_asg (pe_op op_xor (pe_ix (r := rIxL K) ix_list (pv 4) (pe_op op_fdiv (pv 6) pe_int) (fun _ _ => rfl)) (pe_op op_shl pe_int (pe_op op_sub pe_int (pe_op op_mod (pe_callTy call_int1 (by rfl) T.m_int PyProof.Rows.boot_int (pa_cons (pv 6) pa_nil)) pe_int)))) (pg_sub (pv 4) (pe_op op_fdiv (pv 6) pe_int) set_list))) pss_nil))))
      (pss_one (ps_ret (pv 4))))), ?_⟩
  refine q_asgL (xs := (cs ds).map V.int) (el_of (Ev.s (ev_var rfl) hS)) fun q H1 hq e1 h1 => ?_
  refine q_forR1 (n := (sz : Int)) (ea_cons (ev_var rfl) ea_nil) (by omega) (fun i σ' H' => ∃ c5 c6 es, σ' = [some (.ref b), some (.int (a : Int)), some (.int (p : Int)), some (.int (sz : Int)), some (.ref q), c5, c6] ∧ Ex H H' ∧ H' q = some (.lst ((cs es).map V.int)) ∧ Chg ds es a p i)
    (fun H2 e2 => ⟨none, none, ds, rfl, e1.trans e2, e2 _ _ h1, ⟨rfl, hds, fun i => by
      unfold chg
      by_cases h : a ≤ i
      · rw [decide_eq_false (show ¬ i < a + 0 by omega), Bool.false_and, Bool.false_and, Bool.and_false, Bool.xor_false]
      · rw [decide_eq_false h, Bool.false_and, Bool.xor_false]⟩⟩) ?_ ?_
  · rintro i σ' H' hi ⟨c5, c6, es, rfl, ex, hl, hc⟩
    refine q_asg (v := .int ((a + i : Nat) : Int)) (Ev.is (ev_I0 (ev_var rfl) (ev_var rfl)) (congrArg V.int (by omega))) fun H2 e2 => ?_
    have hl2 := e2 _ _ hl
    have ex2 := ex.trans e2
    refine s_when (b := decide (((a + i : Nat) : Int) < 8 * (ds.length : Int)) && p.testBit i) (et_and (et_test (Ev.is (ev_I0 (ev_var rfl) (ev_I ev_c (ev_lenS (Ev.s (ev_var rfl) (ex_l ex2 hS))) (.inl (by decide)))) (by rw [List.length_map, cs_len]))) fun _ => et_test (Ev.is (ev_eq (ev_bit (i := i) (ev_var rfl) (ev_var rfl) rfl) ev_c rfl) (by rw [b2_one]))) ?_ ?_
    · intro hb H3 e3
      rw [Bool.and_eq_true] at hb
      have h8 : a + i < 8 * ds.length := by have := of_decide_eq_true hb.1; omega
      have hin : (a + i) / 8 < es.length := by rw [hc.len]; omega
      have hat : es[(a + i) / 8]? = some (es.getD ((a + i) / 8) 0) := by
        rw [List.getD_eq_getElem?_getD, List.getElem?_eq_getElem hin]
        rfl
      have hdiv : ∀ {H4 : Hp}, Ev (tOp (rI CDiv fun i j => .int (i / j)) (tVar 6) (tC (.int 8))) ([some (.ref b), some (.int (a : Int)), some (.int (p : Int)), some (.int (sz : Int)), some (.ref q), some (.int (i : Int)), some (.int ((a + i : Nat) : Int))] : L2.St) H4 (.int (((a + i) / 8 : Nat) : Int)) := Ev.is (ev_I (ev_var rfl) ev_c ⟨by decide, by decide⟩) (congrArg V.int (by omega))
      refine s_setL (v := .int ((es.getD ((a + i) / 8) 0 ^^^ 2 ^ (7 - (a + i) % 8) : Nat) : Int)) (j := (a + i) / 8) (e3 _ _ hl2) (Ev.is (ev_I0 (ev_at (Ev.s (ev_var rfl) (sq_of (e3 _ _ hl2))) hdiv (at_of rfl (at_int (cs_at hat)))) (ev_I (j := ((7 - (a + i) % 8 : Nat) : Int)) ev_c (Ev.is (ev_I0 ev_c (ev_I (ev_int1 (ev_var rfl)) ev_c (by decide))) (congrArg V.int (by omega))) (show CPow 1 ((7 - (a + i) % 8 : Nat) : Int) from ⟨by omega, by omega, by decide⟩))) ?_) (ev_var rfl) hdiv (by rw [List.length_map, cs_len]; exact hin) fun H4 e4 => ?_
      · rw [Int.toNat_natCast, Int.one_mul, show ((2 : Int) ^ (7 - (a + i) % 8)) = ((2 ^ (7 - (a + i) % 8) : Nat) : Int) by rw [Int.natCast_pow]; rfl, _root_.Bits.bitXor_pp (by omega) (Int.natCast_nonneg _)]
        rfl
      · refine ⟨_, _, _, rfl, Ex.mut ((ex2.trans e3).trans e4) hq, ?_, hc.step h8 hb.2⟩
        rw [upd_same]
        unfold cs
        rw [List.map_set, List.map_set]
    · intro hb H3 e3
      refine ⟨_, _, es, rfl, ex2.trans e3, e3 _ _ hl2, hc.len, hc.lt, fun j => ?_⟩
      rw [hc.bit, chg_skip]
      intro h
      rw [decide_eq_true (by omega), h.2] at hb
      cases hb
  · rintro σ' H' ⟨c5, c6, es, rfl, ex, hl, hc⟩
    walk_at "ret"
    intro H2 e2
    exact k q es H2 (ex.trans e2) (e2 _ _ hl) hc
theorem ev_chgne {σ : L2.St} {H : Hp} {t1 t2 t3 t4 t5 t6 : TE} {E E' : XK} {b : Addr} {ds : List Nat} {a p k w r : Nat} (hw : w = 8 ∨ w = 16 ∨ w = 32) (h1 : Ev t1 σ H (.ref b)) (hS : SqL K H b ((cs ds).map V.int)) (h2 : Ev t2 σ H (.int (a : Int))) (h3 : Ev t3 σ H (.int (p : Int))) (h4 : Ev t4 σ H (.int (k : Int))) (h5 : Ev t5 σ H (.int (w : Int))) (h6 : Ev t6 σ H (.int (r : Int)))
    (hd : ∀ d ∈ ds, d < 256) (hl : ds.length ≤ 1000) (hk : k ≤ 100) (hne : ∀ es, Chg ds es a p k → crcN w (TW w) 0 es ≠ r) :
    Ev (tOp rEq (tCall (sp_told K) [] E (tCons (tCall (sp_chg K) [] E' (tCons t1 (tCons t2 (tCons t3 (tCons t4 tNil))))) (tCons t5 tNil))) t6) σ H (.bl false) := fun H1 e Q q =>
  h1 H1 e _ fun H2 e2 => h2 H2 (e.trans e2) _ fun H3 e3 => h3 H3 ((e.trans e2).trans e3) _ fun H4 e4 => h4 H4 (((e.trans e2).trans e3).trans e4) _ fun H5 e5 =>
    have ex5 : Ex H H5 := (((e.trans e2).trans e3).trans e4).trans e5
    ⟨b, ds, a, p, k, rfl, ex_l ex5 hS, hd, hl, hk, fun q2 es H6 e6 hq hc => h5 H6 (ex5.trans e6) _ fun H7 e7 => ⟨q2, es, w, rfl, sq_of (e7 _ _ hq), hc.lt, hw, fun H8 e8 => h6 H8 (((ex5.trans e6).trans e7).trans e8) _ fun H9 e9 =>
      ⟨rfl, by
        have hf : decide (V.int ((crcN w (TW w) 0 es : Nat) : Int) = V.int (r : Int)) = false := decide_eq_false fun h => hne es hc (by have := V.int.inj h; omega)
        rw [hf]
        exact q H9 ((((((e2.trans e3).trans e4).trans e5).trans e6).trans e7).trans (e8.trans e9))⟩⟩⟩
/-! ### a pattern -/
def sp_pat (K : PySem.W.Frag) : Sp := fun vs H Q _ => ∃ (c : Int) (w : Nat), vs = [.int c, .int (w : Int)] ∧ 1 ≤ w ∧ w ≤ 32 ∧ ∀ t (s p : Nat) H', Ex H H' → SqT K H' t [.int (s : Int), .int (p : Int)] → 1 ≤ s → s ≤ w → p.testBit 0 = true → Q (.ref t) H'
theorem ok_law_pattern (T : TX K mg) : FnOk P w K mg base CX0 1 T.a_law_pattern T.d_law_pattern ["cell", "width"] (sp_pat K) := by
  refine T.F_law_pattern.ok sc_law_pattern (fun vs H Q E h => by obtain ⟨c, w, rfl, _⟩ := h; rfl) (fun cdv A outer s H vs Q E hr h => ?_)
  obtain ⟨c, wd, rfl, hw1, hw, k⟩ := h
  refine ⟨_, (pss_cons (ps_set (i := 2) sc_law_pattern.nd rfl (Or.inl rfl) (pe_op op_add pe_int (pe_op op_mod (pe_callTy call_int1 (by rfl) T.m_int PyProof.Rows.boot_int (pa_cons (pv 0) pa_nil)) (pv 1))))
      (pss_cons (ps_set (i := 3) sc_law_pattern.nd rfl (Or.inl rfl) (pe_op op_mod (pe_op op_fdiv (pe_callTy call_int1 (by rfl) T.m_int PyProof.Rows.boot_int (pa_cons (pv 0) pa_nil)) pe_int) (pe_op op_shl pe_int (pv 1))))
      (pss_one (ps_ret (pe_tup (pa_cons (pv 2) (pa_cons (pe_op op_and (pe_op op_or (pe_op op_or (pv 3) pe_int) (pe_op op_shl pe_int (pe_op op_sub (pv 2) pe_int))) (pe_op op_sub (pe_op op_shl pe_int (pv 2)) pe_int)) pa_nil))))))), ?_⟩
  have hm0 := Int.emod_nonneg c (show (wd : Int) ≠ 0 by omega)
  have hm1 := Int.emod_lt_of_pos c (show 0 < (wd : Int) by omega)
  refine q_asg (v := .int ((1 + (c % (wd : Int)).toNat : Nat) : Int)) (Ev.is (ev_I0 ev_c (ev_I (ev_int1 (ev_var rfl)) (ev_var rfl) (by show (0 : Int) < _; omega))) (congrArg V.int (by omega))) fun H1 e1 => ?_
  have hs1 : 1 ≤ 1 + (c % (wd : Int)).toNat := by omega
  have hs2 : 1 + (c % (wd : Int)).toNat ≤ wd := by omega
  generalize 1 + (c % (wd : Int)).toNat = sz at *
  have hp2w : (1 : Int) * 2 ^ ((wd : Int)).toNat = ((2 ^ wd : Nat) : Int) := by
    rw [Int.toNat_natCast, Int.one_mul, Int.natCast_pow]
    rfl
  have hpos : 0 < 2 ^ wd := Nat.two_pow_pos _
  have hq0 := Int.emod_nonneg (c / 64) (show ((2 ^ wd : Nat) : Int) ≠ 0 by omega)
  refine q_asg (v := .int (((c / 64 % ((2 ^ wd : Nat) : Int)).toNat : Nat) : Int)) (Ev.is (ev_I (ev_I (ev_int1 (ev_var rfl)) ev_c ⟨by decide, by decide⟩) (ev_I ev_c (ev_var rfl) (show CPow 1 (wd : Int) from ⟨by omega, by omega, by decide⟩)) (by rw [hp2w]; show (0 : Int) < _; omega)) (congrArg V.int (by rw [hp2w]; omega))) fun H2 e2 => ?_
  generalize (c / 64 % ((2 ^ wd : Nat) : Int)).toNat = x at *
  refine s_retU (xs := [.int (sz : Int), .int (((x ||| 1 ||| 2 ^ (sz - 1)) % 2 ^ sz : Nat) : Int)]) (eu_tup (ea_cons (ev_var rfl) (ea_cons (Ev.is (ev_I0 (ev_I0 (ev_I0 (ev_var rfl) ev_c) (ev_I (j := ((sz - 1 : Nat) : Int)) ev_c (Ev.is (ev_I0 (ev_var rfl) ev_c) (congrArg V.int (by omega))) (show CPow 1 ((sz - 1 : Nat) : Int) from ⟨by omega, by omega, by decide⟩))) (ev_I0 (ev_I ev_c (ev_var rfl) (show CPow 1 (sz : Int) from ⟨by omega, by omega, by decide⟩)) ev_c)) (congrArg V.int ?_)) ea_nil)) (Nat.le_of_ble_eq_true rfl)) fun t H3 _ e3 h3 => ?_
  · rw [Int.toNat_natCast, Int.toNat_natCast, Int.one_mul, Int.one_mul, show ((2 : Int) ^ (sz - 1)) = ((2 ^ (sz - 1) : Nat) : Int) by rw [Int.natCast_pow]; rfl, show Builtin.bitOr (x : Int) 1 = ((x ||| 1 : Nat) : Int) from _root_.Bits.bitOr_pp (Int.natCast_nonneg _) (by decide), show Builtin.bitOr ((x ||| 1 : Nat) : Int) ((2 ^ (sz - 1) : Nat) : Int) = ((x ||| 1 ||| 2 ^ (sz - 1) : Nat) : Int) from _root_.Bits.bitOr_pp (Int.natCast_nonneg _) (Int.natCast_nonneg _), _root_.Bits.bitAnd_mask _ (Int.natCast_nonneg _)]
    rw [Int.natCast_emod, Int.natCast_pow]
    rfl
  · refine k t sz _ H3 ((e1.trans e2).trans e3) (st_of h3) hs1 hs2 ?_
    rw [Nat.testBit_mod_two_pow, decide_eq_true (by omega), Bool.true_and, Nat.testBit_or, Nat.testBit_or]
    rw [show Nat.testBit 1 0 = true from rfl, Bool.or_true, Bool.true_or]
def WW (i : Nat) : Nat := [8, 16, 32].getD i 0
theorem WW_is {i : Nat} (h : i < 3) : WW i = 8 ∨ WW i = 16 ∨ WW i = 32 := by
  match i, h with
  | 0, _ => exact .inl rfl
  | 1, _ => exact .inr (.inl rfl)
  | 2, _ => exact .inr (.inr rfl)
theorem pw_last {w : Nat} (h : w = 8 ∨ w = 16 ∨ w = 32) : reg w (PW w) (w - 1) = true := by
  rcases h with rfl | rfl | rfl <;> decide +kernel
def sp_law (K : PySem.W.Frag) : Sp := fun vs H Q _ => ∃ (a : Addr) (ns : List Int), vs = [.ref a] ∧ SqL K H a (ns.map V.int) ∧ ns.length ≤ 63 ∧ ∀ H', Q (.bl true) H'
def xorN (ds es : List Nat) : List Nat := (List.range ds.length).map fun i => ds.getD i 0 ^^^ es.getD i 0
theorem getD_lt {ds : List Nat} (h : ∀ d ∈ ds, d < 256) (i : Nat) : ds.getD i 0 < 256 := by
  rw [List.getD_eq_getElem?_getD]
  cases e : ds[i]? with
  | none => decide
  | some d => exact h d (List.mem_of_getElem? e)
theorem gl_nat {ds : List Nat} {i : Nat} (h : i < ds.length) : ds[i]? = some (ds.getD i 0) := by
  rw [List.getD_eq_getElem?_getD, List.getElem?_eq_getElem h]
  rfl
theorem ok_law (T : TX K mg) : FnOk P w K mg base CX0 4 T.a_law T.d_law ["script"] (sp_law K) := by
  refine T.F_law.ok sc_law (fun vs H Q E h => by obtain ⟨a, ns, rfl, _⟩ := h; rfl) (fun cdv A outer s H vs Q E hr h => ?_)
  obtain ⟨a, ns, rfl, hS, hlen, k⟩ := h
  refine ⟨_, (pss_cons (ps_set (i := 1) sc_law.nd rfl (Or.inl rfl) (pe_op op_add pe_int (pe_op op_mod (pe_callTy call_int1 (by rfl) T.m_int PyProof.Rows.boot_int (pa_cons (pe_call (ok_law_cell T) (hr.mono (by decide)) (by rfl) T.g_law_cell T.F_law_cell.kp T.b_law_cell .nil pass0 (pa_cons (pv 0) (pa_cons pe_int pa_nil))) pa_nil)) pe_int)))
      (pss_cons (ps_set (i := 2) sc_law.nd rfl (Or.inr rfl) (pe_call (ok_law_draw T) (hr.mono (by decide)) (by rfl) T.g_law_draw T.F_law_draw.kp T.b_law_draw .nil pass0 (pa_cons (pe_call (ok_law_cell T) (hr.mono (by decide)) (by rfl) T.g_law_cell T.F_law_cell.kp T.b_law_cell .nil pass0 (pa_cons (pv 0) (pa_cons pe_int pa_nil))) (pa_cons (pv 1) (pa_cons pe_int pa_nil)))))
      (pss_cons (ps_set (i := 3) sc_law.nd rfl (Or.inr rfl) (pe_call (ok_law_draw T) (hr.mono (by decide)) (by rfl) T.g_law_draw T.F_law_draw.kp T.b_law_draw .nil pass0 (pa_cons (pe_call (ok_law_cell T) (hr.mono (by decide)) (by rfl) T.g_law_cell T.F_law_cell.kp T.b_law_cell .nil pass0 (pa_cons (pv 0) (pa_cons pe_int pa_nil))) (pa_cons (pv 1) (pa_cons pe_int pa_nil)))))
      (pss_cons (ps_setLc (i := 5) (own := [("k", 4)]) (g := gName 4) (tt := tYes) rfl sc_law.nd rfl rfl (sw_true rfl rfl rfl (by decide +kernel)) (pi_range1 (by rfl) T.m_range (pa_cons (pv 1) pa_nil)) (blkOk_by (N := ["script", "many", "data", "other", "k", "both", "width", "size", "pattern", "at", "told", "own", "j"]) (sc := defScope s_law) (by decide +kernel)) (fun _ _ _ _ _ => pg_name (i := 4) sc_law.nd rfl (Or.inl rfl)) (fun _ _ _ _ _ => pts_nil) (fun _ _ _ _ _ => (pe_op op_xor (pe_ix (r := rIxL K) ix_list (pv 2) (pv 4) (fun _ _ => rfl)) (pe_ix (r := rIxL K) ix_list (pv 3) (pv 4) (fun _ _ => rfl)))))
      (pss_cons (ps_for PassesOwn.never rfl (pi_range1 (by rfl) T.m_range (pa_cons pe_int pa_nil)) (pg_name (i := 4) sc_law.nd rfl (Or.inl rfl)) (pss_cons (ps_set (i := 6) sc_law.nd rfl (Or.inr rfl) (pe_ix (r := rIxL K) ix_list (pe_lst (pa_cons pe_int (pa_cons pe_int (pa_cons pe_int pa_nil)))) (pv 4) (fun _ _ => rfl)))
        (pss_cons (ps_asg (pe_call (ok_law_pattern T) (hr.mono (by decide)) (by rfl) T.g_law_pattern T.F_law_pattern.kp T.b_law_pattern .nil pass0 (pa_cons (pe_call (ok_law_cell T) (hr.mono (by decide)) (by rfl) T.g_law_cell T.F_law_cell.kp T.b_law_cell .nil pass0 (pa_cons (pv 0) (pa_cons (pe_op op_add pe_int (pv 4)) pa_nil))) (pa_cons (pv 6) pa_nil))) (pg_tup rfl (pgs_cons (pg_name (i := 7) sc_law.nd rfl (Or.inl rfl)) (pgs_cons (pg_name (i := 8) sc_law.nd rfl (Or.inl rfl)) pgs_nil))))
        (pss_cons (ps_set (i := 9) sc_law.nd rfl (Or.inl rfl) (pe_op op_mod (pe_callTy call_int1 (by rfl) T.m_int PyProof.Rows.boot_int (pa_cons (pe_call (ok_law_cell T) (hr.mono (by decide)) (by rfl) T.g_law_cell T.F_law_cell.kp T.b_law_cell .nil pass0 (pa_cons (pv 0) (pa_cons (pe_op op_add pe_int (pv 4)) pa_nil))) pa_nil)) (pe_op op_mul pe_int (pv 1))))
        (pss_cons (ps_set (i := 10) sc_law.nd rfl (Or.inr rfl) (pe_call (ok_law_told T) (hr.mono (by decide)) (by rfl) T.g_law_told T.F_law_told.kp T.b_law_told .nil pass0 (pa_cons (pe_callTy (r := rListS K) call_list_of (by rfl) T.m_list PyProof.Rows.boot_list (pa_cons (pv 2) pa_nil)) (pa_cons (pv 6) pa_nil))))
        (pss_cons (ps_if (PW.pt (pw_or (pt_not (pt_val (pe_callB (r := rIsi K) call_isi (by rfl) T.m_isinstance PyProof.Rows.boot_isinstance (pa_cons (pv 10) (pa_cons (pe_bltn (v := V.ty "int") (by rfl) T.m_int PyProof.Rows.boot_int rfl) pa_nil))))) (pw_or (pt_val (pe_callB (r := rIsi K) call_isi (by rfl) T.m_isinstance PyProof.Rows.boot_isinstance (pa_cons (pv 10) (pa_cons (pe_bltn (v := V.ty "bool") (by rfl) T.m_bool PyProof.Rows.boot_bool rfl) pa_nil)))) (pw_or (pt_cmpR op_lt (pv 10) pe_int (nomark _)) (pw_or1 (pt_cmpR op_ge (pv 10) (pe_op op_shl pe_int (pv 6)) (nomark _))))))) (pss_one (ps_ret pe_bl)) pss_nil)
        (pss_cons (ps_if (pt_cmpR op_eq (pe_call (ok_law_told T) (hr.mono (by decide)) (by rfl) T.g_law_told T.F_law_told.kp T.b_law_told .nil pass0 (pa_cons (pe_call (ok_law_changed T) (hr.mono (by decide)) (by rfl) T.g_law_changed T.F_law_changed.kp T.b_law_changed .nil pass0 (pa_cons (pv 2) (pa_cons (pv 9) (pa_cons (pv 8) (pa_cons (pv 7) pa_nil))))) (pa_cons (pv 6) pa_nil))) (pv 10) (nomark _)) (pss_one (ps_ret pe_bl)) pss_nil)
        (pss_cons (ps_setLc (i := 11) (own := [("j", 12)]) (g := gName 12) (tt := tYes) rfl sc_law.nd rfl rfl (sw_true rfl rfl rfl (by decide +kernel)) (pi_range1 (by rfl) T.m_range (pa_cons (pe_op op_fdiv (pv 6) pe_int) pa_nil)) (blkOk_by (N := ["script", "many", "data", "other", "k", "both", "width", "size", "pattern", "at", "told", "own", "j"]) (sc := defScope s_law) (by decide +kernel)) (fun _ _ _ _ _ => pg_name (i := 12) sc_law.nd rfl (Or.inl rfl)) (fun _ _ _ _ _ => pts_nil) (fun _ _ _ _ _ => (pe_op op_and (pe_op op_shr (pv 10) (pe_op op_sub (pe_op op_sub (pv 6) pe_int) (pe_op op_mul pe_int (pv 12)))) pe_int)))
        (pss_cons (ps_if (pt_cmpR op_ne (pe_call (ok_law_told T) (hr.mono (by decide)) (by rfl) T.g_law_told T.F_law_told.kp T.b_law_told .nil pass0 (pa_cons (pe_op op_cat (pv 2) (pv 11)) (pa_cons (pv 6) pa_nil))) pe_int (nomark _)) (pss_one (ps_ret pe_bl)) pss_nil)
        (pss_one (ps_if (pt_cmpR op_ne (pe_call (ok_law_told T) (hr.mono (by decide)) (by rfl) T.g_law_told T.F_law_told.kp T.b_law_told .nil pass0 (pa_cons (pv 5) (pa_cons (pv 6) pa_nil))) (pe_op op_xor (pv 10) (pe_call (ok_law_told T) (hr.mono (by decide)) (by rfl) T.g_law_told T.F_law_told.kp T.b_law_told .nil pass0 (pa_cons (pe_callTy (r := rListS K) call_list_of (by rfl) T.m_list PyProof.Rows.boot_list (pa_cons (pv 3) pa_nil)) (pa_cons (pv 6) pa_nil)))) (nomark _)) (pss_one (ps_ret pe_bl)) pss_nil)))))))))))
      (pss_one (ps_ret pe_bl))))))), ?_⟩
  refine q_asg (v := .int ((1 + (cellI ns 0 % 60).toNat : Nat) : Int)) (Ev.is (ev_I0 ev_c (ev_I (by walk_at "ev") ev_c (by decide))) (congrArg V.int (by omega))) fun H1 e1 => ?_
  have hm1 : 1 ≤ 1 + (cellI ns 0 % 60).toNat := by omega
  have hm2 : 1 + (cellI ns 0 % 60).toNat ≤ 60 := by omega
  generalize 1 + (cellI ns 0 % 60).toNat = many at *
  refine q_asgC (vs := [.int (cellI ns 1), .int (many : Int), .int 256]) (by walk_at "ea") fun H2 e2 => ⟨_, _, _, rfl, by omega, by omega, by decide, by decide, fun p ds' H3 hp e3 hl hdl hds => ?_⟩
  obtain ⟨ds, rfl, hdn, hdb⟩ := cs_of hds
  refine q_asgC (vs := [.int (cellI ns 2), .int (many : Int), .int 256]) (by walk_at "ea") fun H4 e4 => ⟨_, _, _, rfl, by omega, by omega, by decide, by decide, fun p2 es' H5 hp2 e5 hl2 hel hes => ?_⟩
  obtain ⟨es, rfl, hen, heb⟩ := cs_of hes
  have hdb : ∀ d ∈ ds, d < 256 := fun d hd => by have := hdb d hd; omega
  have heb : ∀ d ∈ es, d < 256 := fun d hd => by have := heb d hd; omega
  have hdm : ds.length = many := by omega
  have hem : es.length = many := by omega
  have ex5 := ((e1.trans e2).trans e3).trans (e4.trans e5)
  have hl5 := e5 _ _ (e4 _ _ hl)
  refine q_asgL (xs := (cs (xorN ds es)).map V.int) (el_lcR (n := (many : Int)) _ (ea_cons (ev_var rfl) ea_nil) (by omega) (by rw [List.length_map, cs_len]; unfold xorN; rw [List.length_map, List.length_range]; omega) (by rw [List.length_map, cs_len]; unfold xorN; rw [List.length_map, List.length_range]; omega) (fun _ => rfl) ?_) fun p3 H6 hp3 e6 hl3 => ?_
  · intro i H6 e6 hi
    rw [List.length_map, cs_len] at hi
    unfold xorN at hi
    rw [List.length_map, List.length_range] at hi
    refine ⟨_, at_int (cs_at (d := ds.getD i 0 ^^^ es.getD i 0) ?_), ?_⟩
    · unfold xorN
      rw [List.getElem?_map, List.getElem?_range hi]
      rfl
    · refine Ev.is (ev_I0 (ev_at (Ev.s (ev_var rfl) (sq_of (e6 _ _ hl5))) (ev_var rfl) (at_of rfl (at_int (cs_at (gl_nat hi))))) (ev_at (Ev.s (ev_var rfl) (sq_of (e6 _ _ hl2))) (ev_var rfl) (at_of rfl (at_int (cs_at (gl_nat (ds := es) (by omega))))))) (congrArg V.int ?_)
      exact _root_.Bits.bitXor_pp (Int.natCast_nonneg _) (Int.natCast_nonneg _)
  have ex6 := ex5.trans e6
  have gl := e6 _ _ hl5
  have gl2 := e6 _ _ hl2
  refine q_forR1 (n := 3) (by walk_at "ea") (by omega) (fun i σ' H' => ∃ z4 z6 z7 z8 z9 z10 z11 z12, σ' = [some (.ref a), some (.int (many : Int)), some (.ref p), some (.ref p2), z4, some (.ref p3), z6, z7, z8, z9, z10, z11, z12] ∧ Ex H6 H') (fun H7 e7 => ⟨none, none, none, none, none, none, none, none, rfl, e7⟩) ?_ ?_
  · rintro i σ' H7 hi ⟨z4, z6, z7, z8, z9, z10, z11, z12, rfl, ex⟩
    have hi : i < 3 := by omega
    have hw := WW_is hi
    refine q_asg (v := .int ((WW i : Nat) : Int)) (ev_at (xs := (cs [8, 16, 32]).map V.int) (EvR.s (EvL.r (el_lst (by walk_at "ea") (by decide)))) (ev_var rfl) (at_of rfl (at_int (cs_at ?_)))) fun H8 e8 => ?_
    · match i, hi with
      | 0, _ => rfl
      | 1, _ => rfl
      | 2, _ => rfl
    generalize WW i = wd at *
    have hw32 : 8 ≤ wd ∧ wd ≤ 32 ∧ wd % 8 = 0 := by omega
    have ex8 := ex6.trans (ex.trans e8)
    refine q_asgT (fun x y H2 => ∃ s p : Nat, x = .int (s : Int) ∧ y = .int (p : Int) ∧ Ex H8 H2 ∧ 1 ≤ s ∧ s ≤ wd ∧ p.testBit 0 = true) (fun Q q => ?_) ?_
    · refine (ea_cons (ev_cell (ev_var rfl) (ex_l ex8 hS) (ev_I0 ev_c (ev_var rfl)) (by omega)) (ea_cons (ev_var rfl) ea_nil) : EvA _ _ H8 _) H8 (Ex.refl _) _ fun H9 e9 => ⟨_, wd, rfl, by omega, by omega, fun t s p H10 e10 hT h1 h2 h3 => ?_⟩
      exact q t _ _ H10 ⟨s, p, rfl, rfl, e9.trans e10, h1, h2, h3⟩ hT
    rintro _ _ H9 ⟨sz, pt, rfl, rfl, e9, hs1, hs2, hpt⟩
    have ex9 := ex8.trans e9
    have hg0 := Int.emod_nonneg (cellI ns (6 + (i : Int))) (show 8 * (many : Int) ≠ 0 by omega)
    have hg1 := Int.emod_lt_of_pos (cellI ns (6 + (i : Int))) (show 0 < 8 * (many : Int) by omega)
    refine q_asg (v := .int (((cellI ns (6 + (i : Int)) % (8 * (many : Int))).toNat : Nat) : Int)) (Ev.is (ev_I (ev_int1 (ev_cell (ev_var rfl) (ex_l ex9 hS) (ev_I0 ev_c (ev_var rfl)) (by omega))) (ev_I ev_c (ev_var rfl) (.inl (by decide))) (by show (0 : Int) < _; omega)) (congrArg V.int (by omega))) fun H10 e10 => ?_
    have hat : (cellI ns (6 + (i : Int)) % (8 * (many : Int))).toNat < 8 * many := by omega
    generalize (cellI ns (6 + (i : Int)) % (8 * (many : Int))).toNat = bt at *
    have gA : ∀ {H' : Hp}, Ex H10 H' → H' p = _ := fun e => e _ _ (e10 _ _ (e9 _ _ (e8 _ _ (ex _ _ gl))))
    have gB : ∀ {H' : Hp}, Ex H10 H' → H' p2 = _ := fun e => e _ _ (e10 _ _ (e9 _ _ (e8 _ _ (ex _ _ gl2))))
    have gC : ∀ {H' : Hp}, Ex H10 H' → H' p3 = _ := fun e => e _ _ (e10 _ _ (e9 _ _ (e8 _ _ (ex _ _ hl3))))
    have tab := tabW hw
    refine q_asg (ev_told (ds := ds) hw (EvR.s (EvL.r (el_of (Ev.s (ev_var rfl) (sq_of (gA (Ex.refl _))))))) (ev_var rfl) hdb) fun H11 e11 => ?_
    have htl := (crcN_ok tab ds 0 (Nat.two_pow_pos _) hdb).1
    have hp2w : (1 : Int) * 2 ^ ((wd : Int)).toNat = ((2 ^ wd : Nat) : Int) := by
      rw [Int.toNat_natCast, Int.one_mul, Int.natCast_pow]
      rfl
    refine q_when (b := false) (et_or (a := !true) (et_not (et_test (ev_isiI (ev_var rfl)))) fun _ => et_or (a := false) (et_test (ev_isiB (ev_var rfl))) fun _ => et_or (a := false) (b := false) (et_test (Ev.is (ev_I0 (ev_var rfl) ev_c) (congrArg V.bl (decide_eq_false (by omega))))) fun _ => et_test (Ev.is (ev_I0 (ev_var rfl) (ev_I ev_c (ev_var rfl) (show CPow 1 (wd : Int) from ⟨by omega, by omega, by decide⟩))) (congrArg V.bl (by rw [hp2w]; exact decide_eq_false (by show ¬ (_ : Int) ≤ _; omega))))) (fun hb => by cases hb) fun _ H12 e12 => ?_
    have e12' := e11.trans e12
    refine q_when (b := false) (et_test (ev_chgne hw (ev_var rfl) (sq_of (gA e12')) (ev_var rfl) (ev_var rfl) (ev_var rfl) (ev_var rfl) (ev_var rfl) hdb (by omega) (by omega) fun fs hc => ?_)) (fun hb => by cases hb) fun _ H13 e13 => ?_
    · exact crc_burst tab (pw_last hw) hdb hc.lt hc.len (a := bt) (by omega) (g := fun j => decide (j < sz) && decide (bt + j < 8 * ds.length) && pt.testBit j) (fun j hj => by dsimp only; rw [decide_eq_false (show ¬ j < sz by omega)]; rfl) (by rw [decide_eq_true (show 0 < sz by omega), decide_eq_true (show bt + 0 < 8 * ds.length by omega), hpt]; rfl) (fun j => by
        rw [inj_bits, inj_bits, hc.bit]
        congr 1
        unfold chg
        by_cases h : bt ≤ j
        · rw [show bt + (j - bt) = j by omega]
          congr 1
          congr 1
          congr 1
          by_cases h2 : j < bt + sz
          · rw [decide_eq_true h2, decide_eq_true (by omega)]
          · rw [decide_eq_false h2, decide_eq_false (by omega)]
        · rw [decide_eq_false h, Bool.false_and, Bool.false_and])
    have e13' := e12'.trans e13
    have hol : (ownN wd (crcN wd (TW wd) 0 ds)).length = wd / 8 := by unfold ownN; rw [List.length_map, List.length_range]
    refine q_asgL (xs := (cs (ownN wd (crcN wd (TW wd) 0 ds))).map V.int) (el_lcR (n := ((wd / 8 : Nat) : Int)) _ (ea_cons (Ev.is (ev_I (ev_var rfl) ev_c ⟨by decide, by decide⟩) (congrArg V.int (by omega))) ea_nil) (by omega) (by rw [List.length_map, cs_len, hol]; omega) (by rw [List.length_map, cs_len, hol]; omega) (fun _ => rfl) ?_) fun p5 H14 hp5 e14 hl14 => ?_
    · intro j H14 e14 hj
      rw [List.length_map, cs_len, hol] at hj
      generalize crcN wd (TW wd) 0 ds = r at *
      refine ⟨_, at_int (cs_at (d := r / 2 ^ (wd - 8 - 8 * j) % 256) ?_), ?_⟩
      · unfold ownN
        rw [List.getElem?_map, List.getElem?_range hj]
        rfl
      · refine Ev.is (ev_I0 (ev_I (j := ((wd - 8 - 8 * j : Nat) : Int)) (ev_var rfl) (Ev.is (ev_I0 (ev_I0 (ev_var rfl) ev_c) (ev_I ev_c (ev_var rfl) (.inl (by decide)))) (congrArg V.int (by omega))) (by show (0 : Int) ≤ _; omega)) ev_c) (congrArg V.int ?_)
        rw [Int.toNat_natCast]
        have h1 : (r : Int) / 2 ^ (wd - 8 - 8 * j) = ((r / 2 ^ (wd - 8 - 8 * j) : Nat) : Int) := by
          rw [Int.natCast_ediv, Int.natCast_pow]
          rfl
        rw [h1]
        have h2 := _root_.Bits.bitAnd_mask (x := ((r / 2 ^ (wd - 8 - 8 * j) : Nat) : Int)) 8 (Int.natCast_nonneg _)
        rw [show ((2 : Int) ^ 8 - 1) = 255 from rfl] at h2
        rw [h2]
        rfl
    have e14' := e13'.trans e14
    refine q_when (b := false) (et_test (Ev.is (ev_ne (ev_told (ds := ds ++ ownN wd (crcN wd (TW wd) 0 ds)) hw (EvR.s (EvL.r (EvL.is (el_cat (Ev.r (ev_var rfl) (gA e14')) (Ev.r (ev_var rfl) hl14) (by rw [List.length_map, List.length_map, cs_len, cs_len, hol]; omega)) (by rw [cs_append, List.map_append])))) (ev_var rfl) (fun d hd => ?_)) ev_c rfl) ?_)) (fun hb => by cases hb) fun _ H15 e15 => ?_
    · rcases List.mem_append.mp hd with h | h
      · exact hdb d h
      · exact own_lt _ _ d h
    · rw [crc_own tab hw32.2.2 hdb]
      rfl
    have e15' := e14'.trans e15
    have hxl : (xorN ds es).length = ds.length := by unfold xorN; rw [List.length_map, List.length_range]
    have hxb : ∀ d ∈ xorN ds es, d < 256 := fun d hd => by
      obtain ⟨j, _, rfl⟩ := List.mem_map.mp hd
      exact Nat.xor_lt_two_pow (n := 8) (getD_lt hdb j) (getD_lt heb j)
    refine s_when (b := false) (et_test (Ev.is (ev_ne (ev_told (ds := xorN ds es) hw (Ev.s (ev_var rfl) (sq_of (gC e15'))) (ev_var rfl) hxb) (ev_I0 (ev_var rfl) (ev_told (ds := es) hw (EvR.s (EvL.r (el_of (Ev.s (ev_var rfl) (sq_of (gB e15')))))) (ev_var rfl) heb)) rfl) ?_)) (fun hb => by cases hb) fun _ H16 e16 => ?_
    · rw [crc_xor tab hdb heb hxb (by omega) hxl (fun i => ?_), show Builtin.bitXor ((crcN wd (TW wd) 0 ds : Nat) : Int) ((crcN wd (TW wd) 0 es : Nat) : Int) = ((crcN wd (TW wd) 0 ds ^^^ crcN wd (TW wd) 0 es : Nat) : Int) from _root_.Bits.bitXor_pp (Int.natCast_nonneg _) (Int.natCast_nonneg _), decide_eq_true rfl]
      · rfl
      · unfold xorN
        by_cases h : i < ds.length
        · rw [List.getD_eq_getElem?_getD (l := List.map _ _), List.getElem?_map, List.getElem?_range h]
          rfl
        · rw [List.getD_eq_getElem?_getD, List.getElem?_eq_none (by rw [List.length_map, List.length_range]; omega), List.getD_eq_getElem?_getD, List.getElem?_eq_none (by omega), List.getD_eq_getElem?_getD, List.getElem?_eq_none (by omega)]
          rfl
    exact ⟨_, _, _, _, _, _, _, _, rfl, ex.trans (e8.trans (e9.trans (e10.trans (e15'.trans e16))))⟩
  · rintro σ' H7 ⟨z4, z6, z7, z8, z9, z10, z11, z12, rfl, ex⟩
    walk_at "ret"
    intro H8 e8
    exact k _

end
theorem all_mk {l : PySem.W.OpenLaw} {w : World} {K : PySem.W.Frag} {h : Heap} {mg : Str → Option Value} {fa : Addr} {f1 f2 f3 f4 f5 f6 f7 f8 f9 f10 A_STEPS_8 A_STEPS_16 A_STEPS_32 : Addr} (X : K.In h) (G : h.Ns mainGlobals mg) (hfa : mg "law" = some (.ref fa))
    {od1 an1 : Option Addr} {sl1 : Array (Option Value)} {oc1 dc1 pm1 cd1 ct1 : Value} {kV1 : Value} {DT1 : Addr} {du1_0 tc1 : Value} {td1 : Option Addr} {tn1 : Nat} {tsl1 : Array (Option Value)} {od2 an2 : Option Addr} {sl2 : Array (Option Value)} {oc2 dc2 pm2 cd2 ct2 : Value} {kV2 : Value} {DT2 : Addr} {du2_0 tc2 : Value} {td2 : Option Addr} {tn2 : Nat} {tsl2 : Array (Option Value)} {od3 an3 : Option Addr} {sl3 : Array (Option Value)} {oc3 dc3 pm3 cd3 ct3 : Value} {kV3 : Value} {DT3 : Addr} {du3_0 tc3 : Value} {td3 : Option Addr} {tn3 : Nat} {tsl3 : Array (Option Value)} {od4 an4 : Option Addr} {sl4 : Array (Option Value)} {oc4 dc4 pm4 cd4 ct4 : Value} {kV4 : Value} {od5 an5 : Option Addr} {sl5 : Array (Option Value)} {oc5 dc5 pm5 cd5 ct5 : Value} {kV5 : Value} {od6 an6 : Option Addr} {sl6 : Array (Option Value)} {oc6 dc6 pm6 cd6 ct6 : Value} {kV6 : Value} {od7 an7 : Option Addr} {sl7 : Array (Option Value)} {oc7 dc7 pm7 cd7 ct7 : Value} {kV7 : Value} {od8 an8 : Option Addr} {sl8 : Array (Option Value)} {oc8 dc8 pm8 cd8 ct8 : Value} {kV8 : Value} {od9 an9 : Option Addr} {sl9 : Array (Option Value)} {oc9 dc9 pm9 cd9 ct9 : Value} {kV9 : Value} {od10 an10 : Option Addr} {sl10 : Array (Option Value)} {oc10 dc10 pm10 cd10 ct10 : Value} {kV10 : Value} {wSTEPS_8_0 wSTEPS_8_1 wSTEPS_8_2 wSTEPS_8_3 wSTEPS_8_4 wSTEPS_8_5 wSTEPS_8_6 wSTEPS_8_7 wSTEPS_8_8 wSTEPS_8_9 wSTEPS_8_10 wSTEPS_8_11 wSTEPS_8_12 wSTEPS_8_13 wSTEPS_8_14 wSTEPS_8_15 : Value} {dxSTEPS_8 : Option Addr} {nxSTEPS_8 : Nat} {sxSTEPS_8 : Array (Option Value)} {wSTEPS_16_0 wSTEPS_16_1 wSTEPS_16_2 wSTEPS_16_3 wSTEPS_16_4 wSTEPS_16_5 wSTEPS_16_6 wSTEPS_16_7 wSTEPS_16_8 wSTEPS_16_9 wSTEPS_16_10 wSTEPS_16_11 wSTEPS_16_12 wSTEPS_16_13 wSTEPS_16_14 wSTEPS_16_15 : Value} {dxSTEPS_16 : Option Addr} {nxSTEPS_16 : Nat} {sxSTEPS_16 : Array (Option Value)} {wSTEPS_32_0 wSTEPS_32_1 wSTEPS_32_2 wSTEPS_32_3 wSTEPS_32_4 wSTEPS_32_5 wSTEPS_32_6 wSTEPS_32_7 wSTEPS_32_8 wSTEPS_32_9 wSTEPS_32_10 wSTEPS_32_11 wSTEPS_32_12 wSTEPS_32_13 wSTEPS_32_14 wSTEPS_32_15 : Value} {dxSTEPS_32 : Option Addr} {nxSTEPS_32 : Nat} {sxSTEPS_32 : Array (Option Value)}
    (a1 : PySem.W.nsIn K mainGlobals "crc8" = some (some (.ref f1)))
    (l1 : K.lookup f1 = some ⟨oc1, od1, .func (PySem.W.fnOf "crc8" "crc8" (defArgs s_crc8) (defBody s_crc8) (defScope s_crc8) (.ref DT1) kV1 dc1 pm1 an1 cd1 ct1), sl1⟩) (c1 : PySem.W.codeIn K cd1 "crc8" = true) (k1 : PySem.W.keepIn K (.ref f1) = true)
    (t1 : K.lookup DT1 = some ⟨tc1, td1, .seq (List.toArray [du1_0]) tn1, tsl1⟩)
    (rd1_0 : RelV (V.int 0) du1_0)
    (a2 : PySem.W.nsIn K mainGlobals "crc16" = some (some (.ref f2)))
    (l2 : K.lookup f2 = some ⟨oc2, od2, .func (PySem.W.fnOf "crc16" "crc16" (defArgs s_crc16) (defBody s_crc16) (defScope s_crc16) (.ref DT2) kV2 dc2 pm2 an2 cd2 ct2), sl2⟩) (c2 : PySem.W.codeIn K cd2 "crc16" = true) (k2 : PySem.W.keepIn K (.ref f2) = true)
    (t2 : K.lookup DT2 = some ⟨tc2, td2, .seq (List.toArray [du2_0]) tn2, tsl2⟩)
    (rd2_0 : RelV (V.int 0) du2_0)
    (a3 : PySem.W.nsIn K mainGlobals "crc32" = some (some (.ref f3)))
    (l3 : K.lookup f3 = some ⟨oc3, od3, .func (PySem.W.fnOf "crc32" "crc32" (defArgs s_crc32) (defBody s_crc32) (defScope s_crc32) (.ref DT3) kV3 dc3 pm3 an3 cd3 ct3), sl3⟩) (c3 : PySem.W.codeIn K cd3 "crc32" = true) (k3 : PySem.W.keepIn K (.ref f3) = true)
    (t3 : K.lookup DT3 = some ⟨tc3, td3, .seq (List.toArray [du3_0]) tn3, tsl3⟩)
    (rd3_0 : RelV (V.int 0) du3_0)
    (a4 : PySem.W.nsIn K mainGlobals "_divided" = some (some (.ref f4)))
    (l4 : K.lookup f4 = some ⟨oc4, od4, .func (PySem.W.fnOf "_divided" "_divided" (defArgs s_divided) (defBody s_divided) (defScope s_divided) .none kV4 dc4 pm4 an4 cd4 ct4), sl4⟩) (c4 : PySem.W.codeIn K cd4 "_divided" = true) (k4 : PySem.W.keepIn K (.ref f4) = true)
    (a5 : PySem.W.nsIn K mainGlobals "_law_draw" = some (some (.ref f5)))
    (l5 : K.lookup f5 = some ⟨oc5, od5, .func (PySem.W.fnOf "_law_draw" "_law_draw" (defArgs s_law_draw) (defBody s_law_draw) (defScope s_law_draw) .none kV5 dc5 pm5 an5 cd5 ct5), sl5⟩) (c5 : PySem.W.codeIn K cd5 "_law_draw" = true) (k5 : PySem.W.keepIn K (.ref f5) = true)
    (a6 : PySem.W.nsIn K mainGlobals "_law_cell" = some (some (.ref f6)))
    (l6 : K.lookup f6 = some ⟨oc6, od6, .func (PySem.W.fnOf "_law_cell" "_law_cell" (defArgs s_law_cell) (defBody s_law_cell) (defScope s_law_cell) .none kV6 dc6 pm6 an6 cd6 ct6), sl6⟩) (c6 : PySem.W.codeIn K cd6 "_law_cell" = true) (k6 : PySem.W.keepIn K (.ref f6) = true)
    (a7 : PySem.W.nsIn K mainGlobals "_law_told" = some (some (.ref f7)))
    (l7 : K.lookup f7 = some ⟨oc7, od7, .func (PySem.W.fnOf "_law_told" "_law_told" (defArgs s_law_told) (defBody s_law_told) (defScope s_law_told) .none kV7 dc7 pm7 an7 cd7 ct7), sl7⟩) (c7 : PySem.W.codeIn K cd7 "_law_told" = true) (k7 : PySem.W.keepIn K (.ref f7) = true)
    (a8 : PySem.W.nsIn K mainGlobals "_law_changed" = some (some (.ref f8)))
    (l8 : K.lookup f8 = some ⟨oc8, od8, .func (PySem.W.fnOf "_law_changed" "_law_changed" (defArgs s_law_changed) (defBody s_law_changed) (defScope s_law_changed) .none kV8 dc8 pm8 an8 cd8 ct8), sl8⟩) (c8 : PySem.W.codeIn K cd8 "_law_changed" = true) (k8 : PySem.W.keepIn K (.ref f8) = true)
    (a9 : PySem.W.nsIn K mainGlobals "_law_pattern" = some (some (.ref f9)))
    (l9 : K.lookup f9 = some ⟨oc9, od9, .func (PySem.W.fnOf "_law_pattern" "_law_pattern" (defArgs s_law_pattern) (defBody s_law_pattern) (defScope s_law_pattern) .none kV9 dc9 pm9 an9 cd9 ct9), sl9⟩) (c9 : PySem.W.codeIn K cd9 "_law_pattern" = true) (k9 : PySem.W.keepIn K (.ref f9) = true)
    (a10 : PySem.W.nsIn K mainGlobals "law" = some (some (.ref f10)))
    (l10 : K.lookup f10 = some ⟨oc10, od10, .func (PySem.W.fnOf "law" "law" (defArgs s_law) (defBody s_law) (defScope s_law) .none kV10 dc10 pm10 an10 cd10 ct10), sl10⟩) (c10 : PySem.W.codeIn K cd10 "law" = true) (k10 : PySem.W.keepIn K (.ref f10) = true)
    (z_range : PySem.W.nsIn K mainGlobals "range" = some none)
    (z_int : PySem.W.nsIn K mainGlobals "int" = some none)
    (z_len : PySem.W.nsIn K mainGlobals "len" = some none)
    (z_list : PySem.W.nsIn K mainGlobals "list" = some none)
    (z_isinstance : PySem.W.nsIn K mainGlobals "isinstance" = some none)
    (z_bool : PySem.W.nsIn K mainGlobals "bool" = some none)
    (q_STEPS_8 : PySem.W.nsIn K mainGlobals "_STEPS_8" = some (some (.ref A_STEPS_8))) (l_STEPS_8 : K.lookup A_STEPS_8 = some ⟨.type "tuple", dxSTEPS_8, .seq (List.toArray [wSTEPS_8_0, wSTEPS_8_1, wSTEPS_8_2, wSTEPS_8_3, wSTEPS_8_4, wSTEPS_8_5, wSTEPS_8_6, wSTEPS_8_7, wSTEPS_8_8, wSTEPS_8_9, wSTEPS_8_10, wSTEPS_8_11, wSTEPS_8_12, wSTEPS_8_13, wSTEPS_8_14, wSTEPS_8_15]) nxSTEPS_8, sxSTEPS_8⟩)
    (r_STEPS_8_0 : RelV (.int 0) wSTEPS_8_0)
    (r_STEPS_8_1 : RelV (.int 7) wSTEPS_8_1)
    (r_STEPS_8_2 : RelV (.int 14) wSTEPS_8_2)
    (r_STEPS_8_3 : RelV (.int 9) wSTEPS_8_3)
    (r_STEPS_8_4 : RelV (.int 28) wSTEPS_8_4)
    (r_STEPS_8_5 : RelV (.int 27) wSTEPS_8_5)
    (r_STEPS_8_6 : RelV (.int 18) wSTEPS_8_6)
    (r_STEPS_8_7 : RelV (.int 21) wSTEPS_8_7)
    (r_STEPS_8_8 : RelV (.int 56) wSTEPS_8_8)
    (r_STEPS_8_9 : RelV (.int 63) wSTEPS_8_9)
    (r_STEPS_8_10 : RelV (.int 54) wSTEPS_8_10)
    (r_STEPS_8_11 : RelV (.int 49) wSTEPS_8_11)
    (r_STEPS_8_12 : RelV (.int 36) wSTEPS_8_12)
    (r_STEPS_8_13 : RelV (.int 35) wSTEPS_8_13)
    (r_STEPS_8_14 : RelV (.int 42) wSTEPS_8_14)
    (r_STEPS_8_15 : RelV (.int 45) wSTEPS_8_15)
    (q_STEPS_16 : PySem.W.nsIn K mainGlobals "_STEPS_16" = some (some (.ref A_STEPS_16))) (l_STEPS_16 : K.lookup A_STEPS_16 = some ⟨.type "tuple", dxSTEPS_16, .seq (List.toArray [wSTEPS_16_0, wSTEPS_16_1, wSTEPS_16_2, wSTEPS_16_3, wSTEPS_16_4, wSTEPS_16_5, wSTEPS_16_6, wSTEPS_16_7, wSTEPS_16_8, wSTEPS_16_9, wSTEPS_16_10, wSTEPS_16_11, wSTEPS_16_12, wSTEPS_16_13, wSTEPS_16_14, wSTEPS_16_15]) nxSTEPS_16, sxSTEPS_16⟩)
    (r_STEPS_16_0 : RelV (.int 0) wSTEPS_16_0)
    (r_STEPS_16_1 : RelV (.int 32773) wSTEPS_16_1)
    (r_STEPS_16_2 : RelV (.int 32783) wSTEPS_16_2)
    (r_STEPS_16_3 : RelV (.int 10) wSTEPS_16_3)
    (r_STEPS_16_4 : RelV (.int 32795) wSTEPS_16_4)
    (r_STEPS_16_5 : RelV (.int 30) wSTEPS_16_5)
    (r_STEPS_16_6 : RelV (.int 20) wSTEPS_16_6)
    (r_STEPS_16_7 : RelV (.int 32785) wSTEPS_16_7)
    (r_STEPS_16_8 : RelV (.int 32819) wSTEPS_16_8)
    (r_STEPS_16_9 : RelV (.int 54) wSTEPS_16_9)
    (r_STEPS_16_10 : RelV (.int 60) wSTEPS_16_10)
    (r_STEPS_16_11 : RelV (.int 32825) wSTEPS_16_11)
    (r_STEPS_16_12 : RelV (.int 40) wSTEPS_16_12)
    (r_STEPS_16_13 : RelV (.int 32813) wSTEPS_16_13)
    (r_STEPS_16_14 : RelV (.int 32807) wSTEPS_16_14)
    (r_STEPS_16_15 : RelV (.int 34) wSTEPS_16_15)
    (q_STEPS_32 : PySem.W.nsIn K mainGlobals "_STEPS_32" = some (some (.ref A_STEPS_32))) (l_STEPS_32 : K.lookup A_STEPS_32 = some ⟨.type "tuple", dxSTEPS_32, .seq (List.toArray [wSTEPS_32_0, wSTEPS_32_1, wSTEPS_32_2, wSTEPS_32_3, wSTEPS_32_4, wSTEPS_32_5, wSTEPS_32_6, wSTEPS_32_7, wSTEPS_32_8, wSTEPS_32_9, wSTEPS_32_10, wSTEPS_32_11, wSTEPS_32_12, wSTEPS_32_13, wSTEPS_32_14, wSTEPS_32_15]) nxSTEPS_32, sxSTEPS_32⟩)
    (r_STEPS_32_0 : RelV (.int 0) wSTEPS_32_0)
    (r_STEPS_32_1 : RelV (.int 79764919) wSTEPS_32_1)
    (r_STEPS_32_2 : RelV (.int 159529838) wSTEPS_32_2)
    (r_STEPS_32_3 : RelV (.int 222504665) wSTEPS_32_3)
    (r_STEPS_32_4 : RelV (.int 319059676) wSTEPS_32_4)
    (r_STEPS_32_5 : RelV (.int 398814059) wSTEPS_32_5)
    (r_STEPS_32_6 : RelV (.int 445009330) wSTEPS_32_6)
    (r_STEPS_32_7 : RelV (.int 507990021) wSTEPS_32_7)
    (r_STEPS_32_8 : RelV (.int 638119352) wSTEPS_32_8)
    (r_STEPS_32_9 : RelV (.int 583659535) wSTEPS_32_9)
    (r_STEPS_32_10 : RelV (.int 797628118) wSTEPS_32_10)
    (r_STEPS_32_11 : RelV (.int 726387553) wSTEPS_32_11)
    (r_STEPS_32_12 : RelV (.int 890018660) wSTEPS_32_12)
    (r_STEPS_32_13 : RelV (.int 835552979) wSTEPS_32_13)
    (r_STEPS_32_14 : RelV (.int 1015980042) wSTEPS_32_14)
    (r_STEPS_32_15 : RelV (.int 944750013) wSTEPS_32_15)
    : ∃ fd : FuncData, (∀ (s : Shared) (v : Value), BindsTo s fd ⟨[v], []⟩ [("script", v)]) ∧ ∀ base : Heap, K.In base → base.Ns mainGlobals mg → FnOk l.prog w K mg base CX0 4 fa fd ["script"] (sp_law K) := by
  have e := hfa.symm.trans (PySem.W.mg_of X G a10)
  cases e
  have F1 : FunD K "crc8" "crc8" (defArgs s_crc8) (defBody s_crc8) (defScope s_crc8) [V.int 0] [] _ _ := ⟨⟨_, _, _, _, _, _, _, _, _, _, rfl, l1, c1, (.inr ⟨by simp, DT1, _, [du1_0], tn1, rfl, t1, rfl, (.cons rd1_0 .nil)⟩), (.inl rfl)⟩, k1⟩
  obtain ⟨e1_1, v1_1, b1_1⟩ := F1.binds1 (ps := ["data", "start"]) 1 0 (by simp) rfl fun T0 kV doc pm an cdv ct us its hu hi => match us, hu, its, hi with | [_], _, [_], _ => ⟨_, rfl, rfl⟩
  have F2 : FunD K "crc16" "crc16" (defArgs s_crc16) (defBody s_crc16) (defScope s_crc16) [V.int 0] [] _ _ := ⟨⟨_, _, _, _, _, _, _, _, _, _, rfl, l2, c2, (.inr ⟨by simp, DT2, _, [du2_0], tn2, rfl, t2, rfl, (.cons rd2_0 .nil)⟩), (.inl rfl)⟩, k2⟩
  obtain ⟨e1_2, v1_2, b1_2⟩ := F2.binds1 (ps := ["data", "start"]) 1 0 (by simp) rfl fun T0 kV doc pm an cdv ct us its hu hi => match us, hu, its, hi with | [_], _, [_], _ => ⟨_, rfl, rfl⟩
  have F3 : FunD K "crc32" "crc32" (defArgs s_crc32) (defBody s_crc32) (defScope s_crc32) [V.int 0] [] _ _ := ⟨⟨_, _, _, _, _, _, _, _, _, _, rfl, l3, c3, (.inr ⟨by simp, DT3, _, [du3_0], tn3, rfl, t3, rfl, (.cons rd3_0 .nil)⟩), (.inl rfl)⟩, k3⟩
  obtain ⟨e1_3, v1_3, b1_3⟩ := F3.binds1 (ps := ["data", "start"]) 1 0 (by simp) rfl fun T0 kV doc pm an cdv ct us its hu hi => match us, hu, its, hi with | [_], _, [_], _ => ⟨_, rfl, rfl⟩
  have F4 := fun_mk (st := s_divided) l4 c4 k4
  have b4 := F4.binds (ps := ["data", "start", "width", "steps"]) fun _ _ _ _ _ _ us hl => match us, hl with | [_, _, _, _], _ => rfl
  have F5 := fun_mk (st := s_law_draw) l5 c5 k5
  have b5 := F5.binds (ps := ["cell", "many", "bound"]) fun _ _ _ _ _ _ us hl => match us, hl with | [_, _, _], _ => rfl
  have F6 := fun_mk (st := s_law_cell) l6 c6 k6
  have b6 := F6.binds (ps := ["script", "k"]) fun _ _ _ _ _ _ us hl => match us, hl with | [_, _], _ => rfl
  have F7 := fun_mk (st := s_law_told) l7 c7 k7
  have b7 := F7.binds (ps := ["data", "width"]) fun _ _ _ _ _ _ us hl => match us, hl with | [_, _], _ => rfl
  have F8 := fun_mk (st := s_law_changed) l8 c8 k8
  have b8 := F8.binds (ps := ["data", "at", "pattern", "size"]) fun _ _ _ _ _ _ us hl => match us, hl with | [_, _, _, _], _ => rfl
  have F9 := fun_mk (st := s_law_pattern) l9 c9 k9
  have b9 := F9.binds (ps := ["cell", "width"]) fun _ _ _ _ _ _ us hl => match us, hl with | [_, _], _ => rfl
  have F10 := fun_mk (st := s_law) l10 c10 k10
  have b10 := F10.binds (ps := ["script"]) fun _ _ _ _ _ _ us hl => match us, hl with | [_], _ => rfl
  let T : TX K mg := ⟨f1, _, F1, e1_1, v1_1, b1_1, (PySem.W.mg_of X G a1), f2, _, F2, e1_2, v1_2, b1_2, (PySem.W.mg_of X G a2), f3, _, F3, e1_3, v1_3, b1_3, (PySem.W.mg_of X G a3), f4, _, F4, b4, (PySem.W.mg_of X G a4), f5, _, F5, b5, (PySem.W.mg_of X G a5), f6, _, F6, b6, (PySem.W.mg_of X G a6), f7, _, F7, b7, (PySem.W.mg_of X G a7), f8, _, F8, b8, (PySem.W.mg_of X G a8), f9, _, F9, b9, (PySem.W.mg_of X G a9), fa, _, F10, b10, (PySem.W.mg_of X G a10), (PySem.W.mg_none_of X G z_range), (PySem.W.mg_none_of X G z_int), (PySem.W.mg_none_of X G z_len), (PySem.W.mg_none_of X G z_list), (PySem.W.mg_none_of X G z_isinstance), (PySem.W.mg_none_of X G z_bool), A_STEPS_8, (PySem.W.mg_of X G q_STEPS_8), (fun H => .inr ⟨_, _, _, l_STEPS_8, rfl, rfl, Nat.le_of_ble_eq_true rfl, (.cons r_STEPS_8_0 (.cons r_STEPS_8_1 (.cons r_STEPS_8_2 (.cons r_STEPS_8_3 (.cons r_STEPS_8_4 (.cons r_STEPS_8_5 (.cons r_STEPS_8_6 (.cons r_STEPS_8_7 (.cons r_STEPS_8_8 (.cons r_STEPS_8_9 (.cons r_STEPS_8_10 (.cons r_STEPS_8_11 (.cons r_STEPS_8_12 (.cons r_STEPS_8_13 (.cons r_STEPS_8_14 (.cons r_STEPS_8_15 .nil))))))))))))))))⟩), A_STEPS_16, (PySem.W.mg_of X G q_STEPS_16), (fun H => .inr ⟨_, _, _, l_STEPS_16, rfl, rfl, Nat.le_of_ble_eq_true rfl, (.cons r_STEPS_16_0 (.cons r_STEPS_16_1 (.cons r_STEPS_16_2 (.cons r_STEPS_16_3 (.cons r_STEPS_16_4 (.cons r_STEPS_16_5 (.cons r_STEPS_16_6 (.cons r_STEPS_16_7 (.cons r_STEPS_16_8 (.cons r_STEPS_16_9 (.cons r_STEPS_16_10 (.cons r_STEPS_16_11 (.cons r_STEPS_16_12 (.cons r_STEPS_16_13 (.cons r_STEPS_16_14 (.cons r_STEPS_16_15 .nil))))))))))))))))⟩), A_STEPS_32, (PySem.W.mg_of X G q_STEPS_32), (fun H => .inr ⟨_, _, _, l_STEPS_32, rfl, rfl, Nat.le_of_ble_eq_true rfl, (.cons r_STEPS_32_0 (.cons r_STEPS_32_1 (.cons r_STEPS_32_2 (.cons r_STEPS_32_3 (.cons r_STEPS_32_4 (.cons r_STEPS_32_5 (.cons r_STEPS_32_6 (.cons r_STEPS_32_7 (.cons r_STEPS_32_8 (.cons r_STEPS_32_9 (.cons r_STEPS_32_10 (.cons r_STEPS_32_11 (.cons r_STEPS_32_12 (.cons r_STEPS_32_13 (.cons r_STEPS_32_14 (.cons r_STEPS_32_15 .nil))))))))))))))))⟩)⟩
  exact ⟨_, fun s v => .of_eq rfl, fun base _ _ => ok_law T⟩
end K06
open PySem PySem.W PyProof.Rows
set_option maxRecDepth 100000 in
set_option maxHeartbeats 0 in
theorem PySem.Challenge.cw_monochord_k06_checksums_tell_bursts_holds : PySem.Challenge.rw_monochord_k06_checksums_tell_bursts.Holds := by
  w_on; o_law; k_head; (case hw => w_witness2)
  k_fill
  refine L2.walk_of (l := PySem.Challenge.rw_monochord_k06_checksums_tell_bursts) (n := 63) (k := 4) (x := "script") (CX := fun _ => L2.CX0) (sp := fun w => K06.sp_law _) rfl (by decide) rfl ⟨rfl, by decide, by decide⟩ (fun w h Y => PySem.W.kIn_of Y) ?F (fun _ _ a ns hl _ hS => ⟨a, ns, rfl, hS, hl, fun _ => rfl⟩) (fun _ _ _ _ _ h => h)
  case F =>
    intro w mg fa h KX G hmg
    refine' K06.all_mk KX G hmg ?a1 ?l1 ?c1 ?k1 ?t1 ?rd1_0 ?a2 ?l2 ?c2 ?k2 ?t2 ?rd2_0 ?a3 ?l3 ?c3 ?k3 ?t3 ?rd3_0 ?a4 ?l4 ?c4 ?k4 ?a5 ?l5 ?c5 ?k5 ?a6 ?l6 ?c6 ?k6 ?a7 ?l7 ?c7 ?k7 ?a8 ?l8 ?c8 ?k8 ?a9 ?l9 ?c9 ?k9 ?a10 ?l10 ?c10 ?k10 ?z_range ?z_int ?z_len ?z_list ?z_isinstance ?z_bool ?q_STEPS_8 ?l_STEPS_8 ?r_STEPS_8_0 ?r_STEPS_8_1 ?r_STEPS_8_2 ?r_STEPS_8_3 ?r_STEPS_8_4 ?r_STEPS_8_5 ?r_STEPS_8_6 ?r_STEPS_8_7 ?r_STEPS_8_8 ?r_STEPS_8_9 ?r_STEPS_8_10 ?r_STEPS_8_11 ?r_STEPS_8_12 ?r_STEPS_8_13 ?r_STEPS_8_14 ?r_STEPS_8_15 ?q_STEPS_16 ?l_STEPS_16 ?r_STEPS_16_0 ?r_STEPS_16_1 ?r_STEPS_16_2 ?r_STEPS_16_3 ?r_STEPS_16_4 ?r_STEPS_16_5 ?r_STEPS_16_6 ?r_STEPS_16_7 ?r_STEPS_16_8 ?r_STEPS_16_9 ?r_STEPS_16_10 ?r_STEPS_16_11 ?r_STEPS_16_12 ?r_STEPS_16_13 ?r_STEPS_16_14 ?r_STEPS_16_15 ?q_STEPS_32 ?l_STEPS_32 ?r_STEPS_32_0 ?r_STEPS_32_1 ?r_STEPS_32_2 ?r_STEPS_32_3 ?r_STEPS_32_4 ?r_STEPS_32_5 ?r_STEPS_32_6 ?r_STEPS_32_7 ?r_STEPS_32_8 ?r_STEPS_32_9 ?r_STEPS_32_10 ?r_STEPS_32_11 ?r_STEPS_32_12 ?r_STEPS_32_13 ?r_STEPS_32_14 ?r_STEPS_32_15
    (case a1 => k_is)
    (case l1 => k_is)
    (case c1 => k_is)
    (case k1 => k_is)
    (case t1 => k_is)
    (case rd1_0 => first | rfl | exact ⟨_, rfl⟩)
    (case a2 => k_is)
    (case l2 => k_is)
    (case c2 => k_is)
    (case k2 => k_is)
    (case t2 => k_is)
    (case rd2_0 => first | rfl | exact ⟨_, rfl⟩)
    (case a3 => k_is)
    (case l3 => k_is)
    (case c3 => k_is)
    (case k3 => k_is)
    (case t3 => k_is)
    (case rd3_0 => first | rfl | exact ⟨_, rfl⟩)
    (case a4 => k_is)
    (case l4 => k_is)
    (case c4 => k_is)
    (case k4 => k_is)
    (case a5 => k_is)
    (case l5 => k_is)
    (case c5 => k_is)
    (case k5 => k_is)
    (case a6 => k_is)
    (case l6 => k_is)
    (case c6 => k_is)
    (case k6 => k_is)
    (case a7 => k_is)
    (case l7 => k_is)
    (case c7 => k_is)
    (case k7 => k_is)
    (case a8 => k_is)
    (case l8 => k_is)
    (case c8 => k_is)
    (case k8 => k_is)
    (case a9 => k_is)
    (case l9 => k_is)
    (case c9 => k_is)
    (case k9 => k_is)
    (case a10 => k_is)
    (case l10 => k_is)
    (case c10 => k_is)
    (case k10 => k_is)
    (case z_range => k_is)
    (case z_int => k_is)
    (case z_len => k_is)
    (case z_list => k_is)
    (case z_isinstance => k_is)
    (case z_bool => k_is)
    (case q_STEPS_8 => k_is)
    (case l_STEPS_8 => k_is)
    (case r_STEPS_8_0 => first | rfl | exact ⟨_, rfl⟩)
    (case r_STEPS_8_1 => first | rfl | exact ⟨_, rfl⟩)
    (case r_STEPS_8_2 => first | rfl | exact ⟨_, rfl⟩)
    (case r_STEPS_8_3 => first | rfl | exact ⟨_, rfl⟩)
    (case r_STEPS_8_4 => first | rfl | exact ⟨_, rfl⟩)
    (case r_STEPS_8_5 => first | rfl | exact ⟨_, rfl⟩)
    (case r_STEPS_8_6 => first | rfl | exact ⟨_, rfl⟩)
    (case r_STEPS_8_7 => first | rfl | exact ⟨_, rfl⟩)
    (case r_STEPS_8_8 => first | rfl | exact ⟨_, rfl⟩)
    (case r_STEPS_8_9 => first | rfl | exact ⟨_, rfl⟩)
    (case r_STEPS_8_10 => first | rfl | exact ⟨_, rfl⟩)
    (case r_STEPS_8_11 => first | rfl | exact ⟨_, rfl⟩)
    (case r_STEPS_8_12 => first | rfl | exact ⟨_, rfl⟩)
    (case r_STEPS_8_13 => first | rfl | exact ⟨_, rfl⟩)
    (case r_STEPS_8_14 => first | rfl | exact ⟨_, rfl⟩)
    (case r_STEPS_8_15 => first | rfl | exact ⟨_, rfl⟩)
    (case q_STEPS_16 => k_is)
    (case l_STEPS_16 => k_is)
    (case r_STEPS_16_0 => first | rfl | exact ⟨_, rfl⟩)
    (case r_STEPS_16_1 => first | rfl | exact ⟨_, rfl⟩)
    (case r_STEPS_16_2 => first | rfl | exact ⟨_, rfl⟩)
    (case r_STEPS_16_3 => first | rfl | exact ⟨_, rfl⟩)
    (case r_STEPS_16_4 => first | rfl | exact ⟨_, rfl⟩)
    (case r_STEPS_16_5 => first | rfl | exact ⟨_, rfl⟩)
    (case r_STEPS_16_6 => first | rfl | exact ⟨_, rfl⟩)
    (case r_STEPS_16_7 => first | rfl | exact ⟨_, rfl⟩)
    (case r_STEPS_16_8 => first | rfl | exact ⟨_, rfl⟩)
    (case r_STEPS_16_9 => first | rfl | exact ⟨_, rfl⟩)
    (case r_STEPS_16_10 => first | rfl | exact ⟨_, rfl⟩)
    (case r_STEPS_16_11 => first | rfl | exact ⟨_, rfl⟩)
    (case r_STEPS_16_12 => first | rfl | exact ⟨_, rfl⟩)
    (case r_STEPS_16_13 => first | rfl | exact ⟨_, rfl⟩)
    (case r_STEPS_16_14 => first | rfl | exact ⟨_, rfl⟩)
    (case r_STEPS_16_15 => first | rfl | exact ⟨_, rfl⟩)
    (case q_STEPS_32 => k_is)
    (case l_STEPS_32 => k_is)
    (case r_STEPS_32_0 => first | rfl | exact ⟨_, rfl⟩)
    (case r_STEPS_32_1 => first | rfl | exact ⟨_, rfl⟩)
    (case r_STEPS_32_2 => first | rfl | exact ⟨_, rfl⟩)
    (case r_STEPS_32_3 => first | rfl | exact ⟨_, rfl⟩)
    (case r_STEPS_32_4 => first | rfl | exact ⟨_, rfl⟩)
    (case r_STEPS_32_5 => first | rfl | exact ⟨_, rfl⟩)
    (case r_STEPS_32_6 => first | rfl | exact ⟨_, rfl⟩)
    (case r_STEPS_32_7 => first | rfl | exact ⟨_, rfl⟩)
    (case r_STEPS_32_8 => first | rfl | exact ⟨_, rfl⟩)
    (case r_STEPS_32_9 => first | rfl | exact ⟨_, rfl⟩)
    (case r_STEPS_32_10 => first | rfl | exact ⟨_, rfl⟩)
    (case r_STEPS_32_11 => first | rfl | exact ⟨_, rfl⟩)
    (case r_STEPS_32_12 => first | rfl | exact ⟨_, rfl⟩)
    (case r_STEPS_32_13 => first | rfl | exact ⟨_, rfl⟩)
    (case r_STEPS_32_14 => first | rfl | exact ⟨_, rfl⟩)
    (case r_STEPS_32_15 => first | rfl | exact ⟨_, rfl⟩)
