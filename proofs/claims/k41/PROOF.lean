import PyProof.Rows.All
import Wide.All
import OpenK.AllK
import Wide.FinOn
import HandS.ForMost
import HandS.Steps
import HandS.Evl
import HandS.IsInst
import HandS.Wide
import HandS.Defaults
import HandS.MakeKwOnly
import HandS.OwnEq
import PyProof.P3Eq
import PySem.Challenge.RW_monochord_k41_settings_of_the_encoder
set_option Elab.async false
set_option linter.all false
set_option maxRecDepth 100000
set_option maxHeartbeats 4000000
namespace K41
open PySem PySem.Spec PyProof.Rows L2 Evl
def topS (i : Nat) : Stmt := PySem.Challenge.pw_monochord_k41_settings_of_the_encoder.main.body.getD i (.Pass ⟨0, 0, 0, 0⟩)
abbrev s_Settings_init : Stmt := inClass (topS 2) 0
theorem sc_Settings_init : FnScope ["self", "block_size", "block_sizes", "fixed_order", "linear_order", "search", "precision", "partition_order", "wide", "stereo", "wasted", "seek_interval", "vendor"] ["self", "block_size", "block_sizes", "fixed_order", "linear_order", "search", "precision", "partition_order", "wide", "stereo", "wasted", "seek_interval", "vendor"] (defScope s_Settings_init) := ⟨rfl, rfl, rfl, by decide +kernel, rfl, by decide +kernel, by decide +kernel⟩
abbrev s_Settings_eq : Stmt := inClass (topS 2) 1
theorem sc_Settings_eq : FnScope ["self", "other"] ["self", "other"] (defScope s_Settings_eq) := ⟨rfl, rfl, rfl, by decide +kernel, rfl, by decide +kernel, by decide +kernel⟩
abbrev s_Audio_init : Stmt := inClass (topS 4) 0
theorem sc_Audio_init : FnScope ["self", "rate", "depth", "channels", "channel"] ["self", "rate", "depth", "channels"] (defScope s_Audio_init) := ⟨rfl, rfl, rfl, by decide +kernel, rfl, by decide +kernel, by decide +kernel⟩
abbrev s_law_cell : Stmt := topS 6
theorem sc_law_cell : FnScope ["script", "k"] ["script", "k"] (defScope s_law_cell) := ⟨rfl, rfl, rfl, by decide +kernel, rfl, by decide +kernel, by decide +kernel⟩
abbrev s_law_row : Stmt := topS 9
theorem sc_law_row : FnScope ["cell", "count", "bound", "rest", "mixed", "row", "k"] ["cell", "count", "bound"] (defScope s_law_row) := ⟨rfl, rfl, rfl, by decide +kernel, rfl, by decide +kernel, by decide +kernel⟩
abbrev s_law_settings : Stmt := topS 10
theorem sc_law_settings : FnScope ["row"] ["row"] (defScope s_law_settings) := ⟨rfl, rfl, rfl, by decide +kernel, rfl, by decide +kernel, by decide +kernel⟩
abbrev s_law_values : Stmt := topS 11
theorem sc_law_values : FnScope ["told"] ["told"] (defScope s_law_values) := ⟨rfl, rfl, rfl, by decide +kernel, rfl, by decide +kernel, by decide +kernel⟩
abbrev s_law_same : Stmt := topS 12
theorem sc_law_same : FnScope ["actual", "expected", "k"] ["actual", "expected"] (defScope s_law_same) := ⟨rfl, rfl, rfl, by decide +kernel, rfl, by decide +kernel, by decide +kernel⟩
abbrev s_law_sizes : Stmt := topS 13
theorem sc_law_sizes : FnScope ["cell", "rest", "x"] ["cell"] (defScope s_law_sizes) := ⟨rfl, rfl, rfl, by decide +kernel, rfl, by decide +kernel, by decide +kernel⟩
abbrev s_law_vendor : Stmt := topS 14
theorem sc_law_vendor : FnScope ["cell", "signs", "x"] ["cell"] (defScope s_law_vendor) := ⟨rfl, rfl, rfl, by decide +kernel, rfl, by decide +kernel, by decide +kernel⟩
abbrev s_law_drawn : Stmt := topS 15
theorem sc_law_drawn : FnScope ["script", "at", "row"] ["script", "at"] (defScope s_law_drawn) := ⟨rfl, rfl, rfl, by decide +kernel, rfl, by decide +kernel, by decide +kernel⟩
abbrev s_law : Stmt := topS 16
theorem sc_law : FnScope ["script", "row", "plain", "handed", "told", "other", "k", "changed"] ["script"] (defScope s_law) := ⟨rfl, rfl, rfl, by decide +kernel, rfl, by decide +kernel, by decide +kernel⟩
theorem hu64 {A : Around} {k : Nat} (hr : Room k A) : A.units + 64 < cLine := hr.units
/-! ### short words for readings -/
theorem ret_eq {v w : V} {H H' : Hp} {Q : VK} (k : RetV v H Q) (ex : Ex H H') (e : w = v) : Q w H' := e ▸ k H' ex
/-- isinstance(x, T), T a built-in class -/
theorem ev_isi {K : PySem.W.Frag} {σ : L2.St} {H : Hp} {ta : TE} {x : V} {t : String} {T : String} {b : Bool} (ha : Ev ta σ H x) (ht : ∀ H1, Ex H H1 → TyX K H1 x (.type t)) (hk : kitB t T = some b) :
    Ev (tCB (rIsi K) (tCons ta (tCons (tC (.ty T)) tNil))) σ H (.bl b) :=
  ev_cb (ea_cons ha (ea_cons ev_c ea_nil)) fun H1 e Q q => ⟨x, .ty T, _, _, b, rfl, .ty T, ht H1 e, kit_ty hk, q H1 (Ex.refl H1)⟩
theorem isi_int {K : PySem.W.Frag} {H : Hp} {i : Int} : ∀ H1, Ex H H1 → TyX K H1 (V.int i) (.type "int") := fun _ _ => .base (.int _)
theorem isi_bl {K : PySem.W.Frag} {H : Hp} {b : Bool} : ∀ H1, Ex H H1 → TyX K H1 (V.bl b) (.type "bool") := fun _ _ => .base (.bl _)
theorem isi_non {K : PySem.W.Frag} {H : Hp} : ∀ H1, Ex H H1 → TyX K H1 V.non (.type "NoneType") := fun _ _ => .base .non
theorem isi_lst {K : PySem.W.Frag} {H : Hp} {a : Addr} {xs : List V} (h : H a = some (.lst xs)) : ∀ H1, Ex H H1 → TyX K H1 (V.ref a) (.type "list") := fun _ e => .base (.lst (e _ _ h))
theorem isi_tup {K : PySem.W.Frag} {H : Hp} {a : Addr} {xs : List V} (h : H a = some (.tup xs)) : ∀ H1, Ex H H1 → TyX K H1 (V.ref a) (.type "tuple") := fun _ e => .base (.tup (e _ _ h))
theorem kit_ii : kitB "int" "int" = some true := by decide +kernel
theorem kit_ib : kitB "int" "bool" = some false := by decide +kernel
theorem kit_bb : kitB "bool" "bool" = some true := by decide +kernel
theorem kit_bi : kitB "bool" "int" = some true := by decide +kernel
theorem kit_ll : kitB "list" "list" = some true := by decide +kernel
theorem kit_tt : kitB "tuple" "tuple" = some true := by decide +kernel
theorem ev_isiI {K : PySem.W.Frag} {σ : L2.St} {H : Hp} {ta : TE} {i : Int} (ha : Ev ta σ H (.int i)) : Ev (tCB (rIsi K) (tCons ta (tCons (tC (.ty "int")) tNil))) σ H (.bl true) := ev_isi ha isi_int kit_ii
theorem ev_isiB {K : PySem.W.Frag} {σ : L2.St} {H : Hp} {ta : TE} {i : Int} (ha : Ev ta σ H (.int i)) : Ev (tCB (rIsi K) (tCons ta (tCons (tC (.ty "bool")) tNil))) σ H (.bl false) := ev_isi ha isi_int kit_ib
theorem ev_isiL {K : PySem.W.Frag} {σ : L2.St} {H : Hp} {ta : TE} {a : Addr} {xs : List V} (ha : Ev ta σ H (.ref a)) (h : H a = some (.lst xs)) : Ev (tCB (rIsi K) (tCons ta (tCons (tC (.ty "list")) tNil))) σ H (.bl true) := ev_isi ha (isi_lst h) kit_ll
theorem ev_isiBB {K : PySem.W.Frag} {σ : L2.St} {H : Hp} {ta : TE} {b : Bool} (ha : Ev ta σ H (.bl b)) : Ev (tCB (rIsi K) (tCons ta (tCons (tC (.ty "bool")) tNil))) σ H (.bl true) := ev_isi ha isi_bl kit_bb
theorem ev_chain {σ : L2.St} {H : Hp} {ta tb tc : TE} {g g' : Int → Int → Bool} {a b c : Int} (ha : Ev ta σ H (.int a)) (hb : Ev tb σ H (.int b)) (hc : Ev tc σ H (.int c)) :
    Ev (tChain (rI0 fun i j => .bl (g i j)) (rI0 fun i j => .bl (g' i j)) ta tb tc) σ H (.bl (g a b && g' b c)) := fun H1 e Q q =>
  ha H1 e _ fun H2 e2 => hb H2 (e.trans e2) _ fun H3 e3 => ⟨a, b, rfl, rfl, g a b, rfl, by
    cases hg : g a b with
    | true =>
      rw [if_pos rfl]
      rw [hg, Bool.true_and] at q
      exact hc H3 ((e.trans e2).trans e3) _ fun H4 e4 => ⟨b, c, rfl, rfl, q H4 ((e2.trans e3).trans e4)⟩
    | false =>
      rw [if_neg (by decide)]
      rw [hg, Bool.false_and] at q
      exact q H3 (e2.trans e3)⟩
theorem ev_isN {σ : L2.St} {H : Hp} {ta : TE} {x : V} (ha : Ev ta σ H x) : Ev (tOp rIsN ta (tC .non)) σ H (.bl (decide (x = .non))) := fun H1 e Q q => ha H1 e _ fun H2 e2 => ⟨rfl, q H2 e2⟩
theorem ev_notN {σ : L2.St} {H : Hp} {ta : TE} {x : V} (ha : Ev ta σ H x) : Ev (tOp rNotN ta (tC .non)) σ H (.bl (!decide (x = .non))) := fun H1 e Q q => ha H1 e _ fun H2 e2 => ⟨rfl, q H2 e2⟩
theorem ev_min2 {σ : L2.St} {H : Hp} {ta tb : TE} {i j : Int} (ha : Ev ta σ H (.int i)) (hb : Ev tb σ H (.int j)) :
    Ev (tCB (fun xs H Q => ∃ i j, xs = [.int i, .int j] ∧ Q (.int (if j < i then j else i)) H) (tCons ta (tCons tb tNil))) σ H (.int (if j < i then j else i)) :=
  ev_cb (ea_cons ha (ea_cons hb ea_nil)) fun H1 _ _ q => ⟨i, j, rfl, q H1 (Ex.refl H1)⟩
theorem ev_negI {σ : L2.St} {H : Hp} {ta : TE} {i : Int} (ha : Ev ta σ H (.int i)) : Ev (tUn (rU fun i => .int (-i)) ta) σ H (.int (-i)) := ev_un ha ru_neg
theorem ev_I0 {σ : L2.St} {H : Hp} {ta tb : TE} {g : Int → Int → V} {i j : Int} (ha : Ev ta σ H (.int i)) (hb : Ev tb σ H (.int j)) : Ev (tOp (rI0 g) ta tb) σ H (g i j) := ev_op ha hb rv_I0
theorem ev_I {σ : L2.St} {H : Hp} {ta tb : TE} {C : Int → Int → Prop} {g : Int → Int → V} {i j : Int} (ha : Ev ta σ H (.int i)) (hb : Ev tb σ H (.int j)) (hc : C i j) : Ev (tOp (rI C g) ta tb) σ H (g i j) := ev_op ha hb (rv_I hc)
theorem ev_eq {σ : L2.St} {H : Hp} {ta tb : TE} {x y : V} (ha : Ev ta σ H x) (hb : Ev tb σ H y) (hs : scal x y = true) : Ev (tOp rEq ta tb) σ H (.bl (decide (x = y))) := ev_op ha hb (rv_eq hs)
theorem ev_ne {σ : L2.St} {H : Hp} {ta tb : TE} {x y : V} (ha : Ev ta σ H x) (hb : Ev tb σ H y) (hs : scal x y = true) : Ev (tOp rNe ta tb) σ H (.bl (!decide (x = y))) := ev_op ha hb (rv_ne hs)
theorem et_B' {σ : L2.St} {H : Hp} {te : TE} {x : V} {b : Bool} (h : Ev te σ H x) (e : x = .bl b) : EvT (tB te) σ H b := et_B (e ▸ h)
theorem dec_lt {a b : Nat} : decide ((a : Int) < (b : Int)) = decide (a < b) := by
  by_cases h : a < b
  · rw [decide_eq_true h, decide_eq_true (by omega)]
  · rw [decide_eq_false h, decide_eq_false (by omega)]
theorem int_at {ns : List Int} {i : Nat} {x : V} (hx : (ns.map V.int)[i]? = some x) : ∃ n, ns[i]? = some n ∧ i < ns.length ∧ x = V.int n := by
  rw [List.getElem?_map] at hx
  cases en : ns[i]? with
  | none => rw [en] at hx; cases hx
  | some n => rw [en] at hx; exact ⟨n, rfl, (List.getElem?_eq_some_iff.mp en).1, (Option.some.inj hx).symm⟩
theorem at_int {ns : List Int} {i : Nat} {n : Int} (h : ns[i]? = some n) : (ns.map V.int)[i]? = some (V.int n) := by rw [List.getElem?_map, h]; rfl
local macro_rules | `(tactic| walk_at "side") => `(tactic| first
  | omega | (show CMul _ _; unfold CMul; omega) | (show CDiv _ _; unfold CDiv; omega) | (show CPow _ _; unfold CPow; omega) | (show (_ : Int) < _; omega) | (show (_ : Int) ≤ _; omega) | decide)
local macro_rules | `(tactic| walk_at "ev") => `(tactic| first
  | exact ev_var rfl
  | exact ev_c
  | (refine' ev_I0 ?h1 ?h2; (case h1 => walk_at "ev"); (case h2 => walk_at "ev"))
  | (refine' ev_negI ?h1; (case h1 => walk_at "ev"))
  | (refine' ev_I ?h1 ?h2 ?hc; (case h1 => walk_at "ev"); (case h2 => walk_at "ev"); (case hc => walk_at "side"))
  | (refine' ev_eq ?h1 ?h2 ?hc; (case h1 => walk_at "ev"); (case h2 => walk_at "ev"); (case hc => rfl))
  | (refine' ev_ne ?h1 ?h2 ?hc; (case h1 => walk_at "ev"); (case h2 => walk_at "ev"); (case hc => rfl))
  | (refine' ev_max2 ?h1 ?h2; (case h1 => walk_at "ev"); (case h2 => walk_at "ev"))
  | (refine' ev_min2 ?h1 ?h2; (case h1 => walk_at "ev"); (case h2 => walk_at "ev"))
  | (refine' ev_chain ?h1 ?h2 ?h3; (case h1 => walk_at "ev"); (case h2 => walk_at "ev"); (case h3 => walk_at "ev"))
  | (refine' ev_isN ?h1; (case h1 => walk_at "ev"))
  | (refine' ev_notN ?h1; (case h1 => walk_at "ev"))
  | (refine' ev_isiI ?h1; (case h1 => walk_at "ev"))
  | (refine' ev_isiB ?h1; (case h1 => walk_at "ev"))
  | (refine' ev_isiBB ?h1; (case h1 => walk_at "ev"))
  | (refine' ev_andV ?h1 (fun _ => ?h2); (case h1 => walk_at "ev"); (case h2 => walk_at "ev"))
  | (refine' ev_orV ?h1 (fun _ => ?h2); (case h1 => walk_at "ev"); (case h2 => walk_at "ev"))
  | (refine' ev_notV ?h1; (case h1 => walk_at "ev"))
  | walk_at "evmore")
local macro_rules | `(tactic| walk_at "et") => `(tactic| first
  | (refine' et_test ?h1; (case h1 => walk_at "ev"))
  | (refine' et_B ?h1; (case h1 => walk_at "ev"))
  | (refine' et_not ?h1; (case h1 => walk_at "et"))
  | (refine' et_and ?h1 (fun _ => ?h2); (case h1 => walk_at "et"); (case h2 => walk_at "et"))
  | (refine' et_or ?h1 (fun _ => ?h2); (case h1 => walk_at "et"); (case h2 => walk_at "et")))
local macro_rules | `(tactic| walk_at "ea") => `(tactic| first
  | exact ea_nil
  | (refine' ea_cons ?h1 ?h2; (case h1 => walk_at "ev"); (case h2 => walk_at "ea")))
local macro_rules | `(tactic| walk_at "when") => `(tactic| (refine' q_when ?h ?h1 ?h2; (case h => walk_at "et")))
local macro_rules | `(tactic| walk_at "whenS") => `(tactic| (refine' s_when ?h ?h1 ?h2; (case h => walk_at "et")))
local macro_rules | `(tactic| walk_at "if") => `(tactic| (refine' q_if ?h ?h1 ?h2; (case h => walk_at "et")))
local macro_rules | `(tactic| walk_at "ifS") => `(tactic| (refine' s_if ?h ?h1 ?h2; (case h => walk_at "et")))
local macro_rules | `(tactic| walk_at "ret") => `(tactic| (refine' s_ret ?h ?h1; (case h => walk_at "ev")))
local macro_rules | `(tactic| walk_at "asg") => `(tactic| (refine' q_asg ?h ?h1; (case h => walk_at "ev")))
local macro_rules | `(tactic| walk_at "asgS") => `(tactic| (refine' s_asg ?h ?h1; (case h => walk_at "ev")))

/-! ### lists, existing or new -/
def EvR (te : TE) (σ : L2.St) (H : Hp) (xs : List V) : Prop := ∀ H1, Ex H H1 → ∀ Q : VK, (∀ p H2, Ex H1 H2 → H2 p = some (.lst xs) → Q (.ref p) H2) → te σ H1 Q
def EvS (K : PySem.W.Frag) (te : TE) (σ : L2.St) (H : Hp) (xs : List V) : Prop := ∀ H1, Ex H H1 → ∀ Q : VK, (∀ p H2, Ex H1 H2 → SqL K H2 p xs → Q (.ref p) H2) → te σ H1 Q
section
variable {K : PySem.W.Frag} {σ : L2.St} {H H' : Hp} {ta tb te : TE} {xs ys : List V} {a : Addr}
theorem EvL.r (h : EvL te σ H xs) : EvR te σ H xs := fun H1 e Q q => h H1 e Q fun p H2 _ e2 h2 => q p H2 e2 h2
theorem Ev.r (h : Ev te σ H (.ref a)) (hx : H a = some (.lst xs)) : EvR te σ H xs := fun H1 e Q q => h H1 e Q fun H2 e2 => q a H2 e2 (e2 _ _ (e _ _ hx))
theorem EvR.s (h : EvR te σ H xs) : EvS K te σ H xs := fun H1 e Q q => h H1 e Q fun p H2 e2 h2 => q p H2 e2 (sq_of h2)
theorem Ev.s (h : Ev te σ H (.ref a)) (hx : SqL K H a xs) : EvS K te σ H xs := fun H1 e Q q => h H1 e Q fun H2 e2 => q a H2 e2 (ex_l e2 (ex_l e hx))
theorem EvR.mono (e : Ex H H') (h : EvR te σ H xs) : EvR te σ H' xs := fun H1 a Q q => h H1 (e.trans a) Q q
theorem EvS.mono (e : Ex H H') (h : EvS K te σ H xs) : EvS K te σ H' xs := fun H1 a Q q => h H1 (e.trans a) Q q
theorem EvL.is (h : EvL te σ H xs) (e : xs = ys) : EvL te σ H ys := e ▸ h
theorem EvR.is (h : EvR te σ H xs) (e : xs = ys) : EvR te σ H ys := e ▸ h
theorem el_cat (ha : EvR ta σ H xs) (hb : EvR tb σ H ys) (hl : xs.length + ys.length ≤ 100000) : EvL (tOp rCat ta tb) σ H (xs ++ ys) := fun H1 e Q q =>
  ha H1 e _ fun p H2 e2 h2 => hb H2 (e.trans e2) _ fun r H3 e3 h3 => ⟨p, r, xs, ys, rfl, rfl, e3 _ _ h2, h3, sz_of hl, fun l hl => q l _ (fresh_back (e2.trans e3) hl) ((e2.trans e3).trans (Ex.new hl)) upd_same⟩
theorem el_rep {k : Int} (ha : EvR ta σ H xs) (hb : Ev tb σ H (.int k)) (hk : -(2 ^ 63) ≤ k ∧ k < 2 ^ 63) (hl : xs.length * k.toNat ≤ 100000) : EvL (tOp rRep ta tb) σ H (List.replicate k.toNat xs).flatten := fun H1 e Q q =>
  ha H1 e _ fun p H2 e2 h2 => hb H2 (e.trans e2) _ fun H3 e3 => ⟨p, k, xs, rfl, rfl, e3 _ _ h2, hk.1, hk.2, sz_of hl, fun l hl => q l _ (fresh_back (e2.trans e3) hl) ((e2.trans e3).trans (Ex.new hl)) upd_same⟩
theorem rep_one {x : V} (n : Nat) : (List.replicate n [x]).flatten = List.replicate n x := by
  induction n with
  | zero => rfl
  | succ n ih => rw [List.replicate_succ, List.replicate_succ, List.flatten_cons, ih]; rfl
theorem el_of {te : TE} (h : EvS K te σ H xs) : EvL (tCB (rListS K) (tCons te tNil)) σ H xs := fun H1 e Q q =>
  h H1 e _ fun p H2 e2 h2 => ⟨p, xs, rfl, .inl h2, fun l hl => q l _ (fresh_back e2 hl) (e2.trans (Ex.new hl)) upd_same⟩
theorem ev_lenS (h : EvS K te σ H xs) : Ev (tCB (rLenS K) (tCons te tNil)) σ H (.int (xs.length : Int)) := fun H1 e Q q =>
  h H1 e _ fun p H2 e2 h2 => ⟨p, xs, rfl, .inl h2, q H2 e2⟩
theorem ev_sum {ns : List Int} (h : EvS K te σ H (ns.map V.int)) : Ev (tCB (rSum K) (tCons te tNil)) σ H (.int ns.sum) := fun H1 e Q q =>
  h H1 e _ fun p H2 e2 h2 => ⟨p, ns, rfl, h2, q H2 e2⟩
theorem dp_ints {K : PySem.W.Frag} {H : Hp} : ∀ ns : List Int, DpAll K H (ns.map V.int) (ns.map PyData.int)
  | [] => .nil
  | n :: r => .cons (.int n) (dp_ints r)
theorem eqv_ints : ∀ ns ms : List Int, PyData.eqvAll (ns.map PyData.int) (ms.map PyData.int) = decide (ns = ms)
  | [], [] => by simp [PyData.eqvAll]
  | [], _ :: _ => by simp [PyData.eqvAll]
  | _ :: _, [] => by simp [PyData.eqvAll]
  | n :: r, m :: t => by
    show (PyData.eqv (.int n) (.int m) && PyData.eqvAll (r.map PyData.int) (t.map PyData.int)) = _
    rw [eqv_ints r t]
    show ((n == m) && decide (r = t)) = _
    by_cases h1 : n = m <;> by_cases h2 : r = t <;> simp [h1, h2]
theorem canLay_ints : ∀ ns : List Int, PyData.canLayAll0 (ns.map PyData.int) = true
  | [] => by simp [PyData.canLayAll0]
  | n :: r => by
    show PyData.canLayAll0 (PyData.int n :: r.map PyData.int) = true
    rw [PyData.canLayAll0, canLay_ints r]
    simp [PyData.canLay0]
theorem depth_ints : ∀ ns : List Int, PyData.depthAll (ns.map PyData.int) ≤ 1
  | [] => by simp [PyData.depthAll]
  | n :: r => by
    show PyData.depthAll (PyData.int n :: r.map PyData.int) ≤ 1
    have := depth_ints r
    simp only [PyData.depthAll, PyData.depth]
    omega
theorem shaped_ints (ns : List Int) : SeqAt.shaped (.list (ns.map PyData.int)) = true := by
  unfold SeqAt.shaped
  have h1 := canLay_ints ns
  have h2 := depth_ints ns
  have h3 : PyData.depth (.list (ns.map PyData.int)) ≤ 64 := by
    rw [PyData.depth]
    omega
  rw [decide_eq_true h3, Bool.and_true]
  simpa only [PyData.canLay0] using h1
theorem ev_eqI {ns ms : List Int} (ha : EvS K ta σ H (ns.map V.int)) (hb : EvS K tb σ H (ms.map V.int)) : Ev (tOp (rEqD K) ta tb) σ H (.bl (decide (ns = ms))) := fun H1 e Q q =>
  ha H1 e _ fun p H2 e2 h2 => hb H2 (e.trans e2) _ fun r H3 e3 h3 => ⟨.list (ns.map PyData.int), .list (ms.map PyData.int), .lst (ex_l e3 h2) (dp_ints ns), .lst h3 (dp_ints ms), shaped_ints ns, shaped_ints ms, by
    show Q (.bl (PyData.eqvAll (ns.map PyData.int) (ms.map PyData.int))) H3
    rw [eqv_ints]
    exact q H3 (e2.trans e3)⟩
theorem ev_neI {ns ms : List Int} (ha : EvS K ta σ H (ns.map V.int)) (hb : EvS K tb σ H (ms.map V.int)) : Ev (tOp (rNeD K) ta tb) σ H (.bl (!decide (ns = ms))) := fun H1 e Q q =>
  ha H1 e _ fun p H2 e2 h2 => hb H2 (e.trans e2) _ fun r H3 e3 h3 => ⟨.list (ns.map PyData.int), .list (ms.map PyData.int), .lst (ex_l e3 h2) (dp_ints ns), .lst h3 (dp_ints ms), shaped_ints ns, shaped_ints ms, by
    show Q (.bl (!PyData.eqvAll (ns.map PyData.int) (ms.map PyData.int))) H3
    rw [eqv_ints]
    exact q H3 (e2.trans e3)⟩
theorem ev_ixS {i : Nat} {n : Int} {tl ti : TE} {v : V} (h : EvS K tl σ H xs) (hi : Ev ti σ H (.int n)) (ha : atI xs n = some v) : Ev (tOp (rIxL K) tl ti) σ H v := fun H1 e Q q =>
  h H1 e _ fun p H2 e2 h2 => hi H2 (e.trans e2) _ fun H3 e3 => ⟨p, xs, n, v, rfl, rfl, ex_l e3 h2, ha, q H3 (e2.trans e3)⟩
theorem el_slS {tl th : TO} {lo hi : Option Int} (h : EvS K te σ H xs) (h1 : EvO tl σ H lo) (h2 : EvO th σ H hi) : EvL (tSl (rSlL K) te tl th) σ H (cutV xs lo hi) := fun H1 e _ q =>
  h H1 e _ fun a H2 e2 hs => h1 H2 (e.trans e2) _ fun H3 e3 => h2 H3 ((e.trans e2).trans e3) _ fun H4 e4 =>
    ⟨a, xs, rfl, ex_l (e3.trans e4) hs, fun p hp => q p _ (fresh_back ((e2.trans e3).trans e4) hp) (((e2.trans e3).trans e4).trans (Ex.new hp)) upd_same⟩
theorem ev_at {n : Int} {tl ti : TE} {v : V} (h : EvS K tl σ H xs) (hi : Ev ti σ H (.int n)) (ha : atI xs n = some v) : Ev (tOp (rIxL K) tl ti) σ H v := ev_ixS (i := 0) h hi ha
theorem cut_to (xs : List V) (i : Nat) : cutV xs none (some (i : Int)) = xs.take i := by
  unfold cutV
  rw [HT.sIx_none, HT.sIx_nat, List.drop_zero, Nat.sub_zero]
  by_cases h : i ≤ xs.length
  · rw [Nat.min_eq_left h]
  · rw [Nat.min_eq_right (by omega), List.take_of_length_le (Nat.le_refl _), List.take_of_length_le (by omega)]
theorem cut_from (xs : List V) (i : Nat) : cutV xs (some (i : Int)) none = xs.drop i := by
  unfold cutV
  rw [HT.sIx_none, HT.sIx_nat]
  by_cases h : i ≤ xs.length
  · rw [Nat.min_eq_left h, List.take_of_length_le (by rw [List.length_drop]; omega)]
  · rw [Nat.min_eq_right (by omega), List.drop_of_length_le (Nat.le_refl _), List.drop_of_length_le (show xs.length ≤ i by omega), List.take_nil]
theorem cut_mid (xs : List V) (i j : Nat) : cutV xs (some (i : Int)) (some (j : Int)) = (xs.drop i).take (j - i) := by
  unfold cutV
  rw [HT.sIx_nat, HT.sIx_nat]
  by_cases h : i ≤ xs.length
  · rw [Nat.min_eq_left h]
    by_cases h2 : j ≤ xs.length
    · rw [Nat.min_eq_left h2]
    · rw [Nat.min_eq_right (by omega), List.take_of_length_le (by rw [List.length_drop]; omega), List.take_of_length_le (by rw [List.length_drop]; omega)]
  · rw [Nat.min_eq_right (by omega : xs.length ≤ i), List.drop_of_length_le (Nat.le_refl _), List.drop_of_length_le (show xs.length ≤ i by omega)]
    simp
theorem el_to {th : TE} {ns : List Int} {i : Nat} (h : EvS K te σ H (ns.map V.int)) (h2 : Ev th σ H (.int i)) : EvL (tSl (rSlL K) te tNoPart (tPart th)) σ H ((ns.take i).map V.int) :=
  EvL.is (el_slS h eo_none (eo_some h2)) (by rw [List.map_take]; exact cut_to _ i)
theorem el_from {th : TE} {ns : List Int} {i : Nat} (h : EvS K te σ H (ns.map V.int)) (h2 : Ev th σ H (.int i)) : EvL (tSl (rSlL K) te (tPart th) tNoPart) σ H ((ns.drop i).map V.int) :=
  EvL.is (el_slS h (eo_some h2) eo_none) (by rw [List.map_drop]; exact cut_from _ i)
theorem el_mid {t1 t2 : TE} {ns : List Int} {i j : Nat} (h : EvS K te σ H (ns.map V.int)) (h1 : Ev t1 σ H (.int i)) (h2 : Ev t2 σ H (.int j)) : EvL (tSl (rSlL K) te (tPart t1) (tPart t2)) σ H (((ns.drop i).take (j - i)).map V.int) :=
  EvL.is (el_slS h (eo_some h1) (eo_some h2)) (by rw [List.map_take, List.map_drop]; exact cut_mid _ i j)
section
variable {D : Ends} {tz : TS} {sp : Sp} {dvs vs : List V} {E : XK} {tA : TA}
/-- x = f(..), whatever f promises -/
theorem q_asgC {i : Nat} (h : EvA tA σ H vs) (k : ∀ H1, Ex H H1 → sp (vs ++ dvs) H1 (fun x H2 => tz D (σ.set i (some x)) H2) E) : tSeq (tAsg (tCall sp dvs E tA) (gName i)) tz D σ H := h H (Ex.refl H) _ fun H1 e => k H1 e
theorem s_asgC {i : Nat} (h : EvA tA σ H vs) (k : ∀ H1, Ex H H1 → sp (vs ++ dvs) H1 (fun x H2 => D.nx (σ.set i (some x)) H2) E) : tAsg (tCall sp dvs E tA) (gName i) D σ H := h H (Ex.refl H) _ fun H1 e => k H1 e
theorem q_dropC (h : EvA tA σ H vs) (k : ∀ H1, Ex H H1 → sp (vs ++ dvs) H1 (fun _ H2 => tz D σ H2) E) : tSeq (tDrop (tCall sp dvs E tA)) tz D σ H := h H (Ex.refl H) _ fun H1 e => k H1 e
theorem s_retC (h : EvA tA σ H vs) (k : ∀ H1, Ex H H1 → sp (vs ++ dvs) H1 D.rt E) : tRet (tCall sp dvs E tA) D σ H := h H (Ex.refl H) _ fun H1 e => k H1 e
end
theorem gl_get {ns : List Int} {i : Nat} (h : i < ns.length) : ns[i]? = some (ns.getD i 0) := by
  rw [List.getD_eq_getElem?_getD, List.getElem?_eq_getElem h]
  rfl
theorem q_asgRaw {te : TE} {i : Nat} {D : Ends} {tz : TS} (P : V → Hp → Prop) (h : ∀ Q : VK, (∀ x H2, P x H2 → Q x H2) → te σ H Q) (k : ∀ x H2, P x H2 → tz D (σ.set i (some x)) H2) : tSeq (tAsg te (gName i)) tz D σ H := h _ k
/-- a, b = a pair -/
theorem q_asgT {te : TE} {i j : Nat} {D : Ends} {tz : TS} (P : V → V → Hp → Prop) (h : ∀ Q : VK, (∀ t x y H2, P x y H2 → SqT K H2 t [x, y] → Q (.ref t) H2) → te σ H Q) (k : ∀ x y H2, P x y H2 → tz D ((σ.set i (some x)).set j (some y)) H2) :
    tSeq (tAsg te (gTup K 2 (gCons (gName i) (gCons (gName j) gNil)))) tz D σ H := h _ fun t x y H2 hP hT => ⟨t, [x, y], rfl, hT, rfl, x, [y], rfl, y, [], rfl, rfl, k x y H2 hP⟩
/-- the law's cell -/
def cellI (ns : List Int) (k : Int) : Int := ns.getD k.toNat 0
theorem cellI_in {ns : List Int} {k : Int} (h0 : 0 ≤ k) (h : k < ns.length) : ns[k.toNat]? = some (cellI ns k) := by
  unfold cellI
  rw [List.getD_eq_getElem?_getD, List.getElem?_eq_getElem (by omega)]
  rfl
theorem cellI_out {ns : List Int} {k : Int} (h : ¬ k < ns.length) : cellI ns k = 0 := by
  unfold cellI
  rw [List.getD_eq_getElem?_getD, List.getElem?_eq_none (by omega)]
  rfl
end
theorem Ex.get {H H' : Hp} {a : Addr} {o : HO} (e : Ex H H') (h : H a = some o) : H' a = some o := e a o h
local macro_rules | `(tactic| walk_at "hp") => `(tactic| first
  | assumption
  | exact upd_same
  | (refine' Ex.get (by assumption) ?h1; (case h1 => walk_at "hp")))
local macro_rules | `(tactic| walk_at "ex") => `(tactic| first
  | assumption
  | exact Ex.refl _
  | (refine' Ex.trans ?h1 (by assumption); (case h1 => walk_at "ex")))
local macro_rules | `(tactic| walk_at "sq") => `(tactic| first
  | assumption
  | (refine' sq_of ?h1; (case h1 => walk_at "hp"))
  | (refine' ex_l (by assumption) ?h1; (case h1 => walk_at "sq")))
local macro_rules | `(tactic| walk_at "evs") => `(tactic| first
  | (refine' Ev.s ?h1 ?h2; (case h1 => exact ev_var rfl); (case h2 => walk_at "sq"))
  | (refine' EvR.s ?h1; (case h1 => walk_at "evr")))
local macro_rules | `(tactic| walk_at "evr") => `(tactic| first
  | (refine' Ev.r ?h1 ?h2; (case h1 => exact ev_var rfl); (case h2 => walk_at "hp"))
  | (refine' EvL.r ?h1; (case h1 => walk_at "el")))
local macro_rules | `(tactic| walk_at "eo") => `(tactic| first
  | exact eo_none
  | (refine' eo_some ?h1; (case h1 => walk_at "ev")))
local macro_rules | `(tactic| walk_at "el") => `(tactic| first
  | (refine' el_lst ?h1 ?h2; (case h1 => walk_at "ea"); (case h2 => exact Nat.le_of_ble_eq_true rfl))
  | (refine' el_cat ?h1 ?h2 ?h3; (case h1 => walk_at "evr"); (case h2 => walk_at "evr"); (case h3 => walk_at "len"))
  | (refine' el_rep ?h1 ?h2 ?h3 ?h4; (case h1 => walk_at "evr"); (case h2 => walk_at "ev"); (case h3 => walk_at "side2"); (case h4 => walk_at "len"))
  | (refine' el_of ?h1; (case h1 => walk_at "evs"))
  | (refine' el_to ?h1 ?h2; (case h1 => walk_at "evs"); (case h2 => walk_at "ev"))
  | (refine' el_from ?h1 ?h2; (case h1 => walk_at "evs"); (case h2 => walk_at "ev"))
  | (refine' el_mid ?h1 ?h2 ?h3; (case h1 => walk_at "evs"); (case h2 => walk_at "ev"); (case h3 => walk_at "ev"))
  | (refine' el_slS ?h1 ?h2 ?h3; (case h1 => walk_at "evs"); (case h2 => walk_at "eo"); (case h3 => walk_at "eo"))
  | walk_at "elmore")
local macro_rules | `(tactic| walk_at "evmore") => `(tactic| first
  | (refine' ev_lenS ?h1; (case h1 => walk_at "evs"))
  | (refine' ev_sum ?h1; (case h1 => walk_at "evs"))
  | (refine' ev_eqI ?h1 ?h2; (case h1 => walk_at "evs"); (case h2 => walk_at "evs"))
  | (refine' ev_neI ?h1 ?h2; (case h1 => walk_at "evs"); (case h2 => walk_at "evs"))
  | (refine' ev_at ?h1 ?h2 ?h3; (case h1 => walk_at "evs"); (case h2 => walk_at "ev"); (case h3 => walk_at "at"))
  | (refine' ev_isiL ?h1 ?h2; (case h1 => walk_at "ev"); (case h2 => walk_at "hp"))
  | walk_at "evown")
local macro_rules | `(tactic| walk_at "at") => `(tactic| first
  | exact at_of rfl (at_int (by assumption))
  | exact at_of rfl (by assumption))
local macro_rules | `(tactic| walk_at "asgL") => `(tactic| (refine' q_asgL ?h ?h1; (case h => walk_at "el")))
local macro_rules | `(tactic| walk_at "retL") => `(tactic| (refine' s_retL ?h ?h1; (case h => walk_at "el")))

/-- a walk's reading said in other words -/
theorem PI.k {X : Cx} {tg e : Expr} {wi wi' : TI} (h : PI X tg e wi) (q : wi = wi') : PI X tg e wi' := q ▸ h
/-! ### comprehensions whose items are said in a list -/
theorem et_yes {σ : L2.St} {H : Hp} : EvT tYes σ H true := fun H1 _ _ q => q H1 (Ex.refl H1)
section
variable {K : PySem.W.Frag} {σ : L2.St} {H : Hp} {t1 t2 te : TE} {xs ys zs : List V} {vs : List Nat}
theorem take_snoc {zs : List V} {i : Nat} {z : V} (h : zs[i]? = some z) : zs.take (i + 1) = zs.take i ++ [z] := by
  rw [List.take_add_one, h]
  rfl
theorem el_lcZ {j1 j2 : Nat} (zs : List V) (h1 : EvS K t1 σ H xs) (h2 : EvS K t2 σ H ys) (hz : zs.length = min xs.length ys.length) (hb : zs.length ≤ 50000)
    (hw : ∀ x y, wipe (((wipe σ vs).set j1 (some x)).set j2 (some y)) vs = wipe σ vs)
    (he : ∀ (i : Nat) (x y : V) H1, Ex H H1 → xs[i]? = some x → ys[i]? = some y → ∃ z, zs[i]? = some z ∧ Ev te (((wipe σ vs).set j1 (some x)).set j2 (some y)) H1 z) :
    EvL (tLc (iZip K (tCons t1 (tCons t2 tNil))) (gTup K 2 (gCons (gName j1) (gCons (gName j2) gNil))) tYes te vs) σ H zs := fun H0 e Q q =>
  h1 H0 e _ fun p H1 e1 hp => h2 H1 (e.trans e1) _ fun r H2 e2 hr => ⟨p, r, xs, ys, rfl, ex_l e2 hp, hr, fun D hD =>
    ⟨fun i m H' => m = zs.length - i ∧ i ≤ zs.length ∧ Ex H2 H' ∧ H' D = some (.lst (zs.take i)), ⟨zs.length, rfl, Nat.zero_le _, Ex.new hD, upd_same⟩, by
      rintro i m H' ⟨rfl, hi, ex, hd⟩
      have qx : SqL K H' p xs := ex_l (e2.trans ex) hp
      have qy : SqL K H' r ys := ex_l ex hr
      by_cases hlt : i < zs.length
      · have hx : xs[i]? = some xs[i] := List.getElem?_eq_getElem (by omega)
        have hy : ys[i]? = some ys[i] := List.getElem?_eq_getElem (by omega)
        refine .inr ⟨⟨xs, ys, _, _, qx, qy, hx, hy⟩, fun H3 => i + 1 ≤ zs.length ∧ Ex H2 H3 ∧ H3 D = some (.lst (zs.take (i + 1))), fun H3 h3 => ⟨zs.length - (i + 1), by omega, rfl, h3⟩, fun v H3 hv => ?_⟩
        obtain ⟨T, x, y, rfl, hT, rfl, f1, f2⟩ := hv
        have ex3 : Ex H' (upd H' T (.tup [x, y])) := Ex.new hT
        obtain ⟨z, hz1, hz2⟩ := he i x y (upd H' T (.tup [x, y])) ((((e.trans e1).trans e2).trans ex).trans ex3) (f1 _ qx) (f2 _ qy)
        refine ⟨T, [x, y], rfl, st_of upd_same, rfl, x, [y], rfl, y, [], rfl, rfl, hw x y, ?_⟩
        refine hz2 _ (Ex.refl _) _ fun H4 e4 => ⟨zs.take i, e4 _ _ (ex3 _ _ hd), sz_lt (by rw [List.length_take]; omega), hlt, ?_, ?_⟩
        · exact Ex.mut ((ex.trans ex3).trans e4) hD
        · rw [upd_same, take_snoc hz1]
      · have ei : i = zs.length := by omega
        refine .inl ⟨⟨xs, ys, qx, qy, by omega⟩, ?_⟩
        rw [ei, List.take_length] at hd
        exact q D H' (fresh_back (e1.trans e2) hD) ((e1.trans e2).trans ex) hd⟩⟩
/-- over a list, each item kept -/
theorem el_lcS {j : Nat} (zs : List V) (h1 : EvS K t1 σ H xs) (hz : zs.length = xs.length) (hb : zs.length ≤ 50000) (hw : ∀ x, wipe ((wipe σ vs).set j (some x)) vs = wipe σ vs)
    (he : ∀ (i : Nat) (x : V) H1, Ex H H1 → xs[i]? = some x → ∃ z, zs[i]? = some z ∧ Ev te ((wipe σ vs).set j (some x)) H1 z) :
    EvL (tLc (iList K t1) (gName j) tYes te vs) σ H zs := fun H0 e Q q =>
  h1 H0 e _ fun p H1 e1 hp => ⟨p, rfl, ⟨xs, hp⟩, fun D hD => lc_list (xs := xs) (fun i H' => Ex H1 H' ∧ H' D = some (.lst (zs.take i))) ⟨Ex.new hD, upd_same⟩ (fun i H' _ h => ex_l h.1 hp)
    (fun i x H' hi h => ⟨hw x, by
      obtain ⟨z, hz1, hz2⟩ := he i x H' ((e.trans e1).trans h.1) hi
      have hl : i < xs.length := (List.getElem?_eq_some_iff.mp hi).1
      refine hz2 H' (Ex.refl _) _ fun H4 e4 => ⟨zs.take i, e4 _ _ h.2, sz_lt (by rw [List.length_take]; omega), Ex.mut (h.1.trans e4) hD, ?_⟩
      rw [upd_same, take_snoc hz1]⟩)
    (fun H' h => q D H' (fresh_back e1 hD) (e1.trans h.1) (by rw [h.2, ← hz, List.take_length]))⟩
/-- over range(n) -/
theorem el_lcR {ta : TA} {n : Int} {j : Nat} (zs : List V) (h1 : EvA ta σ H [.int n]) (hn : -100000 ≤ n) (hz : zs.length = n.toNat) (hb : zs.length ≤ 50000) (hw : ∀ x, wipe ((wipe σ vs).set j (some x)) vs = wipe σ vs)
    (he : ∀ (i : Nat) H1, Ex H H1 → i < zs.length → ∃ z, zs[i]? = some z ∧ Ev te ((wipe σ vs).set j (some (.int (i : Int)))) H1 z) :
    EvL (tLc (iRng1 ta) (gName j) tYes te vs) σ H zs := fun H0 e Q q =>
  h1 H0 e _ fun H1 e1 => ⟨n, rfl, by omega, by omega, fun D hD => lc_range (lo := 0) (n := n.toNat) (fun i H' => Ex H1 H' ∧ H' D = some (.lst (zs.take i))) ⟨Ex.new hD, upd_same⟩
    (fun i H' hi h => by
      have e0 : (0 : Int) + (i : Int) = (i : Int) := Int.zero_add _
      rw [e0]
      obtain ⟨z, hz1, hz2⟩ := he i H' ((e.trans e1).trans h.1) (by omega)
      refine ⟨hw _, hz2 H' (Ex.refl _) _ fun H4 e4 => ⟨zs.take i, e4 _ _ h.2, sz_lt (by rw [List.length_take]; omega), Ex.mut (h.1.trans e4) hD, ?_⟩⟩
      rw [upd_same, take_snoc hz1])
    (fun H' h => q D H' (fresh_back e1 hD) (e1.trans h.1) (by rw [h.2, show n.toNat = zs.length by omega, List.take_length]))⟩
/-- y = [.. for x in f(..)], whatever f promises -/
theorem s_asgLC {sp : Sp} {dvs args : List V} {E : XK} {ta : TA} {g : TG} {tt : TT} {D : Ends} {i : Nat} (h : EvA ta σ H args) (k : ∀ H1, Ex H H1 → sp (args ++ dvs) H1 (fun x H2 => tAsg (tLc (iList K (tC x)) g tt te vs) (gName i) D σ H2) E) :
    tAsg (tLc (iList K (tCall sp dvs E ta)) g tt te vs) (gName i) D σ H := h H (Ex.refl H) _ fun H1 e => k H1 e
theorem q_asgLC {sp : Sp} {dvs args : List V} {E : XK} {ta : TA} {g : TG} {tt : TT} {D : Ends} {i : Nat} {tz : TS} (h : EvA ta σ H args) (k : ∀ H1, Ex H H1 → sp (args ++ dvs) H1 (fun x H2 => tSeq (tAsg (tLc (iList K (tC x)) g tt te vs) (gName i)) tz D σ H2) E) :
    tSeq (tAsg (tLc (iList K (tCall sp dvs E ta)) g tt te vs) (gName i)) tz D σ H := h H (Ex.refl H) _ fun H1 e => k H1 e
theorem s_retLC {sp : Sp} {dvs args : List V} {E : XK} {ta : TA} {g : TG} {tt : TT} {D : Ends} (h : EvA ta σ H args) (k : ∀ H1, Ex H H1 → sp (args ++ dvs) H1 (fun x H2 => tRet (tLc (iList K (tC x)) g tt te vs) D σ H2) E) :
    tRet (tLc (iList K (tCall sp dvs E ta)) g tt te vs) D σ H := h H (Ex.refl H) _ fun H1 e => k H1 e
end

/-! ### data at any depth -/
mutual
theorem dp_ex {K : PySem.W.Frag} {H H' : Hp} (e : Ex H H') : ∀ (d : PyData) (v : V), Dp K H v d → Dp K H' v d
  | .none, _, h => by cases h; exact .non
  | .bool b, _, h => by cases h; exact .bl b
  | .int i, _, h => by cases h; exact .int i
  | .str x, _, h => by cases h; exact .str x
  | .list ds, _, h => by cases h with | lst hs ha => exact .lst (ex_l e hs) (dpa_ex e ds _ ha)
  | .tuple ds, _, h => by cases h with | tup hs ha => exact .tup (ex_t e hs) (dpa_ex e ds _ ha)
  | .dict _, _, h => by cases h
theorem dpa_ex {K : PySem.W.Frag} {H H' : Hp} (e : Ex H H') : ∀ (ds : List PyData) (vs : List V), DpAll K H vs ds → DpAll K H' vs ds
  | [], _, h => by cases h; exact .nil
  | d :: ds, _, h => by cases h with | cons h1 h2 => exact .cons (dp_ex e d _ h1) (dpa_ex e ds _ h2)
end
def EvD (K : PySem.W.Frag) (te : TE) (σ : L2.St) (H : Hp) (d : PyData) : Prop := ∀ H1, Ex H H1 → ∀ Q : VK, (∀ v H2, Ex H1 H2 → Dp K H2 v d → Q v H2) → te σ H1 Q
section
variable {K : PySem.W.Frag} {σ : L2.St} {H : Hp} {te ta tb t1 t2 t3 : TE} {d d1 d2 d3 : PyData} {v : V}
theorem EvD.of (h : Ev te σ H v) (hd : Dp K H v d) : EvD K te σ H d := fun H1 e Q q => h H1 e _ fun H2 e2 => q v H2 e2 (dp_ex (e.trans e2) d v hd)
theorem EvS.toD {ns : List Int} (h : EvS K te σ H (ns.map V.int)) : EvD K te σ H (.list (ns.map .int)) := fun H1 e Q q => h H1 e _ fun p H2 e2 hp => q (.ref p) H2 e2 (.lst hp (dp_ints ns))
theorem ed_tup2 (h1 : EvD K t1 σ H d1) (h2 : EvD K t2 σ H d2) : EvD K (tTup (tCons t1 (tCons t2 tNil))) σ H (.tuple [d1, d2]) := fun H1 e Q q => h1 H1 e _ fun v H2 e2 hv => h2 H2 (e.trans e2) _ fun u H3 e3 hu =>
  ⟨sz_of (show 2 ≤ 100000 by decide), fun p hp => q (.ref p) _ ((e2.trans e3).trans (Ex.new hp)) (.tup (st_of upd_same) (.cons (dp_ex (e3.trans (Ex.new hp)) _ _ hv) (.cons (dp_ex (Ex.new hp) _ _ hu) .nil)))⟩
theorem ev_eqDD (h1 : EvD K ta σ H d) (h2 : EvD K tb σ H d) (hs : SeqAt.shaped d = true) : Ev (tOp (rEqD K) ta tb) σ H (.bl true) := fun H1 e Q q => h1 H1 e _ fun v H2 e2 hv => h2 H2 (e.trans e2) _ fun u H3 e3 hu =>
  ⟨d, d, dp_ex e3 d v hv, hu, hs, hs, by rw [SeqAt.eqv_refl d (SeqAt.canLay_of_shaped hs)]; exact q H3 (e2.trans e3)⟩
theorem ev_neDD (h1 : EvD K ta σ H d) (h2 : EvD K tb σ H d) (hs : SeqAt.shaped d = true) : Ev (tOp (rNeD K) ta tb) σ H (.bl false) := fun H1 e Q q => h1 H1 e _ fun v H2 e2 hv => h2 H2 (e.trans e2) _ fun u H3 e3 hu =>
  ⟨d, d, dp_ex e3 d v hv, hu, hs, hs, by rw [SeqAt.eqv_refl d (SeqAt.canLay_of_shaped hs)]; exact q H3 (e2.trans e3)⟩
end
theorem shaped_pair (ns ms : List Int) : SeqAt.shaped (.tuple [.list (ns.map .int), .list (ms.map .int)]) = true := by
  unfold SeqAt.shaped
  have h1 := canLay_ints ns
  have h2 := depth_ints ns
  have h3 := canLay_ints ms
  have h4 := depth_ints ms
  rw [Bool.and_eq_true, decide_eq_true_iff]
  refine ⟨by simp only [PyData.canLay0, PyData.canLayAll0, h1, h3, Bool.and_self], ?_⟩
  simp only [PyData.depth, PyData.depthAll]
  omega

/-! ### calls with keywords, defaults -/
theorem kwAllN {K : PySem.W.Frag} {D : Addr} : ∀ p ∈ ([] : List (Str × V)), ∃ u, PySem.W.nsIn K D p.1 = some (some u) ∧ RelV p.2 u := fun p hp => by cases hp
theorem kwAllC {K : PySem.W.Frag} {D : Addr} {q : Str × V} {l : List (Str × V)} (h : ∃ u, PySem.W.nsIn K D q.1 = some (some u) ∧ RelV q.2 u) (hl : ∀ p ∈ l, ∃ u, PySem.W.nsIn K D p.1 = some (some u) ∧ RelV p.2 u) : ∀ p ∈ q :: l, ∃ u, PySem.W.nsIn K D p.1 = some (some u) ∧ RelV p.2 u := fun p hp => by
  rcases List.mem_cons.mp hp with rfl | hp
  · exact h
  · exact hl p hp
theorem kwAll1 {K : PySem.W.Frag} {D : Addr} {q : Str × V} (h : ∃ u, PySem.W.nsIn K D q.1 = some (some u) ∧ RelV q.2 u) : ∀ p ∈ [q], ∃ u, PySem.W.nsIn K D p.1 = some (some u) ∧ RelV p.2 u := fun p hp => by
  rcases List.mem_cons.mp hp with rfl | hp
  · exact h
  · cases hp
section
variable {K : PySem.W.Frag} {x qual : Str} {params : Arguments} {body : List Stmt} {scope : Scope} {dvs : List V} {kws : List (Str × V)} {f : Addr} {fd : FuncData} {ps : List Str}
/-- f(a, .., k = v, ..), nothing left to a default, no defaults of place -/
theorem fund_kb0 {g : List Value → List Value → List Value} {gV : List V → List V → List V} (F : FunD K x qual params body scope [] kws f fd) (n : Nat) (ks : List Str)
    (hrel : ∀ {vs : List V} {us : List Value} {zs : List V} {ws : List Value}, Vals vs us → Vals zs ws → Vals (gV vs zs) (g us ws))
    (h : ∀ (kV doc pm : Value) (an : Option Addr) (cdv ct : Value) (us ws : List Value), us.length = n → ws.length = ks.length → bindArgs (PySem.W.fnOf x qual params body scope .none kV doc pm an cdv ct) ⟨us, ks.zip ws⟩ = pure (ps.zip (g us ws))) :
    KBn K fd ps n ks g gV := by
  obtain ⟨oc, od, dV, kV, doc, pm, an, cdv, ct, osl, rfl, lk, hcd, hD, hK⟩ := F.ex
  rcases hD with ⟨_, rfl⟩ | ⟨e, _⟩
  · exact ⟨fun s us ws X l1 l2 => .of_eq (h kV doc pm an cdv ct us ws l1 l2), hrel⟩
  · exact absurd rfl e
/-- the same of a def with defaults of place -/
theorem fund_kb1 {g : List Value → List Value → List Value} {gV : List V → List V → List V} (F : FunD K x qual params body scope dvs kws f fd) (hd : dvs ≠ []) (n : Nat) (ks : List Str)
    (hrel : ∀ {vs : List V} {us : List Value} {zs : List V} {ws : List Value}, Vals vs us → Vals zs ws → Vals (gV vs zs) (g us ws))
    (h : ∀ (T : Addr) (kV doc pm : Value) (an : Option Addr) (cdv ct : Value) (us its ws : List Value), us.length = n → its.length = dvs.length → ws.length = ks.length →
      ∃ k, bindArgs (PySem.W.fnOf x qual params body scope (.ref T) kV doc pm an cdv ct) ⟨us, ks.zip ws⟩ = seqItems? (.ref T) >>= k ∧ k (some its.toArray) = pure (ps.zip (g us ws))) :
    KBn K fd ps n ks g gV := by
  obtain ⟨oc, od, dV, kV, doc, pm, an, cdv, ct, osl, rfl, lk, hcd, hD, hK⟩ := F.ex
  rcases hD with ⟨e, _⟩ | ⟨_, T, o, its, m, rfl, lT, oT, rT⟩
  · exact absurd e hd
  · refine ⟨fun s us ws X l1 l2 => ?_, hrel⟩
    obtain ⟨k, e1, e2⟩ := h T kV doc pm an cdv ct us its ws l1 rT.length.symm l2
    refine BindsTo.of_looks fun M => ?_
    rw [e1]
    exact looks_items X lT oT (.of_pure e2)
end

/-! ### x == y by x's own method -/
def rEqO (C : Addr) (sp : Sp) (E : XK) (K : PySem.W.Frag) : R2 := fun x y H Q => ∃ (a dx : Addr) (fs : List (Str × V)) (t : Value), x = .ref a ∧ H a = some (.ins C dx fs) ∧ TyX K H y t ∧ PySem.W.notFirst K C t = true ∧ sp [.ref a, y] H (fun v H' => (∃ b, v = .bl b) ∧ Q v H') E
structure TyC (K : PySem.W.Frag) (C : Addr) : Prop where
  ha : PySem.W.findIn K (.ref C) "__class__" = some (some (.builtin "object.__class__"))
  hn : PySem.W.specialIn K (.builtin "object.__class__") "__get__" = some (some (.builtin "getset_descriptor.__get__"))
  ht : PySem.W.takesIn K (.builtin "object.__class__") = some true
  hm : PySem.W.mroIn K C (.type "object") = some true
theorem TyC.ins {K : PySem.W.Frag} {C : Addr} (t : TyC K C) (c : Cls K C) {H : Hp} {a dx : Addr} {fs : List (Str × V)} (h : H a = some (.ins C dx fs)) : ∀ H1, Ex H H1 → TyX K H1 (.ref a) (.ref C) := fun H1 e => .base (.ins (e _ _ h) c t.ha t.hn t.ht t.hm)
/-- isinstance(x, C), C an own class -/
theorem ev_isiO {K : PySem.W.Frag} {σ : L2.St} {H : Hp} {ta : TE} {x : V} {t : Value} {C : Addr} {b : Bool} (ha : Ev ta σ H x) (ht : ∀ H1, Ex H H1 → TyX K H1 x t) (hk : PySem.W.kitOne K t (.ref C) = some b) : Ev (tCB (rIsi K) (tCons ta (tCons (tC (.ref C)) tNil))) σ H (.bl b) :=
  ev_cb (ea_cons ha (ea_cons ev_c ea_nil)) fun H1 e Q q => ⟨x, .ref C, t, _, b, rfl, .own C, ht H1 e, hk, q H1 (Ex.refl H1)⟩
theorem ev_eqO {K : PySem.W.Frag} {σ : L2.St} {H : Hp} {ta tb : TE} {C a dx : Addr} {fs : List (Str × V)} {y : V} {t : Value} {sp : Sp} {E : XK} {b : Bool} (ha : Ev ta σ H (.ref a)) (hx : H a = some (.ins C dx fs)) (hb : Ev tb σ H y) (ht : ∀ H1, Ex H H1 → TyX K H1 y t) (hn : PySem.W.notFirst K C t = true) (hs : SpV sp [.ref a, y] H (.bl b)) : Ev (tOp (rEqO C sp E K) ta tb) σ H (.bl b) := fun H1 e Q q =>
  ha H1 e _ fun H2 e2 => hb H2 (e.trans e2) _ fun H3 e3 => ⟨a, dx, fs, t, rfl, ((e.trans e2).trans e3) _ _ hx, ht H3 ((e.trans e2).trans e3), hn, hs H3 ((e.trans e2).trans e3) _ (fun H4 e4 => ⟨⟨b, rfl⟩, q H4 ((e2.trans e3).trans e4)⟩) E⟩
theorem op_eqO {X : Cx} {CX : CXT} {C f : Addr} {fd : FuncData} {ps : List Str} {sp : Sp} {E : XK} {n : Nat} (F : FnOk X.prog X.w X.K X.mg X.base CX n f fd ps sp) (hs : PySem.W.findIn X.K (.ref C) "__eq__" = some (some (.ref f))) (hf : PySem.W.isFn X.K (.ref f) = true)
    (hb : Binds X.K fd ps []) (hx : Passes CX X E) (hr : Room n X.A) : OpR X (compareOp .Eq) (rEqO C sp E X.K) := by
  intro pins s σ H x y v u Q I rx ry hq
  obtain ⟨a, dx, fs, t, rfl, ha, ty, hn, hsp⟩ := hq
  cases rx
  obtain ⟨mA, J, _⟩ := ins_get I.hok ha
  obtain ⟨od, J, _⟩ := J.look
  obtain ⟨Pt, Z, hP, _⟩ := kit_of I ry ty
  obtain ⟨m, hF⟩ := I.fr
  show wpAny (model X.prog X.w) X.A (richCompare .Eq (.ref a) u) (EP X pins σ Q) X.xe s
  refine PySem.W.cmp_K (op := .Eq) (tb := t) hr.units0 hF I.ok.mod.kin J (Z.ty _ _ I.kIn hP) hn hs hf ?_
  have hl := F.len _ _ _ _ hsp
  have r2 : Vals [V.ref a, y] [Value.ref a, u] := .cons rfl (.cons ry .nil)
  refine wpAny_call (codeAny_mono (F.run X.A X.stack s H ⟨[.ref a, u], []⟩ [.ref a, u] [.ref a, y] _ E hr I.env0 (by
    have := hb s [.ref a, u] I.kIn (by simpa using hl)
    simpa using this) r2 hsp) fun r s' hq => ?_)
  cases r with
  | error e => exact hx pins σ H s e s' I hq
  | ok fl =>
    cases fl with
    | ret w =>
      obtain ⟨z, H', I', rz, ⟨b, ez⟩, q⟩ := I.after hq
      subst ez
      cases rz
      exact ⟨.bl b, H', I', rfl, q⟩
    | next => exact False.elim hq
    | brk => exact False.elim hq
    | cont => exact False.elim hq
theorem kit_cls' {K : PySem.W.Frag} {C : Addr} {t : Value} (hd : PySem.W.hasDictIn K C = true) (ht : PySem.W.typeIn K (.ref C) = some (.type "type")) (hs : PySem.W.subIn K t (.ref C) = some false) (hn : (t == Value.ref C) = false) : PySem.W.kitOne K t (.ref C) = some false ∧ PySem.W.notFirst K C t = true := by
  obtain ⟨cd, hc, _⟩ := PySem.W.any_some hd
  refine ⟨?_, ?_⟩
  · unfold PySem.W.kitOne PySem.W.kitCls
    rw [hn, if_neg (by decide)]
    show (if ((PySem.W.clsIn K C).isSome && PySem.W.typeIn K (.ref C) == some (.type "type")) = true then PySem.W.subIn K t (.ref C) else none) = _
    rw [hc, ht, if_pos (by simp), hs]
  · unfold PySem.W.notFirst
    rw [hs, hn]
    simp
theorem kit_ty {K : PySem.W.Frag} {C : Addr} {T : String} (hd : PySem.W.hasDictIn K C = true) (ht : PySem.W.typeIn K (.ref C) = some (.type "type")) (hs : PySem.W.subIn K (.type T) (.ref C) = some false) : PySem.W.kitOne K (.type T) (.ref C) = some false ∧ PySem.W.notFirst K C (.type T) = true := kit_cls' hd ht hs rfl
theorem kit_self {K : PySem.W.Frag} {C : Addr} : PySem.W.kitOne K (.ref C) (.ref C) = some true ∧ PySem.W.notFirst K C (.ref C) = true := by
  refine ⟨?_, ?_⟩
  · unfold PySem.W.kitOne
    rw [if_pos (by simp)]
  · unfold PySem.W.notFirst
    simp
theorem kit_ref {K : PySem.W.Frag} {C D : Addr} (hd : PySem.W.hasDictIn K C = true) (ht : PySem.W.typeIn K (.ref C) = some (.type "type")) (hz : PySem.W.subIn K (.ref C) (.ref C) = some true) (hs : PySem.W.subIn K (.ref D) (.ref C) = some false) : PySem.W.kitOne K (.ref D) (.ref C) = some false ∧ PySem.W.notFirst K C (.ref D) = true :=
  kit_cls' hd ht hs (by
    cases h : (Value.ref D == Value.ref C) with
    | false => rfl
    | true =>
      have e := eq_of_beq h
      injection e with e
      subst e
      rw [hz] at hs
      cases hs)

/-! ### plain values: numbers, truth values, None, texts, lists of numbers -/
inductive Cel (H : Hp) : V → PyData → Prop where
  | int (i : Int) : Cel H (.int i) (.int i)
  | bl (b : Bool) : Cel H (.bl b) (.bool b)
  | non : Cel H .non .none
  | str (y : Str) (h : PyData.strOk y = true) : Cel H (.str y) (.str y)
  | lst {q : Addr} {ns : List Int} (h : H q = some (.lst (ns.map V.int))) (hl : ns.length ≤ 1000) : Cel H (.ref q) (.list (ns.map .int))
def isB : PyData → Bool
  | .bool _ => true
  | _ => false
section
variable {K : PySem.W.Frag} {H H' : Hp} {v : V} {d : PyData}
theorem Cel.ex (h : Cel H v d) (e : Ex H H') : Cel H' v d := by
  cases h with
  | int i => exact .int i
  | bl b => exact .bl b
  | non => exact .non
  | str y hy => exact .str y hy
  | lst hq hl => exact .lst (e _ _ hq) hl
theorem Cel.dp (h : Cel H v d) : Dp K H v d := by
  cases h with
  | int i => exact .int i
  | bl b => exact .bl b
  | non => exact .non
  | str y hy => exact .str y
  | lst hq hl => exact .lst (sq_of hq) (dp_ints _)
theorem Cel.shaped (h : Cel H v d) : SeqAt.shaped d = true := by
  cases h with
  | int i => rfl
  | bl b => rfl
  | non => rfl
  | str y hy =>
    unfold SeqAt.shaped
    rw [Bool.and_eq_true, decide_eq_true_iff]
    exact ⟨by simpa [PyData.canLay0] using hy, by simp only [PyData.depth]; omega⟩
  | lst hq hl => exact shaped_ints _
theorem Cel.ty (h : Cel H v d) : ∃ t : String, (∀ H1, Ex H H1 → TyX K H1 v (.type t)) ∧ kitB t "bool" = some (isB d) := by
  cases h with
  | int i => exact ⟨"int", fun _ _ => .base (.int _), by show kitB "int" "bool" = some false; decide +kernel⟩
  | bl b => exact ⟨"bool", fun _ _ => .base (.bl _), by show kitB "bool" "bool" = some true; decide +kernel⟩
  | non => exact ⟨"NoneType", fun _ _ => .base .non, by show kitB "NoneType" "bool" = some false; decide +kernel⟩
  | str y hy => exact ⟨"str", fun _ _ => .base (.str _), by show kitB "str" "bool" = some false; decide +kernel⟩
  | lst hq hl => exact ⟨"list", isi_lst hq, by show kitB "list" "bool" = some false; decide +kernel⟩
end
theorem Cel.linv {H : Hp} {v : V} {es : List PyData} (h : Cel H v (.list es)) : ∃ (q : Addr) (ns : List Int), v = .ref q ∧ es = ns.map PyData.int ∧ H q = some (.lst (ns.map V.int)) ∧ ns.length ≤ 1000 := by
  cases h with
  | lst hq hl => exact ⟨_, _, rfl, rfl, hq, hl⟩
theorem Cel.self {H : Hp} {v : V} {d : PyData} (h : Cel H v d) : PyData.eqv d d = true := SeqAt.eqv_refl d (SeqAt.canLay_of_shaped h.shaped)
inductive Cels (H : Hp) : List V → List PyData → Prop where
  | nil : Cels H [] []
  | cons {v : V} {d : PyData} {vs : List V} {ds : List PyData} (h : Cel H v d) (r : Cels H vs ds) : Cels H (v :: vs) (d :: ds)
theorem Cels.ex {H H' : Hp} (e : Ex H H') : ∀ {vs : List V} {ds : List PyData}, Cels H vs ds → Cels H' vs ds
  | _, _, .nil => .nil
  | _, _, .cons h r => .cons (h.ex e) (Cels.ex e r)
theorem Cels.len {H : Hp} : ∀ {vs : List V} {ds : List PyData}, Cels H vs ds → vs.length = ds.length
  | _, _, .nil => rfl
  | _, _, .cons h r => congrArg Nat.succ (Cels.len r)
theorem Cels.at {H : Hp} : ∀ {vs : List V} {ds : List PyData}, Cels H vs ds → ∀ {i : Nat} {d : PyData}, ds[i]? = some d → ∃ v, vs[i]? = some v ∧ Cel H v d
  | _, _, .nil, _, _, h => by simp at h
  | _, _, .cons h r, 0, _, e => by cases e; exact ⟨_, rfl, h⟩
  | _, _, .cons h r, i + 1, _, e => Cels.at (i := i) r e
theorem Cels.set {H : Hp} {v : V} {d : PyData} (hv : Cel H v d) : ∀ {vs : List V} {ds : List PyData}, Cels H vs ds → ∀ i, Cels H (vs.set i v) (ds.set i d)
  | _, _, .nil, _ => .nil
  | _, _, .cons h r, 0 => .cons hv r
  | _, _, .cons h r, i + 1 => .cons h (Cels.set hv r i)
def eqL : List PyData → List PyData → Bool
  | d :: ds, e :: es => PyData.eqv d e && eqL ds es
  | _, _ => true
theorem eqL_self {H : Hp} : ∀ {vs : List V} {ds : List PyData}, Cels H vs ds → eqL ds ds = true
  | _, _, .nil => rfl
  | _, _, .cons h r => by show (_ && _) = true; rw [h.self, eqL_self r]; rfl
theorem eqL_set {H : Hp} {e : PyData} : ∀ {vs : List V} {ds : List PyData}, Cels H vs ds → ∀ {i : Nat} {d : PyData}, ds[i]? = some d → eqL ds (ds.set i e) = PyData.eqv d e
  | _, _, .nil, _, _, h => by simp at h
  | _, _, .cons h r, 0, _, z => by
    cases z
    show (_ && eqL _ _) = _
    rw [eqL_self r, Bool.and_true]
  | _, _, .cons h r, i + 1, _, z => by
    show (_ && eqL _ (List.set _ i e)) = _
    rw [h.self, eqL_set r z, Bool.true_and]

/-- what the top has left -/
structure TX (K : PySem.W.Frag) (mg : Str → Option Value) where
  a_Settings_init : Addr
  d_Settings_init : FuncData
  F_Settings_init : FunD K "__init__" "Settings.__init__" (defArgs s_Settings_init) (defBody s_Settings_init) (defScope s_Settings_init) [] [("block_sizes", V.non), ("fixed_order", V.int 4), ("linear_order", V.int 0), ("search", V.bl false), ("precision", V.int 12), ("partition_order", V.int 4), ("wide", V.bl false), ("stereo", V.bl true), ("wasted", V.bl true), ("seek_interval", V.int 0), ("vendor", V.str "")] a_Settings_init d_Settings_init
  k2_block_sizes_fixed_order_linear_order_search_precision_partition_order_wide_stereo_wasted_seek_interval_vendor_Settings_init : KBn K d_Settings_init ["self", "block_size", "block_sizes", "fixed_order", "linear_order", "search", "precision", "partition_order", "wide", "stereo", "wasted", "seek_interval", "vendor"] 2 ["block_sizes", "fixed_order", "linear_order", "search", "precision", "partition_order", "wide", "stereo", "wasted", "seek_interval", "vendor"] (fun us ws => us ++ ws) (fun us ws => us ++ ws)
  e2_Settings_init : List Value
  v2_Settings_init : Vals [V.non, V.int 4, V.int 0, V.bl false, V.int 12, V.int 4, V.bl false, V.bl true, V.bl true, V.int 0, V.str ""] e2_Settings_init
  b2_Settings_init : Binds K d_Settings_init ["self", "block_size", "block_sizes", "fixed_order", "linear_order", "search", "precision", "partition_order", "wide", "stereo", "wasted", "seek_interval", "vendor"] e2_Settings_init
  a_Settings_eq : Addr
  d_Settings_eq : FuncData
  F_Settings_eq : Fun K "__eq__" "Settings.__eq__" s_Settings_eq a_Settings_eq d_Settings_eq
  b_Settings_eq : Binds K d_Settings_eq ["self", "other"] []
  a_Audio_init : Addr
  d_Audio_init : FuncData
  F_Audio_init : Fun K "__init__" "Audio.__init__" s_Audio_init a_Audio_init d_Audio_init
  b_Audio_init : Binds K d_Audio_init ["self", "rate", "depth", "channels"] []
  a_law_cell : Addr
  d_law_cell : FuncData
  F_law_cell : Fun K "_law_cell" "_law_cell" s_law_cell a_law_cell d_law_cell
  b_law_cell : Binds K d_law_cell ["script", "k"] []
  g_law_cell : mg "_law_cell" = some (.ref a_law_cell)
  a_law_row : Addr
  d_law_row : FuncData
  F_law_row : Fun K "_law_row" "_law_row" s_law_row a_law_row d_law_row
  b_law_row : Binds K d_law_row ["cell", "count", "bound"] []
  g_law_row : mg "_law_row" = some (.ref a_law_row)
  a_law_settings : Addr
  d_law_settings : FuncData
  F_law_settings : Fun K "_law_settings" "_law_settings" s_law_settings a_law_settings d_law_settings
  b_law_settings : Binds K d_law_settings ["row"] []
  g_law_settings : mg "_law_settings" = some (.ref a_law_settings)
  a_law_values : Addr
  d_law_values : FuncData
  F_law_values : Fun K "_law_values" "_law_values" s_law_values a_law_values d_law_values
  b_law_values : Binds K d_law_values ["told"] []
  g_law_values : mg "_law_values" = some (.ref a_law_values)
  a_law_same : Addr
  d_law_same : FuncData
  F_law_same : Fun K "_law_same" "_law_same" s_law_same a_law_same d_law_same
  b_law_same : Binds K d_law_same ["actual", "expected"] []
  g_law_same : mg "_law_same" = some (.ref a_law_same)
  a_law_sizes : Addr
  d_law_sizes : FuncData
  F_law_sizes : Fun K "_law_sizes" "_law_sizes" s_law_sizes a_law_sizes d_law_sizes
  b_law_sizes : Binds K d_law_sizes ["cell"] []
  g_law_sizes : mg "_law_sizes" = some (.ref a_law_sizes)
  a_law_vendor : Addr
  d_law_vendor : FuncData
  F_law_vendor : Fun K "_law_vendor" "_law_vendor" s_law_vendor a_law_vendor d_law_vendor
  b_law_vendor : Binds K d_law_vendor ["cell"] []
  g_law_vendor : mg "_law_vendor" = some (.ref a_law_vendor)
  a_law_drawn : Addr
  d_law_drawn : FuncData
  F_law_drawn : Fun K "_law_drawn" "_law_drawn" s_law_drawn a_law_drawn d_law_drawn
  b_law_drawn : Binds K d_law_drawn ["script", "at"] []
  g_law_drawn : mg "_law_drawn" = some (.ref a_law_drawn)
  a_law : Addr
  d_law : FuncData
  F_law : Fun K "law" "law" s_law a_law d_law
  b_law : Binds K d_law ["script"] []
  g_law : mg "law" = some (.ref a_law)
  C_Settings : Addr
  cl_Settings : Cls K C_Settings
  g_Settings : mg "Settings" = some (.ref C_Settings)
  M_Settings : Mk K C_Settings a_Settings_init
  me_Settings_eq : Meth K C_Settings "__eq__" a_Settings_eq
  n_Settings_block_size : NoAttr K C_Settings "block_size"
  n_Settings_block_sizes : NoAttr K C_Settings "block_sizes"
  n_Settings_fixed_order : NoAttr K C_Settings "fixed_order"
  n_Settings_linear_order : NoAttr K C_Settings "linear_order"
  n_Settings_search : NoAttr K C_Settings "search"
  n_Settings_precision : NoAttr K C_Settings "precision"
  n_Settings_partition_order : NoAttr K C_Settings "partition_order"
  n_Settings_wide : NoAttr K C_Settings "wide"
  n_Settings_stereo : NoAttr K C_Settings "stereo"
  n_Settings_wasted : NoAttr K C_Settings "wasted"
  n_Settings_seek_interval : NoAttr K C_Settings "seek_interval"
  n_Settings_vendor : NoAttr K C_Settings "vendor"
  C_Audio : Addr
  cl_Audio : Cls K C_Audio
  g_Audio : mg "Audio" = some (.ref C_Audio)
  M_Audio : Mk K C_Audio a_Audio_init
  n_Audio_rate : NoAttr K C_Audio "rate"
  n_Audio_depth : NoAttr K C_Audio "depth"
  n_Audio_channels : NoAttr K C_Audio "channels"
  ty_Settings : TyC K C_Settings
  ty_Audio : TyC K C_Audio
  ki_Settings_Settings : PySem.W.kitOne K (.ref C_Settings) (.ref C_Settings) = some true
  nf_Settings_Settings : PySem.W.notFirst K C_Settings (.ref C_Settings) = true
  ki_Settings_int : PySem.W.kitOne K (.type "int") (.ref C_Settings) = some false
  nf_Settings_int : PySem.W.notFirst K C_Settings (.type "int") = true
  ki_Settings_list : PySem.W.kitOne K (.type "list") (.ref C_Settings) = some false
  nf_Settings_list : PySem.W.notFirst K C_Settings (.type "list") = true
  ki_Settings_Audio : PySem.W.kitOne K (.ref C_Audio) (.ref C_Settings) = some false
  nf_Settings_Audio : PySem.W.notFirst K C_Settings (.ref C_Audio) = true
  m_list : mg "list" = none
  m_isinstance : mg "isinstance" = none
  m_len : mg "len" = none
  m_abs : mg "abs" = none
  m_int : mg "int" = none
  m_range : mg "range" = none
  m_bool : mg "bool" = none
section
variable {P : Program} {w : World} {K : PySem.W.Frag} {mg : Str → Option Value} {base : Heap}
/-! ### int(x), bits of a number -/
theorem Ev.is {σ : L2.St} {H : Hp} {te : TE} {x y : V} (h : Ev te σ H x) (e : x = y) : Ev te σ H y := e ▸ h
theorem ev_int1 {σ : L2.St} {H : Hp} {te : TE} {i : Int} (h : Ev te σ H (.int i)) : Ev (tCB (fun xs H Q => (∃ i, xs = [V.int i] ∧ Q (V.int i) H) ∨ ∃ k, xs = [V.bl k] ∧ Q (V.int (if k = true then 1 else 0)) H) (tCons te tNil)) σ H (.int i) :=
  ev_cb (ea_cons h ea_nil) fun H1 _ Q q => .inl ⟨i, rfl, q H1 (Ex.refl H1)⟩
theorem q_augR {σ : L2.St} {H : Hp} {te : TE} {D : Ends} {tz : TS} {i : Nat} {g : Int → Int → V} {a b : Int} (h1 : σ[i]? = some (some (.int a))) (h : Ev te σ H (.int b)) (k : ∀ H1, Ex H H1 → tz D (σ.set i (some (g a b))) H1) : tSeq (tAug i te (rI0 g)) tz D σ H :=
  ⟨_, h1, h H (Ex.refl H) _ fun H1 e => ⟨a, b, rfl, rfl, k H1 e⟩⟩
theorem s_augR {σ : L2.St} {H : Hp} {te : TE} {D : Ends} {i : Nat} {g : Int → Int → V} {a b : Int} (h1 : σ[i]? = some (some (.int a))) (h : Ev te σ H (.int b)) (k : ∀ H1, Ex H H1 → D.nx (σ.set i (some (g a b))) H1) : tAug i te (rI0 g) D σ H :=
  ⟨_, h1, h H (Ex.refl H) _ fun H1 e => ⟨a, b, rfl, rfl, k H1 e⟩⟩
theorem ev_atT {K : PySem.W.Frag} {σ : L2.St} {H : Hp} {tl ti : TE} {t : Addr} {xs : List V} {n : Int} {v : V} (h : Ev tl σ H (.ref t)) (hT : SqT K H t xs) (hi : Ev ti σ H (.int n)) (ha : atI xs n = some v) : Ev (tOp (rIxT K) tl ti) σ H v := fun H1 e Q q =>
  h H1 e _ fun H2 e2 => hi H2 (e.trans e2) _ fun H3 e3 => ⟨t, xs, n, v, rfl, rfl, ex_t ((e.trans e2).trans e3) hT, ha, q H3 (e2.trans e3)⟩
local macro_rules | `(tactic| walk_at "side") => `(tactic| first
  | omega
  | (show CDivW _ _; exact ⟨by omega, by decide⟩)
  | (show CDivW _ _; exact wide_div (b := 80) (by omega) (by omega) (by decide) (by decide)))
local macro_rules | `(tactic| walk_at "evown") => `(tactic| (refine' ev_int1 ?h1; (case h1 => walk_at "ev")))
/-- numbers from 0 on, as such -/
def cs (ds : List Nat) : List Int := ds.map fun d : Nat => (d : Int)
theorem cs_of {ns : List Int} {b : Int} (h : ∀ n ∈ ns, 0 ≤ n ∧ n < b) : ∃ ds : List Nat, ns = cs ds ∧ ds.length = ns.length ∧ ∀ d ∈ ds, (d : Int) < b := by
  refine ⟨ns.map Int.toNat, ?_, List.length_map .., fun d hd => ?_⟩
  · unfold cs
    rw [List.map_map]
    conv => lhs; rw [← List.map_id ns]
    refine List.map_congr_left fun n hn => ?_
    have := (h n hn).1
    show n = ((n.toNat : Nat) : Int)
    omega
  · obtain ⟨n, hn, rfl⟩ := List.mem_map.mp hd
    have := h n hn
    omega
theorem cs_len (ds : List Nat) : (cs ds).length = ds.length := List.length_map ..
theorem cs_at {ds : List Nat} {i : Nat} {d : Nat} (h : ds[i]? = some d) : (cs ds)[i]? = some (d : Int) := by unfold cs; rw [List.getElem?_map, h]; rfl
theorem cs_take (ds : List Nat) (i : Nat) : (cs ds).take i = cs (ds.take i) := by unfold cs; rw [List.map_take]
theorem cs_drop (ds : List Nat) (i : Nat) : (cs ds).drop i = cs (ds.drop i) := by unfold cs; rw [List.map_drop]
theorem cs_append (ds es : List Nat) : cs (ds ++ es) = cs ds ++ cs es := List.map_append ..

theorem ev_all {σ : L2.St} {H : Hp} {te : TE} {bs : List Bool} {b : Bool} (h : EvS K te σ H (bs.map V.bl)) (hb : bs.all id = b) : Ev (tCB (rAll K) (tCons te tNil)) σ H (.bl b) := fun H1 e Q q => h H1 e _ fun p H2 e2 hp => ⟨p, bs, rfl, hp, by rw [hb]; exact q H2 e2⟩

def sp_cell (K : PySem.W.Frag) : Sp := fun vs H Q _ => ∃ (a : Addr) (ns : List Int) (k : Int), vs = [.ref a, .int k] ∧ SqL K H a (ns.map V.int) ∧ 0 ≤ k ∧ RetV (.int (cellI ns k)) H Q
theorem ok_law_cell (T : TX K mg) : FnOk P w K mg base CX0 1 T.a_law_cell T.d_law_cell ["script", "k"] (sp_cell K) := by
  refine T.F_law_cell.ok sc_law_cell (fun vs H Q E h => by obtain ⟨a, ns, k, rfl, _⟩ := h; rfl) (fun cdv A outer s H vs Q E hr h => ?_)
  obtain ⟨a, ns, k, rfl, hS, hk, q⟩ := h
  refine ⟨_, (pss_cons (ps_if (pt_cmpR op_lt (pv 1) (pe_callB (r := rLenS K) call_len_seq (by rfl) T.m_len PySem.boot_len (pa_cons (pv 0) pa_nil)) (nomark _)) (pss_one (ps_ret (pe_ix (r := rIxL K) ix_list (pv 0) (pv 1) (fun _ _ => rfl)))) pss_nil)
      (pss_one (ps_ret pe_int))), ?_⟩
  have hl := (ev_lenS (K := K) (Ev.s (te := tVar 0) (σ := start ["script", "k"] [.ref a, .int k]) (ev_var rfl) hS))
  refine q_when (et_test (ev_I0 (ev_var rfl) hl)) ?_ ?_
  · intro hb H1 e1
    have hb : k < ns.length := by
      have := of_decide_eq_true hb
      rwa [List.length_map] at this
    refine s_ret (v := .int (cellI ns k)) (ev_ixS (i := 0) (n := k) (Ev.s (ev_var rfl) (ex_l e1 hS)) (ev_var rfl) ?_) fun H2 e2 => q H2 (e1.trans e2)
    exact at_of (j := k.toNat) (by omega) (at_int (cellI_in hk hb))
  · intro hb H1 e1
    have hb : ¬ k < ns.length := by
      have := of_decide_eq_false hb
      rwa [List.length_map] at this
    walk_at "ret"
    intro H2 e2
    exact ret_eq q (e1.trans e2) (by rw [cellI_out hb])
theorem ev_cell {σ : L2.St} {H : Hp} {ta tk : TE} {E : XK} {ns : List Int} {k : Int} {a : Addr} (ha : Ev ta σ H (.ref a)) (hS : SqL K H a (ns.map V.int)) (hk : Ev tk σ H (.int k)) (h0 : 0 ≤ k) : Ev (tCall (sp_cell K) [] E (tCons ta (tCons tk tNil))) σ H (.int (cellI ns k)) :=
  ev_call (ea_cons ha (ea_cons hk ea_nil)) fun H1 e Q q _ => ⟨a, ns, k, rfl, ex_l e hS, h0, q⟩
local macro_rules | `(tactic| walk_at "evown") => `(tactic| (refine' ev_cell ?h1 ?h2 ?h3 ?h4; (case h1 => exact ev_var rfl); (case h2 => walk_at "sq"); (case h3 => walk_at "ev"); (case h4 => walk_at "side")))

/-! ### abs, int of a bool, the law's rows -/
theorem ev_abs {σ : L2.St} {H : Hp} {te : TE} {i : Int} (h : Ev te σ H (.int i)) : Ev (tCB (fun xs H Q => ∃ i, xs = [V.int i] ∧ Q (V.int (if i < 0 then -i else i)) H) (tCons te tNil)) σ H (.int (if i < 0 then -i else i)) :=
  ev_cb (ea_cons h ea_nil) fun H1 _ Q q => ⟨i, rfl, q H1 (Ex.refl H1)⟩
theorem ev_intB {σ : L2.St} {H : Hp} {te : TE} {b : Bool} (h : Ev te σ H (.bl b)) : Ev (tCB (fun xs H Q => (∃ i, xs = [V.int i] ∧ Q (V.int i) H) ∨ ∃ k, xs = [V.bl k] ∧ Q (V.int (if k = true then 1 else 0)) H) (tCons te tNil)) σ H (.int (if b = true then 1 else 0)) :=
  ev_cb (ea_cons h ea_nil) fun H1 _ Q q => .inr ⟨b, rfl, q H1 (Ex.refl H1)⟩
def sp_lrow : Sp := fun vs H Q _ => ∃ (c : Int) (n : Nat) (b : Int), vs = [.int c, .int (n : Int), .int b] ∧ n ≤ 1000 ∧ 0 < b ∧ b ≤ 2 ^ 50 ∧ ∀ p (ns : List Int) H', H p = none → Ex H H' → H' p = some (.lst (ns.map V.int)) → ns.length = n → (∀ x ∈ ns, 0 ≤ x ∧ x < b) → Q (.ref p) H'
theorem ok_law_row (T : TX K mg) : FnOk P w K mg base CX0 1 T.a_law_row T.d_law_row ["cell", "count", "bound"] sp_lrow := by
  refine T.F_law_row.ok sc_law_row (fun vs H Q E h => by obtain ⟨c, n, b, rfl, _⟩ := h; rfl) (fun cdv A outer s0 H vs Q E hr h => ?_)
  obtain ⟨c, n, b, rfl, hn, hb0, hb1, k⟩ := h
  refine ⟨_, (pss_cons (ps_set (i := 3) sc_law_row.nd rfl (Or.inl rfl) (pe_callB call_abs (by rfl) T.m_abs PyProof.Rows.boot_abs (pa_cons (pe_callTy call_int1 (by rfl) T.m_int PyProof.Rows.boot_int (pa_cons (pv 0) pa_nil)) pa_nil)))
      (pss_cons (ps_set (i := 4) sc_law_row.nd rfl (Or.inl rfl) (pe_op op_add (pe_op op_mod (pe_callTy call_int1 (by rfl) T.m_int PyProof.Rows.boot_int (pa_cons (pv 0) pa_nil)) pe_int) pe_int))
      (pss_cons (ps_set (i := 5) sc_law_row.nd rfl (Or.inl rfl) (pe_lst pa_nil))
      (pss_cons (ps_for PassesOwn.never rfl (pi_range1 (by rfl) T.m_range (pa_cons (pv 1) pa_nil)) (pg_name (i := 6) sc_law_row.nd rfl (Or.inl rfl)) (pss_one (ps_if (pt_cmpR op_ge (pv 3) (pv 2) (nomark _)) (pss_cons (ps_expr (pe_bm PySem.F.plainAttrs_list PySem.F.slot_list_append PySem.F.type_list_append mt_append (pv 5) (pa_cons (pe_op op_mod (pe_callTy call_int1 (by rfl) T.m_int PyProof.Rows.boot_int (pa_cons (pv 3) pa_nil)) (pv 2)) pa_nil)))
          (pss_one (ps_set (i := 3) sc_law_row.nd rfl (Or.inl rfl) (pe_op op_fdivW (pv 3) (pv 2))))) (pss_cons (ps_set (i := 4) sc_law_row.nd rfl (Or.inl rfl) (pe_op op_mod (pe_callTy call_int1 (by rfl) T.m_int PyProof.Rows.boot_int (pa_cons (pe_op op_add (pe_op op_add (pe_op op_mul (pv 4) pe_int) (pe_op op_mul pe_int (pv 6))) pe_int) pa_nil)) pe_int))
          (pss_one (ps_expr (pe_bm PySem.F.plainAttrs_list PySem.F.slot_list_append PySem.F.type_list_append mt_append (pv 5) (pa_cons (pe_op op_mod (pe_callTy call_int1 (by rfl) T.m_int PyProof.Rows.boot_int (pa_cons (pe_op op_fdivW (pe_op op_mul (pv 4) pe_int) pe_int) pa_nil)) (pv 2)) pa_nil))))))))
      (pss_one (ps_ret (pv 5))))))), ?_⟩
  have hlog : b.natAbs.log2 < 9000 := by
    have : b.natAbs < 2 ^ 51 := by omega
    have := (Nat.log2_lt (n := b.natAbs) (k := 51) (by omega)).mpr this
    omega
  refine q_asg (ev_abs (ev_int1 (ev_var rfl))) fun H1 e1 => ?_
  refine q_asg (ev_I0 (ev_I (ev_int1 (ev_var rfl)) ev_c (by decide)) ev_c) fun H2 e2 => ?_
  refine q_asgL (xs := []) (el_lst ea_nil (by decide)) fun p H3 hp3 e3 g3 => ?_
  have hp := fresh_back (e1.trans e2) hp3
  have e13 := (e1.trans e2).trans e3
  generalize (if c < 0 then -c else c) = re0
  generalize c % 1000003 + 1 = mx0
  refine q_forR1 (n := (n : Int)) (ea_cons (ev_var rfl) ea_nil) (by omega) (fun i σ' H' => ∃ (re mx : Int) (ns : List Int) (z6 : Option V), σ' = [some (.int c), some (.int (n : Int)), some (.int b), some (.int re), some (.int mx), some (.ref p), z6] ∧ Ex H H' ∧ H' p = some (.lst (ns.map V.int)) ∧ ns.length = i ∧ (∀ x ∈ ns, 0 ≤ x ∧ x < b)) (fun H4 e4 => ⟨re0, mx0, [], none, rfl, e13.trans e4, e4 _ _ g3, rfl, fun x hx => by cases hx⟩) ?_ ?_
  · rintro i σ' H4 hi ⟨re, mx, ns, z6, rfl, ex, gp, hnl, hns⟩
    have snoc : ∀ x : Int, 0 ≤ x → x < b → ∀ y ∈ ns ++ [x], 0 ≤ y ∧ y < b := fun x h0 h1 y hy => by
      rcases List.mem_append.mp hy with h | h
      · exact hns y h
      · rw [List.mem_singleton.mp h]
        exact ⟨h0, h1⟩
    have big : ns.length < 100000 := by omega
    refine s_if (et_test (ev_I0 (ev_var rfl) (ev_var rfl))) (fun _ H5 e5 => ?_) (fun _ H5 e5 => ?_)
    · refine q_app (v := .int (re % b)) (e5 _ _ gp) (ev_var rfl) (ev_I (ev_int1 (ev_var rfl)) (ev_var rfl) hb0) (by rw [List.length_map]; exact big) fun H6 e6 => ?_
      refine s_asg (v := .int (re / b)) (ev_I (ev_var rfl) (ev_var rfl) ⟨hb0, hlog⟩) fun H7 e7 => ⟨re / b, mx, ns ++ [re % b], _, rfl, (Ex.mut (ex.trans (e5.trans e6)) hp).trans e7, e7 _ _ (by rw [upd_same, List.map_append]; rfl), by rw [List.length_append, hnl]; rfl, snoc _ (Int.emod_nonneg _ (by omega)) (Int.emod_lt_of_pos _ hb0)⟩
    · obtain ⟨mx1, hmx⟩ : ∃ mx1, (mx * 48271 + 11 * (i : Int) + 7) % 2147483647 = mx1 := ⟨_, rfl⟩
      refine q_asg (v := .int mx1) (Ev.is (ev_I (ev_int1 (ev_I0 (ev_I0 (ev_I (ev_var rfl) ev_c (.inr (by decide))) (ev_I ev_c (ev_var rfl) (.inl (by decide)))) ev_c)) ev_c (by decide)) (congrArg V.int hmx)) fun H6 e6 => ?_
      refine s_app (v := .int ((mx1 * 2862933555777941757 / 1024) % b)) ((e5.trans e6) _ _ gp) (ev_var rfl) (ev_I (ev_int1 (ev_I (ev_I (ev_var rfl) ev_c (.inr (by decide))) ev_c ⟨by decide, by decide⟩)) (ev_var rfl) hb0) (by rw [List.length_map]; exact big) fun H7 e7 => ⟨re, mx1, ns ++ [(mx1 * 2862933555777941757 / 1024) % b], _, rfl, Ex.mut (ex.trans ((e5.trans e6).trans e7)) hp, by rw [upd_same, List.map_append]; rfl, by rw [List.length_append, hnl]; rfl, snoc _ (Int.emod_nonneg _ (by omega)) (Int.emod_lt_of_pos _ hb0)⟩
  · rintro σ' H4 ⟨re, mx, ns, z6, rfl, ex, gp, hnl, hns⟩
    rw [Int.toNat_natCast] at hnl
    exact s_ret (v := .ref p) (ev_var rfl) fun H5 e5 => k p ns H5 hp (ex.trans e5) (e5 _ _ gp) hnl hns

/-! ### objects: fields, methods, making -/
section
variable {K : PySem.W.Frag} {σ : L2.St} {H : Hp} {to te tv : TE} {a C : Addr} {dx : Addr} {fs : List (Str × V)} {f m : Str} {v : V} {D : Ends} {tz : TS} {sp : Sp} {dvs vs : List V} {E : XK} {t : TA}
theorem ev_fld (c : Cls K C) (hn : NoAttr K C f) (h : Ev to σ H (.ref a)) (hx : H a = some (.ins C dx fs)) (hl : fs.lookup f = some v) : Ev (tFld K to f) σ H v := fun H1 e Q q => h H1 e _ fun H2 e2 => ⟨a, C, dx, fs, v, rfl, (e.trans e2) _ _ hx, c, hn, hl, q H2 e2⟩
theorem q_fld (c : Cls K C) (hn : NoAttr K C f) (hv : Ev tv σ H v) (h : Ev to σ H (.ref a)) (hx : H a = some (.ins C dx fs)) (hl : fs.length < 1000) (k : ∀ H1, Ex H H1 → tz D σ (upd H1 a (.ins C dx (putF f v fs)))) : tSeq (sFld K to tv f) tz D σ H :=
  hv H (Ex.refl H) _ fun H1 e1 => h H1 e1 _ fun H2 e2 => ⟨a, C, dx, fs, rfl, (e1.trans e2) _ _ hx, c, hn, hl, k H2 (e1.trans e2)⟩
theorem s_fld (c : Cls K C) (hn : NoAttr K C f) (hv : Ev tv σ H v) (h : Ev to σ H (.ref a)) (hx : H a = some (.ins C dx fs)) (hl : fs.length < 1000) (k : ∀ H1, Ex H H1 → D.nx σ (upd H1 a (.ins C dx (putF f v fs)))) : sFld K to tv f D σ H :=
  hv H (Ex.refl H) _ fun H1 e1 => h H1 e1 _ fun H2 e2 => ⟨a, C, dx, fs, rfl, (e1.trans e2) _ _ hx, c, hn, hl, k H2 (e1.trans e2)⟩
theorem q_fldL {xs : List V} (c : Cls K C) (hn : NoAttr K C f) (hv : EvL tv σ H xs) (h : ∀ H1, Ex H H1 → Ev to σ H1 (.ref a)) (hx : H a = some (.ins C dx fs)) (hl : fs.length < 1000) (k : ∀ p H1, H p = none → Ex H H1 → H1 p = some (.lst xs) → tz D σ (upd H1 a (.ins C dx (putF f (.ref p) fs)))) : tSeq (sFld K to tv f) tz D σ H :=
  hv H (Ex.refl H) _ fun p H1 hp e1 g1 => h H1 e1 H1 (Ex.refl H1) _ fun H2 e2 => ⟨a, C, dx, fs, rfl, (e1.trans e2) _ _ hx, c, hn, hl, k p H2 hp (e1.trans e2) (e2 _ _ g1)⟩
/-- o.m(..), whatever m promises -/
theorem mth (h : Ev to σ H (.ref a)) (hx : H a = some (.ins C dx fs)) (hm : fs.lookup m = none) (ha : EvA t σ H vs) {Q : VK} (k : ∀ H1, Ex H H1 → sp (.ref a :: (vs ++ dvs)) H1 Q E) : tMeth C m sp dvs E to t σ H Q :=
  h H (Ex.refl H) _ fun H1 e1 => ⟨a, dx, fs, rfl, e1 _ _ hx, hm, ha H1 e1 _ fun H2 e2 => k H2 (e1.trans e2)⟩
theorem q_dropM (h : Ev to σ H (.ref a)) (hx : H a = some (.ins C dx fs)) (hm : fs.lookup m = none) (ha : EvA t σ H vs) (k : ∀ H1, Ex H H1 → sp (.ref a :: (vs ++ dvs)) H1 (fun _ H2 => tz D σ H2) E) : tSeq (tDrop (tMeth C m sp dvs E to t)) tz D σ H := mth h hx hm ha k
theorem s_dropM (h : Ev to σ H (.ref a)) (hx : H a = some (.ins C dx fs)) (hm : fs.lookup m = none) (ha : EvA t σ H vs) (k : ∀ H1, Ex H H1 → sp (.ref a :: (vs ++ dvs)) H1 (fun _ H2 => D.nx σ H2) E) : tDrop (tMeth C m sp dvs E to t) D σ H := mth h hx hm ha k
theorem q_asgM {i : Nat} (h : Ev to σ H (.ref a)) (hx : H a = some (.ins C dx fs)) (hm : fs.lookup m = none) (ha : EvA t σ H vs) (k : ∀ H1, Ex H H1 → sp (.ref a :: (vs ++ dvs)) H1 (fun x H2 => tz D (σ.set i (some x)) H2) E) : tSeq (tAsg (tMeth C m sp dvs E to t) (gName i)) tz D σ H := mth h hx hm ha k
theorem s_retM (h : Ev to σ H (.ref a)) (hx : H a = some (.ins C dx fs)) (hm : fs.lookup m = none) (ha : EvA t σ H vs) (k : ∀ H1, Ex H H1 → sp (.ref a :: (vs ++ dvs)) H1 D.rt E) : tRet (tMeth C m sp dvs E to t) D σ H := mth h hx hm ha k
/-- a method that changes nothing and gives a value -/
theorem ev_mth (h : Ev to σ H (.ref a)) (hx : H a = some (.ins C dx fs)) (hm : fs.lookup m = none) (ha : EvA t σ H vs) (k : SpV sp (.ref a :: (vs ++ dvs)) H v) : Ev (tMeth C m sp dvs E to t) σ H v := fun H1 e Q q =>
  h H1 e _ fun H2 e2 => ⟨a, dx, fs, rfl, (e.trans e2) _ _ hx, hm, ha H2 (e.trans e2) _ fun H3 e3 => k H3 ((e.trans e2).trans e3) Q (fun H4 e4 => q H4 ((e2.trans e3).trans e4)) E⟩
end
theorem fresh_ne {H : Hp} {p q : Addr} {o : HO} (hp : H p = none) (hq : H q = some o) : q ≠ p := ne_of_none hq hp
theorem bitNot_eq (x : Int) : Builtin.bitNot x = -x - 1 := rfl
theorem bitAnd_maskZ (x : Int) (k : Nat) : Builtin.bitAnd x (2 ^ k - 1) = x % 2 ^ k := by
  by_cases h : 0 ≤ x
  · exact _root_.Bits.bitAnd_mask k h
  · have hp : (1 : Int) ≤ 2 ^ k := by
      have : 0 < 2 ^ k := Nat.two_pow_pos k
      have h2 : ((2 : Int) ^ k) = ((2 ^ k : Nat) : Int) := by rw [Int.natCast_pow]; rfl
      omega
    rw [PyProof.Rows.bitAnd_np h (by omega), Nat.and_comm]
    have h2 : ((2 : Int) ^ k) = ((2 ^ k : Nat) : Int) := by rw [Int.natCast_pow]; rfl
    have h3 : ((2 : Int) ^ k - 1).toNat = 2 ^ k - 1 := by omega
    rw [h3, Nat.and_two_pow_sub_one_eq_mod, bitNot_eq]
    have h4 : ((-x - 1).toNat : Int) = -x - 1 := by omega
    rw [h2, Int.natCast_emod, h4]
    generalize 2 ^ k = m at *
    have hm : (0 : Int) < (m : Int) := by omega
    have e1 := Int.emod_add_mul_ediv x m
    have e2 := Int.emod_add_mul_ediv (-x - 1) m
    have a1 := Int.emod_nonneg x (by omega : (m : Int) ≠ 0)
    have a2 := Int.emod_lt_of_pos x hm
    have b1 := Int.emod_nonneg (-x - 1) (by omega : (m : Int) ≠ 0)
    have b2 := Int.emod_lt_of_pos (-x - 1) hm
    generalize x % (m : Int) = r at *
    generalize (-x - 1) % (m : Int) = s at *
    generalize x / (m : Int) = p at *
    generalize (-x - 1) / (m : Int) = q at *
    -- r + s + 1 is a multiple of m between 1 and 2m - 1
    have e3 : r + s + 1 = m * (-(p + q)) := by
      rw [Int.mul_neg, Int.mul_add]
      omega
    have h5 : -(p + q) = 1 := by
      have c1 : 0 < (m : Int) * (-(p + q)) := by omega
      have c2 : (m : Int) * (-(p + q)) < m * 2 := by omega
      have c3 := Int.pos_of_mul_pos_right (a := (m : Int)) (b := -(p + q)) (by exact c1) hm
      have c4 : -(p + q) < 2 := Int.lt_of_mul_lt_mul_left c2 (by omega)
      omega
    rw [h5, Int.mul_one] at e3
    omega
theorem q_fldaugI {K : PySem.W.Frag} {σ : L2.St} {H : Hp} {to tv : TE} {a C dx : Addr} {fs : List (Str × V)} {f : Str} {i j : Int} {D : Ends} {tz : TS} (c : Cls K C) (hn : NoAttr K C f) (h : Ev to σ H (.ref a)) (hx : H a = some (.ins C dx fs)) (hl : fs.lookup f = some (.int i)) (hv : Ev tv σ H (.int j)) (hz : fs.length < 1000)
    (k : ∀ H1, Ex H H1 → tz D σ (upd H1 a (.ins C dx (putF f (.int (i + j)) fs)))) : tSeq (sFldAug K to tv rAdd f) tz D σ H :=
  h H (Ex.refl H) _ fun H1 e1 => ⟨a, C, dx, fs, .int i, rfl, e1 _ _ hx, c, hn, hl, hv H1 e1 _ fun H2 e2 => ⟨i, j, rfl, rfl, dx, fs, (e1.trans e2) _ _ hx, hz, k H2 (e1.trans e2)⟩⟩
/-- [e for j in range(n)] whose element changes objects -/
theorem tlc_rngM {ta : TA} {te : TE} {vs : List Nat} {n : Int} {j : Nat} {σ : L2.St} {H : Hp} {Q : VK} (h : EvA ta σ H [.int n]) (hn : -100000 ≤ n ∧ n ≤ 100000)
    (k : ∀ H1, Ex H H1 → ∀ Dl, H1 Dl = none → ∃ Pv : Nat → Hp → Prop, Pv 0 (upd H1 Dl (.lst [])) ∧ (∀ (i : Nat) H', i < n.toNat → Pv i H' → wipe ((wipe σ vs).set j (some (.int (i : Int)))) vs = wipe σ vs ∧ te ((wipe σ vs).set j (some (.int (i : Int)))) H' fun y H4 => ∃ acc, H4 Dl = some (.lst acc) ∧ acc.length < sizeLine ∧ Pv (i + 1) (upd H4 Dl (.lst (acc ++ [y])))) ∧ (∀ H', Pv n.toNat H' → Q (.ref Dl) H')) :
    tLc (iRng1 ta) (gName j) tYes te vs σ H Q := h H (Ex.refl H) _ fun H1 e1 => ⟨n, rfl, by omega, by omega, fun Dl hD => by
  obtain ⟨Pv, h0, hs, hd⟩ := k H1 e1 Dl hD
  refine lc_range (lo := 0) (n := n.toNat) Pv h0 (fun i H' hi p => ?_) hd
  rw [Int.zero_add]
  exact hs i H' hi p⟩

/-! ### objects that are made once -/
def FrO (a : Addr) (H H' : Hp) : Prop := ∀ b o, b ≠ a → H b = some o → H' b = some o
theorem FrO.ex {a : Addr} {H H' : Hp} (e : Ex H H') : FrO a H H' := fun b o _ h => e b o h
theorem FrO.trans {a : Addr} {H H1 H2 : Hp} (x : FrO a H H1) (y : FrO a H1 H2) : FrO a H H2 := fun b o hb h => y b o hb (x b o hb h)
theorem FrO.upd {a : Addr} {H H' : Hp} {o : HO} (f : FrO a H H') : FrO a H (upd H' a o) := fun b u hb h => by rw [upd_ne hb]; exact f b u hb h
def EvN (te : TE) (σ : L2.St) (H : Hp) (R : Addr → Hp → Prop) : Prop := ∀ H1, Ex H H1 → ∀ Q : VK, (∀ p H2, H1 p = none → Ex H1 H2 → R p H2 → Q (.ref p) H2) → te σ H1 Q
section
variable {K : PySem.W.Frag} {σ : L2.St} {H : Hp} {te ta tb : TE} {C : Addr} {sp : Sp} {dvs vs zs : List V} {E : XK} {t tk : TA} {R : Addr → Hp → Prop} {D : Ends} {tz : TS} {n m i : Nat} {gV : List V → List V → List V}
theorem en_make (h : EvA t σ H vs) (k : ∀ a dx H1 (Q : VK) (E : XK), Ex H H1 → H1 a = some (.ins C dx []) → (∀ H', FrO a H1 H' → R a H' → Q .non H') → sp (.ref a :: (vs ++ dvs)) H1 Q E) : EvN (tMake C sp dvs E t) σ H R := fun H1 e Q q =>
  h H1 e _ fun H2 e2 => fun x dx hx hdx hne => k x dx _ _ _ ((e.trans e2).trans (Ex.mut (Ex.new hdx) hx)) upd_same fun H' hF hR => ⟨rfl, q x H' (fresh_back e2 hx) (fun b o hb => hF b o (fresh_ne hx (e2 b o hb)) ((Ex.mut (Ex.new hdx) hx) b o (e2 b o hb))) hR⟩
theorem en_makeK (h : EvA t σ H vs) (hz : EvA tk σ H zs) (l1 : vs.length = n) (l2 : zs.length = m) (k : ∀ a dx H1 (Q : VK) (E : XK), Ex H H1 → H1 a = some (.ins C dx []) → (∀ H', FrO a H1 H' → R a H' → Q .non H') → sp (gV (.ref a :: vs) zs) H1 Q E) : EvN (tMakeK C n m sp gV E t tk) σ H R := fun H1 e Q q =>
  h H1 e _ fun H2 e2 => hz H2 (e.trans e2) _ fun H3 e3 => ⟨l1, l2, fun x dx hx hdx hne => k x dx _ _ _ (((e.trans e2).trans e3).trans (Ex.mut (Ex.new hdx) hx)) upd_same fun H' hF hR => ⟨rfl, q x H' (fresh_back (e2.trans e3) hx) (fun b o hb => hF b o (fresh_ne hx ((e2.trans e3) b o hb)) ((Ex.mut (Ex.new hdx) hx) b o ((e2.trans e3) b o hb))) hR⟩⟩
theorem en_makeF (h : EvA t σ H vs) (k : ∀ a dx H1 (Q : VK) (E : XK), Ex H H1 → H a = none → H1 a = some (.ins C dx []) → (∀ H', FrO a H1 H' → R a H' → Q .non H') → sp (.ref a :: (vs ++ dvs)) H1 Q E) : EvN (tMake C sp dvs E t) σ H R := fun H1 e Q q =>
  h H1 e _ fun H2 e2 => fun x dx hx hdx hne => k x dx _ _ _ ((e.trans e2).trans (Ex.mut (Ex.new hdx) hx)) (fresh_back (e.trans e2) hx) upd_same fun H' hF hR => ⟨rfl, q x H' (fresh_back e2 hx) (fun b o hb => hF b o (fresh_ne hx (e2 b o hb)) ((Ex.mut (Ex.new hdx) hx) b o (e2 b o hb))) hR⟩
theorem en_makeKF (h : EvA t σ H vs) (hz : EvA tk σ H zs) (l1 : vs.length = n) (l2 : zs.length = m) (k : ∀ a dx H1 (Q : VK) (E : XK), Ex H H1 → H a = none → H1 a = some (.ins C dx []) → (∀ H', FrO a H1 H' → R a H' → Q .non H') → sp (gV (.ref a :: vs) zs) H1 Q E) : EvN (tMakeK C n m sp gV E t tk) σ H R := fun H1 e Q q =>
  h H1 e _ fun H2 e2 => hz H2 (e.trans e2) _ fun H3 e3 => ⟨l1, l2, fun x dx hx hdx hne => k x dx _ _ _ (((e.trans e2).trans e3).trans (Ex.mut (Ex.new hdx) hx)) (fresh_back ((e.trans e2).trans e3) hx) upd_same fun H' hF hR => ⟨rfl, q x H' (fresh_back (e2.trans e3) hx) (fun b o hb => hF b o (fresh_ne hx ((e2.trans e3) b o hb)) ((Ex.mut (Ex.new hdx) hx) b o ((e2.trans e3) b o hb))) hR⟩⟩
/-- what stood before the object was made stands -/
theorem FrO.after {a : Addr} {H0 G H' : Hp} (f : FrO a G H') (e : Ex H0 G) (hn : H0 a = none) : Ex H0 H' := fun b o hb => f b o (by rintro rfl; rw [hn] at hb; cases hb) (e b o hb)
theorem q_asgN (h : EvN te σ H R) (k : ∀ p H1, H p = none → Ex H H1 → R p H1 → tz D (σ.set i (some (.ref p))) H1) : tSeq (tAsg te (gName i)) tz D σ H := h H (Ex.refl H) _ k
theorem s_asgN (h : EvN te σ H R) (k : ∀ p H1, H p = none → Ex H H1 → R p H1 → D.nx (σ.set i (some (.ref p))) H1) : tAsg te (gName i) D σ H := h H (Ex.refl H) _ k
theorem s_retN (h : EvN te σ H R) (k : ∀ p H1, H p = none → Ex H H1 → R p H1 → D.rt (.ref p) H1) : tRet te D σ H := h H (Ex.refl H) _ k
theorem el_if {c : TT} {b : Bool} {xs : List V} (h : EvT c σ H b) (h1 : b = true → EvL ta σ H xs) (h2 : b = false → EvL tb σ H xs) : EvL (tIf c ta tb) σ H xs := fun H1 e Q q => h H1 e _ fun H2 e2 => by
  cases b with
  | true =>
    rw [if_pos rfl]
    exact h1 rfl H2 (e.trans e2) Q fun p H3 hp e3 g => q p H3 (fresh_back e2 hp) (e2.trans e3) g
  | false =>
    rw [if_neg (by decide)]
    exact h2 rfl H2 (e.trans e2) Q fun p H3 hp e3 g => q p H3 (fresh_back e2 hp) (e2.trans e3) g
theorem s_fldL {a dx : Addr} {fs : List (Str × V)} {f : Str} {to tv : TE} {xs : List V} (c : Cls K C) (hn : NoAttr K C f) (hv : EvL tv σ H xs) (h : ∀ H1, Ex H H1 → Ev to σ H1 (.ref a)) (hx : H a = some (.ins C dx fs)) (hl : fs.length < 1000) (k : ∀ p H1, H p = none → Ex H H1 → H1 p = some (.lst xs) → D.nx σ (upd H1 a (.ins C dx (putF f (.ref p) fs)))) : sFld K to tv f D σ H :=
  hv H (Ex.refl H) _ fun p H1 hp e1 g1 => h H1 e1 H1 (Ex.refl H1) _ fun H2 e2 => ⟨a, C, dx, fs, rfl, (e1.trans e2) _ _ hx, c, hn, hl, k p H2 hp (e1.trans e2) (e2 _ _ g1)⟩
end

/-! ### arguments some of which are new objects -/
def EvAP (t : TA) (σ : L2.St) (H : Hp) (R : List V → Hp → Prop) : Prop := ∀ H1, Ex H H1 → ∀ Q : List V → Hp → Prop, (∀ vs H2, Ex H1 H2 → R vs H2 → Q vs H2) → t σ H1 Q
section
variable {K : PySem.W.Frag} {σ : L2.St} {H : Hp} {te : TE} {tr t : TA} {x : V} {xs : List V} {R : List V → Hp → Prop} {C : Addr} {sp : Sp} {dvs : List V} {E : XK} {S : Addr → Hp → Prop} {D : Ends} {tz : TS} {i : Nat}
theorem ap_nil : EvAP tNil σ H fun vs _ => vs = [] := fun H1 _ _ q => q [] H1 (Ex.refl H1) rfl
theorem ap_ev (h : Ev te σ H x) (hr : EvAP tr σ H R) : EvAP (tCons te tr) σ H fun vs G => ∃ r, vs = x :: r ∧ R r G := fun H1 e Q q =>
  h H1 e _ fun H2 e2 => hr H2 (e.trans e2) _ fun vs H3 e3 hR => q (x :: vs) H3 (e2.trans e3) ⟨vs, rfl, hR⟩
theorem ap_l (h : EvL te σ H xs) (hr : EvAP tr σ H R) : EvAP (tCons te tr) σ H fun vs G => ∃ p r, vs = .ref p :: r ∧ H p = none ∧ G p = some (.lst xs) ∧ R r G := fun H1 e Q q =>
  h H1 e _ fun p H2 hp e2 g => hr H2 (e.trans e2) _ fun vs H3 e3 hR => q (.ref p :: vs) H3 (e2.trans e3) ⟨p, vs, rfl, fresh_back e hp, e3 _ _ g, hR⟩
theorem ap_u (h : EvU te σ H xs) (hr : EvAP tr σ H R) : EvAP (tCons te tr) σ H fun vs G => ∃ p r, vs = .ref p :: r ∧ H p = none ∧ G p = some (.tup xs) ∧ R r G := fun H1 e Q q =>
  h H1 e _ fun p H2 hp e2 g => hr H2 (e.trans e2) _ fun vs H3 e3 hR => q (.ref p :: vs) H3 (e2.trans e3) ⟨p, vs, rfl, fresh_back e hp, e3 _ _ g, hR⟩
theorem en_makeAP (h : EvAP t σ H R) (k : ∀ vs a dx H1 (Q : VK) (E : XK), Ex H H1 → (∃ G, Ex G H1 ∧ R vs G) → H1 a = some (.ins C dx []) → (∀ H', FrO a H1 H' → S a H' → Q .non H') → sp (.ref a :: (vs ++ dvs)) H1 Q E) : EvN (tMake C sp dvs E t) σ H S := fun H1 e Q q =>
  h H1 e _ fun vs H2 e2 hR => fun x dx hx hdx hne => k vs x dx _ _ _ ((e.trans e2).trans (Ex.mut (Ex.new hdx) hx)) ⟨H2, Ex.mut (Ex.new hdx) hx, hR⟩ upd_same fun H' hF hS => ⟨rfl, q x H' (fresh_back e2 hx) (fun b o hb => hF b o (fresh_ne hx (e2 b o hb)) ((Ex.mut (Ex.new hdx) hx) b o (e2 b o hb))) hS⟩
theorem q_asgAP (h : EvAP t σ H R) (k : ∀ vs H1, Ex H H1 → R vs H1 → sp (vs ++ dvs) H1 (fun x H2 => tz D (σ.set i (some x)) H2) E) : tSeq (tAsg (tCall sp dvs E t) (gName i)) tz D σ H := h H (Ex.refl H) _ fun vs H1 e hR => k vs H1 e hR
theorem s_retAP (h : EvAP t σ H R) (k : ∀ vs H1, Ex H H1 → R vs H1 → sp (vs ++ dvs) H1 D.rt E) : tRet (tCall sp dvs E t) D σ H := h H (Ex.refl H) _ fun vs H1 e hR => k vs H1 e hR
end

/-! ### values of which something is told -/
def EvX (te : TE) (σ : L2.St) (H : Hp) (S : V → Hp → Prop) : Prop := ∀ H1, Ex H H1 → ∀ Q : VK, (∀ v H2, Ex H1 H2 → S v H2 → Q v H2) → te σ H1 Q
def Up (S : V → Hp → Prop) : Prop := ∀ v H H', Ex H H' → S v H → S v H'
section
variable {K : PySem.W.Frag} {σ : L2.St} {H : Hp} {te ta tb : TE} {tr t : TA} {R : List V → Hp → Prop} {C : Addr} {sp : Sp} {dvs : List V} {E : XK} {S S' S2 : V → Hp → Prop} {D : Ends} {tz : TS} {i : Nat}
theorem Ev.x {v : V} (h : Ev te σ H v) (hS : ∀ H1, Ex H H1 → S v H1) : EvX te σ H S := fun H1 e Q q => h H1 e _ fun H2 e2 => q v H2 e2 (hS H2 (e.trans e2))
theorem EvN.x {R' : Addr → Hp → Prop} (h : EvN te σ H R') (hS : ∀ p H1, Ex H H1 → R' p H1 → S (.ref p) H1) : EvX te σ H S := fun H1 e Q q => h H1 e _ fun p H2 _ e2 hR => q (.ref p) H2 e2 (hS p H2 (e.trans e2) hR)
theorem ex_call1 (h : EvX te σ H S) (k : ∀ v H1 (Q : VK) (E : XK), Ex H H1 → S v H1 → (∀ v' H2, Ex H1 H2 → S' v' H2 → Q v' H2) → sp ([v] ++ dvs) H1 Q E) : EvX (tCall sp dvs E (tCons te tNil)) σ H S' := fun H1 e Q q =>
  h H1 e _ fun v H2 e2 hS => k v H2 _ _ (e.trans e2) hS fun v' H3 e3 hS' => q v' H3 (e2.trans e3) hS'
theorem ex_call2 (h : EvX ta σ H S) (hu : Up S) (h2 : EvX tb σ H S2) (k : ∀ v w H1 (Q : VK) (E : XK), Ex H H1 → S v H1 → S2 w H1 → (∀ v' H2, Ex H1 H2 → S' v' H2 → Q v' H2) → sp ([v, w] ++ dvs) H1 Q E) : EvX (tCall sp dvs E (tCons ta (tCons tb tNil))) σ H S' := fun H1 e Q q =>
  h H1 e _ fun v H2 e2 hS => h2 H2 (e.trans e2) _ fun w H3 e3 hS2 => k v w H3 _ _ ((e.trans e2).trans e3) (hu _ _ _ e3 hS) hS2 fun v' H4 e4 hS' => q v' H4 ((e2.trans e3).trans e4) hS'
theorem EvX.val {v : V} (h : EvX te σ H fun x _ => x = v) : Ev te σ H v := fun H1 e Q q => h H1 e _ fun x H2 e2 hx => by rw [hx]; exact q H2 e2
theorem q_asgX (h : EvX te σ H S) (k : ∀ v H1, Ex H H1 → S v H1 → tz D (σ.set i (some v)) H1) : tSeq (tAsg te (gName i)) tz D σ H := h H (Ex.refl H) _ fun v H1 e hS => k v H1 e hS
theorem ap_x (h : EvX te σ H S) (hu : Up S) (hr : EvAP tr σ H R) : EvAP (tCons te tr) σ H fun vs G => ∃ v r, vs = v :: r ∧ S v G ∧ R r G := fun H1 e Q q =>
  h H1 e _ fun v H2 e2 hS => hr H2 (e.trans e2) _ fun vs H3 e3 hR => q (v :: vs) H3 (e2.trans e3) ⟨v, vs, rfl, hu _ _ _ e3 hS, hR⟩
theorem s_retAPL (h : EvAP t σ H R) (hl : ∀ vs G, R vs G → vs.length ≤ 100000) (k : ∀ p vs H1 H2, H p = none → Ex H H1 → R vs H1 → Ex H1 H2 → H2 p = some (.lst vs) → D.rt (.ref p) H2) : tRet (tLst t) D σ H := h H (Ex.refl H) _ fun vs H1 e hR => ⟨sz_of (hl vs H1 hR), fun p hp => k p vs H1 _ (fresh_back e hp) e hR (Ex.new hp) upd_same⟩
theorem ev_eqX {K : PySem.W.Frag} {b : Bool} (ha : EvX ta σ H S) (hu : Up S) (hb : EvX tb σ H S2) (h : ∀ x y G, Ex H G → S x G → S2 y G → ∃ a dx fs t, x = .ref a ∧ G a = some (.ins C dx fs) ∧ TyX K G y t ∧ PySem.W.notFirst K C t = true ∧ SpV sp [.ref a, y] G (.bl b)) : Ev (tOp (rEqO C sp E K) ta tb) σ H (.bl b) := fun H1 e Q q =>
  ha H1 e _ fun x H2 e2 hS => hb H2 (e.trans e2) _ fun y H3 e3 hS2 => by
    obtain ⟨a, dx, fs, t, rfl, h1, h2, h3, h4⟩ := h x y H3 ((e.trans e2).trans e3) (hu _ _ _ e3 hS) hS2
    exact ⟨a, dx, fs, t, rfl, h1, h2, h3, h4 H3 (Ex.refl _) _ (fun H4 e4 => ⟨⟨b, rfl⟩, q H4 ((e2.trans e3).trans e4)⟩) E⟩
theorem ev_eqDv {d d' : PyData} (h1 : EvD K ta σ H d) (h2 : EvD K tb σ H d') (hs : SeqAt.shaped d = true) (hs' : SeqAt.shaped d' = true) : Ev (tOp (rEqD K) ta tb) σ H (.bl (PyData.eqv d d')) := fun H1 e Q q => h1 H1 e _ fun v H2 e2 hv => h2 H2 (e.trans e2) _ fun u H3 e3 hu =>
  ⟨d, d', dp_ex e3 d v hv, hu, hs, hs', q H3 (e2.trans e3)⟩
theorem ev_neDv {d d' : PyData} (h1 : EvD K ta σ H d) (h2 : EvD K tb σ H d') (hs : SeqAt.shaped d = true) (hs' : SeqAt.shaped d' = true) : Ev (tOp (rNeD K) ta tb) σ H (.bl (!PyData.eqv d d')) := fun H1 e Q q => h1 H1 e _ fun v H2 e2 hv => h2 H2 (e.trans e2) _ fun u H3 e3 hu =>
  ⟨d, d', dp_ex e3 d v hv, hu, hs, hs', q H3 (e2.trans e3)⟩
end

/-! ### settings -/
def fsS (x0 v x2 x3 x4 x5 x6 x7 x8 x9 x10 x11 : V) : List (Str × V) := [("block_size", x0), ("block_sizes", v), ("fixed_order", x2), ("linear_order", x3), ("search", x4), ("precision", x5), ("partition_order", x6), ("wide", x7), ("stereo", x8), ("wasted", x9), ("seek_interval", x10), ("vendor", x11)]
/-- a list at hand, or None -/
def OptL (o : Option (List V)) (x : V) (H : Hp) : Prop := match o with
  | none => x = .non
  | some l => ∃ q, x = .ref q ∧ H q = some (.lst l)
def OptN (o : Option (List V)) (x : V) (H H' : Hp) : Prop := match o with
  | none => x = .non
  | some l => ∃ q, x = .ref q ∧ H q = none ∧ H' q = some (.lst l)
theorem OptL.fr {o : Option (List V)} {x : V} {a C dx : Addr} {fs : List (Str × V)} {H H' : Hp} (h : OptL o x H) (ha : H a = some (.ins C dx fs)) (f : FrO a H H') : OptL o x H' := by
  cases o with
  | none => exact h
  | some l =>
    obtain ⟨q, e, g⟩ := h
    exact ⟨q, e, f q _ (by rintro rfl; rw [ha] at g; cases g) g⟩
theorem OptN.mono {o : Option (List V)} {x : V} {H H1 H2 : Hp} (h : OptN o x H H1) (e : Ex H1 H2) : OptN o x H H2 := by
  cases o with
  | none => exact h
  | some l =>
    obtain ⟨q, e1, g, g2⟩ := h
    exact ⟨q, e1, g, e _ _ g2⟩
theorem OptN.toL {o : Option (List V)} {x : V} {H H1 : Hp} (h : OptN o x H H1) : OptL o x H1 := by
  cases o with
  | none => exact h
  | some l =>
    obtain ⟨q, e1, g, g2⟩ := h
    exact ⟨q, e1, g2⟩
def sp_setinit (C : Addr) : Sp := fun vs H Q _ => ∃ (a dx : Addr) (x0 x1 x2 x3 x4 x5 x6 x7 x8 x9 x10 x11 : V) (o : Option (List V)), vs = [.ref a, x0, x1, x2, x3, x4, x5, x6, x7, x8, x9, x10, x11] ∧ H a = some (.ins C dx []) ∧ OptL o x1 H ∧ ∀ H' v, FrO a H H' → H' a = some (.ins C dx (fsS x0 v x2 x3 x4 x5 x6 x7 x8 x9 x10 x11)) → OptN o v H H' → Q .non H'
theorem ok_Settings_init (T : TX K mg) : FnOk P w K mg base CX0 1 T.a_Settings_init T.d_Settings_init ["self", "block_size", "block_sizes", "fixed_order", "linear_order", "search", "precision", "partition_order", "wide", "stereo", "wasted", "seek_interval", "vendor"] (sp_setinit T.C_Settings) := by
  refine T.F_Settings_init.ok sc_Settings_init (fun vs H Q E h => by obtain ⟨a, dx, x0, x1, x2, x3, x4, x5, x6, x7, x8, x9, x10, x11, o, rfl, _⟩ := h; rfl) (fun cdv A outer s H vs Q E hr h => ?_)
  obtain ⟨a, dx, x0, x1, x2, x3, x4, x5, x6, x7, x8, x9, x10, x11, o, rfl, ha, ho, k⟩ := h
  refine ⟨_, (pss_cons (ps_fld (pv 0) (pv 1) rfl)
      (pss_cut (ps_fld (pv 0) (pe_ifExp (pt_cmpR op_isN1 (pv 2) pe_non (nomark _)) pe_non (pe_callTy (r := rListS K) call_list_of (by rfl) T.m_list PyProof.Rows.boot_list (pa_cons (pv 2) pa_nil))) rfl)
      (pss_cons (ps_fld (pv 0) (pv 3) rfl)
      (pss_cons (ps_fld (pv 0) (pv 4) rfl)
      (pss_cons (ps_fld (pv 0) (pv 5) rfl)
      (pss_cons (ps_fld (pv 0) (pv 6) rfl)
      (pss_cons (ps_fld (pv 0) (pv 7) rfl)
      (pss_cons (ps_fld (pv 0) (pv 8) rfl)
      (pss_cons (ps_fld (pv 0) (pv 9) rfl)
      (pss_cons (ps_fld (pv 0) (pv 10) rfl)
      (pss_cons (ps_fld (pv 0) (pv 11) rfl)
      (pss_one (ps_fld (pv 0) (pv 12) rfl))))))))))))), ?_⟩
  refine q_fld T.cl_Settings T.n_Settings_block_size (v := x0) (ev_var rfl) (ev_var rfl) ha (by decide) fun H1 e1 => ?_
  have f1 := (FrO.ex (a := a) e1).upd (o := .ins T.C_Settings dx (putF "block_size" x0 []))
  have ho1 := ho.fr ha f1
  have ha1 : (upd H1 a (.ins T.C_Settings dx (putF "block_size" x0 []))) a = some (.ins T.C_Settings dx (putF "block_size" x0 [])) := upd_same
  generalize upd H1 a (.ins T.C_Settings dx (putF "block_size" x0 [])) = G1 at *
  refine q_cut (M := fun σ' H' => σ' = [some (.ref a), some x0, some x1, some x2, some x3, some x4, some x5, some x6, some x7, some x8, some x9, some x10, some x11] ∧ ∃ v, FrO a H H' ∧ H' a = some (.ins T.C_Settings dx [("block_size", x0), ("block_sizes", v)]) ∧ OptN o v H H') ?_ ?_
  · cases o with
    | none =>
      have ho1 : x1 = .non := ho1
      subst ho1
      exact s_fld T.cl_Settings T.n_Settings_block_sizes (v := .non) (ev_if (b := true) (et_is (et_test (ev_isN (ev_var rfl))) (by simp)) (fun _ => ev_c) (fun hb => by cases hb)) (ev_var rfl) ha1 (Nat.le_of_ble_eq_true rfl) fun H2 e2 => ⟨rfl, .non, (f1.trans (FrO.ex e2)).upd, upd_same, rfl⟩
    | some l =>
      obtain ⟨q, rfl, hq⟩ := ho1
      refine s_fldL T.cl_Settings T.n_Settings_block_sizes (xs := l) (el_if (b := false) (et_is (et_test (ev_isN (ev_var rfl))) (by simp)) (fun hb => by cases hb) (fun _ => el_of (K := K) (Ev.s (ev_var rfl) (sq_of hq)))) (fun _ _ => ev_var rfl) ha1 (Nat.le_of_ble_eq_true rfl) fun p H2 hp e2 g2 => ⟨rfl, .ref p, (f1.trans (FrO.ex e2)).upd, upd_same, p, rfl, ?_, ?_⟩
      · cases hh : H p with
        | none => rfl
        | some u =>
          have hpa : p ≠ a := by rintro rfl; rw [ha1] at hp; cases hp
          rw [f1 p u hpa hh] at hp
          cases hp
      · rw [upd_ne (by rintro rfl; rw [ha1] at hp; cases hp)]
        exact g2
  rintro σ' G2 ⟨rfl, v, f2, ha2, ho2⟩
  refine q_fld T.cl_Settings T.n_Settings_fixed_order (v := x2) (ev_var rfl) (ev_var rfl) ha2 (Nat.le_of_ble_eq_true rfl) fun H3 e3 => ?_
  refine q_fld T.cl_Settings T.n_Settings_linear_order (v := x3) (ev_var rfl) (ev_var rfl) upd_same (Nat.le_of_ble_eq_true rfl) fun H4 e4 => ?_
  refine q_fld T.cl_Settings T.n_Settings_search (v := x4) (ev_var rfl) (ev_var rfl) upd_same (Nat.le_of_ble_eq_true rfl) fun H5 e5 => ?_
  refine q_fld T.cl_Settings T.n_Settings_precision (v := x5) (ev_var rfl) (ev_var rfl) upd_same (Nat.le_of_ble_eq_true rfl) fun H6 e6 => ?_
  refine q_fld T.cl_Settings T.n_Settings_partition_order (v := x6) (ev_var rfl) (ev_var rfl) upd_same (Nat.le_of_ble_eq_true rfl) fun H7 e7 => ?_
  refine q_fld T.cl_Settings T.n_Settings_wide (v := x7) (ev_var rfl) (ev_var rfl) upd_same (Nat.le_of_ble_eq_true rfl) fun H8 e8 => ?_
  refine q_fld T.cl_Settings T.n_Settings_stereo (v := x8) (ev_var rfl) (ev_var rfl) upd_same (Nat.le_of_ble_eq_true rfl) fun H9 e9 => ?_
  refine q_fld T.cl_Settings T.n_Settings_wasted (v := x9) (ev_var rfl) (ev_var rfl) upd_same (Nat.le_of_ble_eq_true rfl) fun H10 e10 => ?_
  refine q_fld T.cl_Settings T.n_Settings_seek_interval (v := x10) (ev_var rfl) (ev_var rfl) upd_same (Nat.le_of_ble_eq_true rfl) fun H11 e11 => ?_
  refine s_fld T.cl_Settings T.n_Settings_vendor (v := x11) (ev_var rfl) (ev_var rfl) upd_same (Nat.le_of_ble_eq_true rfl) fun H12 e12 => ?_
  have f9 := fun o => ((((((((((f2.trans (FrO.ex (a := a) e3)).upd.trans (FrO.ex e4)).upd.trans (FrO.ex e5)).upd.trans (FrO.ex e6)).upd.trans (FrO.ex e7)).upd.trans (FrO.ex e8)).upd.trans (FrO.ex e9)).upd.trans (FrO.ex e10)).upd.trans (FrO.ex e11)).upd.trans (FrO.ex e12)).upd (o := o)
  have f10 := fun o => (((((((((((FrO.ex (a := a) (Ex.refl G2)).trans (FrO.ex (a := a) e3)).upd.trans (FrO.ex e4)).upd.trans (FrO.ex e5)).upd.trans (FrO.ex e6)).upd.trans (FrO.ex e7)).upd.trans (FrO.ex e8)).upd.trans (FrO.ex e9)).upd.trans (FrO.ex e10)).upd.trans (FrO.ex e11)).upd.trans (FrO.ex e12)).upd (o := o)
  refine k _ v (f9 _) upd_same ?_
  cases o with
  | none => exact ho2
  | some l =>
    obtain ⟨q, rfl, hq, hq2⟩ := ho2
    exact ⟨q, rfl, hq, f10 _ q _ (by rintro rfl; rw [ha2] at hq2; cases hq2) hq2⟩

/-! ### lists of lists -/
/-- rows at their addresses, new over H0, not D -/
def LLAt (H0 H : Hp) (D : Addr) : List Addr → List (List V) → Prop
  | [], [] => True
  | q :: qs, r :: rs => (H q = some (.lst r) ∧ H0 q = none ∧ q ≠ D ∧ q ∉ qs) ∧ LLAt H0 H D qs rs
  | _, _ => False
theorem LLAt.len {H0 H : Hp} {D : Addr} : ∀ {qs : List Addr} {rs : List (List V)}, LLAt H0 H D qs rs → qs.length = rs.length
  | [], [], _ => rfl
  | _ :: _, _ :: _, h => congrArg Nat.succ (LLAt.len h.2)
  | [], _ :: _, h => h.elim
  | _ :: _, [], h => h.elim
theorem LLAt.get {H0 H : Hp} {D : Addr} : ∀ {qs : List Addr} {rs : List (List V)}, LLAt H0 H D qs rs → ∀ (i : Nat) (q : Addr), qs[i]? = some q → ∃ r, rs[i]? = some r ∧ H q = some (.lst r) ∧ H0 q = none ∧ q ≠ D
  | [], _, _, i, p, hp => by simp at hp
  | q :: ps, f :: fs, h, 0, p, hp => by cases hp; exact ⟨f, rfl, h.1.1, h.1.2.1, h.1.2.2.1⟩
  | q :: ps, f :: fs, h, i + 1, p, hp => LLAt.get h.2 i p hp
  | _ :: _, [], h, _, _, _ => h.elim
theorem LLAt.mono {H0 H H' : Hp} {D : Addr} (e : ∀ q o, q ≠ D → H q = some o → H' q = some o) : ∀ {qs : List Addr} {rs : List (List V)}, LLAt H0 H D qs rs → LLAt H0 H' D qs rs
  | [], [], _ => trivial
  | _ :: _, _ :: _, h => ⟨⟨e _ _ h.1.2.2.1 h.1.1, h.1.2⟩, LLAt.mono e h.2⟩
  | [], _ :: _, h => h.elim
  | _ :: _, [], h => h.elim
theorem LLAt.known {H0 H : Hp} {D : Addr} : ∀ {qs : List Addr} {rs : List (List V)}, LLAt H0 H D qs rs → ∀ q ∈ qs, H q ≠ none
  | [], _, _, q, hq => by cases hq
  | x :: qs, r :: rs, h, q, hq => by
    rcases List.mem_cons.mp hq with rfl | hq
    · rw [h.1.1]; exact fun z => by cases z
    · exact LLAt.known h.2 q hq
  | _ :: _, [], h, _, _ => h.elim
theorem LLAt.snoc {H0 H : Hp} {D q : Addr} {r : List V} (hq : H q = some (.lst r)) (h0 : H0 q = none) (hD : q ≠ D) : ∀ {qs : List Addr} {rs : List (List V)}, LLAt H0 H D qs rs → q ∉ qs → LLAt H0 H D (qs ++ [q]) (rs ++ [r])
  | [], [], _, _ => ⟨⟨hq, h0, hD, List.not_mem_nil⟩, trivial⟩
  | x :: qs, _ :: _, h, hn => ⟨⟨h.1.1, h.1.2.1, h.1.2.2.1, fun z => by
      rcases List.mem_append.mp z with z | z
      · exact h.1.2.2.2 z
      · exact hn (by rw [List.mem_singleton.mp z]; exact List.mem_cons_self ..)⟩, LLAt.snoc hq h0 hD h.2 fun z => hn (List.mem_cons_of_mem _ z)⟩
  | [], _ :: _, h, _ => h.elim
  | _ :: _, [], h, _ => h.elim
theorem LLAt.back {H0 H1 H : Hp} {D : Addr} (e : Ex H0 H1) : ∀ {qs : List Addr} {rs : List (List V)}, LLAt H1 H D qs rs → LLAt H0 H D qs rs
  | [], [], _ => trivial
  | _ :: _, _ :: _, h => ⟨⟨h.1.1, fresh_back e h.1.2.1, h.1.2.2⟩, LLAt.back e h.2⟩
  | [], _ :: _, h => h.elim
  | _ :: _, [], h => h.elim
def EvLL (te : TE) (σ : L2.St) (H : Hp) (rs : List (List V)) : Prop := ∀ H1, Ex H H1 → ∀ Q : VK, (∀ p qs H2, H1 p = none → Ex H1 H2 → H2 p = some (.lst (qs.map V.ref)) → LLAt H1 H2 p qs rs → Q (.ref p) H2) → te σ H1 Q
section
variable {K : PySem.W.Frag} {σ : L2.St} {H : Hp} {t1 te : TE} {xs : List V} {vs : List Nat} {j i : Nat} {D : Ends} {tz : TS}
theorem q_asgLL {rs : List (List V)} (h : EvLL te σ H rs) (k : ∀ p qs H1, H p = none → Ex H H1 → H1 p = some (.lst (qs.map V.ref)) → LLAt H H1 p qs rs → tz D (σ.set i (some (.ref p))) H1) : tSeq (tAsg te (gName i)) tz D σ H := h H (Ex.refl H) _ k
theorem s_retLL {rs : List (List V)} (h : EvLL te σ H rs) (k : ∀ p qs H1, H p = none → Ex H H1 → H1 p = some (.lst (qs.map V.ref)) → LLAt H H1 p qs rs → D.rt (.ref p) H1) : tRet te D σ H := h H (Ex.refl H) _ k
theorem ll_lc (rs : List (List V)) (h1 : EvS K t1 σ H xs) (hz : rs.length = xs.length) (hb : rs.length ≤ 50000) (hw : ∀ x, wipe ((wipe σ vs).set j (some x)) vs = wipe σ vs)
    (he : ∀ (i : Nat) (x : V) H1, Ex H H1 → xs[i]? = some x → ∃ z, rs[i]? = some z ∧ EvL te ((wipe σ vs).set j (some x)) H1 z) :
    EvLL (tLc (iList K t1) (gName j) tYes te vs) σ H rs := fun H0 e Q q =>
  h1 H0 e _ fun p H1 e1 hp => ⟨p, rfl, ⟨xs, hp⟩, fun D hD => lc_list (xs := xs) (fun i H' => Ex H1 H' ∧ ∃ qs : List Addr, H' D = some (.lst (qs.map V.ref)) ∧ LLAt H1 H' D qs (rs.take i)) ⟨Ex.new hD, [], upd_same, trivial⟩ (fun i H' _ h => ex_l h.1 hp)
    (fun i x H' hi h => ⟨hw x, by
      obtain ⟨ex, qs, gD, hL⟩ := h
      obtain ⟨z, hz1, hz2⟩ := he i x H' ((e.trans e1).trans ex) hi
      have hl : i < xs.length := (List.getElem?_eq_some_iff.mp hi).1
      refine hz2 H' (Ex.refl _) _ fun r H4 hr e4 g4 => ⟨qs.map V.ref, e4 _ _ gD, sz_lt (by rw [List.length_map, hL.len, List.length_take]; omega), Ex.mut (ex.trans e4) hD, qs ++ [r], by rw [upd_same, List.map_append]; rfl, ?_⟩
      have hrD : r ≠ D := by rintro rfl; rw [gD] at hr; cases hr
      have := (hL.mono (H' := upd H4 D (.lst (qs.map V.ref ++ [.ref r]))) fun q o hq g => by rw [upd_ne hq]; exact e4 _ _ g).snoc (by rw [upd_ne hrD]; exact g4) (fresh_back ex hr) hrD fun z => hL.known r z hr
      rw [show rs.take (i + 1) = rs.take i ++ [z] by rw [List.take_add_one, hz1]; rfl]
      exact this⟩)
    (fun H' h => by
      obtain ⟨ex, qs, gD, hL⟩ := h
      rw [← hz, List.take_length] at hL
      exact q D qs H' (fresh_back e1 hD) (e1.trans ex) gD (hL.back e1))⟩
end

/-! ### audio -/
def fsA (x0 x1 x2 : V) : List (Str × V) := [("rate", x0), ("depth", x1), ("channels", x2)]
/-- lists at their addresses -/
def Lists (H : Hp) : List Addr → List (List V) → Prop
  | [], [] => True
  | q :: qs, r :: rs => H q = some (.lst r) ∧ Lists H qs rs
  | _, _ => False
theorem Lists.get {H : Hp} : ∀ {qs : List Addr} {rs : List (List V)}, Lists H qs rs → ∀ (i : Nat) (q : Addr), qs[i]? = some q → ∃ r, rs[i]? = some r ∧ H q = some (.lst r)
  | [], _, _, i, p, hp => by simp at hp
  | q :: ps, f :: fs, h, 0, p, hp => by cases hp; exact ⟨f, rfl, h.1⟩
  | q :: ps, f :: fs, h, i + 1, p, hp => Lists.get h.2 i p hp
  | _ :: _, [], h, _, _, _ => h.elim
theorem Lists.len {H : Hp} : ∀ {qs : List Addr} {rs : List (List V)}, Lists H qs rs → qs.length = rs.length
  | [], [], _ => rfl
  | _ :: _, _ :: _, h => congrArg Nat.succ (Lists.len h.2)
  | [], _ :: _, h => h.elim
  | _ :: _, [], h => h.elim
theorem Lists.rel {H H' : Hp} (e : ∀ q r, H q = some (.lst r) → H' q = some (.lst r)) : ∀ {qs : List Addr} {rs : List (List V)}, Lists H qs rs → Lists H' qs rs
  | [], [], _ => trivial
  | _ :: _, _ :: _, h => ⟨e _ _ h.1, Lists.rel e h.2⟩
  | [], _ :: _, h => h.elim
  | _ :: _, [], h => h.elim
theorem Lists.ex {H H' : Hp} {qs : List Addr} {rs : List (List V)} (h : Lists H qs rs) (e : Ex H H') : Lists H' qs rs := h.rel fun q r g => e _ _ g
theorem LLAt.lists {H0 H : Hp} {D : Addr} : ∀ {qs : List Addr} {rs : List (List V)}, LLAt H0 H D qs rs → Lists H qs rs
  | [], [], _ => trivial
  | _ :: _, _ :: _, h => ⟨h.1.1, LLAt.lists h.2⟩
  | [], _ :: _, h => h.elim
  | _ :: _, [], h => h.elim
theorem lref_at {ps : List Addr} {i : Nat} {x : V} (hx : (ps.map V.ref)[i]? = some x) : ∃ p, ps[i]? = some p ∧ i < ps.length ∧ x = V.ref p := by
  rw [List.getElem?_map] at hx
  cases en : ps[i]? with
  | none => rw [en] at hx; cases hx
  | some n => rw [en] at hx; exact ⟨n, rfl, (List.getElem?_eq_some_iff.mp en).1, (Option.some.inj hx).symm⟩
theorem s_fldLL {σ : L2.St} {H : Hp} {to tv : TE} {a C dx : Addr} {fs : List (Str × V)} {f : Str} {D : Ends} {rs : List (List V)} (c : Cls K C) (hn : NoAttr K C f) (hv : EvLL tv σ H rs) (h : ∀ H1, Ex H H1 → Ev to σ H1 (.ref a)) (hx : H a = some (.ins C dx fs)) (hl : fs.length < 1000)
    (k : ∀ p qs H1, H p = none → Ex H H1 → H1 p = some (.lst (qs.map V.ref)) → LLAt H H1 p qs rs → D.nx σ (upd H1 a (.ins C dx (putF f (.ref p) fs)))) : sFld K to tv f D σ H :=
  hv H (Ex.refl H) _ fun p qs H1 hp e1 g1 hL => h H1 e1 H1 (Ex.refl H1) _ fun H2 e2 => ⟨a, C, dx, fs, rfl, (e1.trans e2) _ _ hx, c, hn, hl, k p qs H2 hp (e1.trans e2) (e2 _ _ g1) (hL.mono fun q o _ g => e2 _ _ g)⟩
theorem LLAt.move {H0 H1 H H' : Hp} {D a : Addr} (hb : ∀ q, q ≠ a → H1 q = none → H0 q = none) (ha : H1 a ≠ none) (hm : ∀ q o, q ≠ a → H q = some o → H' q = some o) : ∀ {qs : List Addr} {rs : List (List V)}, LLAt H1 H D qs rs → LLAt H0 H' D qs rs
  | [], [], _ => trivial
  | q :: _, _ :: _, h => ⟨⟨hm q _ (by rintro rfl; exact ha h.1.2.1) h.1.1, hb q (by rintro rfl; exact ha h.1.2.1) h.1.2.1, h.1.2.2⟩, LLAt.move hb ha hm h.2⟩
  | [], _ :: _, h => h.elim
  | _ :: _, [], h => h.elim
def sp_ainit (C : Addr) : Sp := fun vs H Q _ => ∃ (a dx c : Addr) (x0 x1 : V) (ls : List Addr) (rs : List (List V)), vs = [.ref a, x0, x1, .ref c] ∧ H a = some (.ins C dx []) ∧ H c = some (.lst (ls.map V.ref)) ∧ Lists H ls rs ∧ rs.length ≤ 1000 ∧ ∀ H' p qs, FrO a H H' → H' a = some (.ins C dx (fsA x0 x1 (.ref p))) → H p = none → H' p = some (.lst (qs.map V.ref)) → LLAt H H' p qs rs → Q .non H'
theorem ok_Audio_init (T : TX K mg) : FnOk P w K mg base CX0 1 T.a_Audio_init T.d_Audio_init ["self", "rate", "depth", "channels"] (sp_ainit T.C_Audio) := by
  refine T.F_Audio_init.ok sc_Audio_init (fun vs H Q E h => by obtain ⟨a, dx, c, x0, x1, ls, rs, rfl, _⟩ := h; rfl) (fun cdv A outer s H vs Q E hr h => ?_)
  obtain ⟨a, dx, c, x0, x1, ls, rs, rfl, ha, hc, hL, hl, k⟩ := h
  refine ⟨_, (pss_cons (ps_fld (pv 0) (pv 1) rfl)
      (pss_cons (ps_fld (pv 0) (pv 2) rfl)
      (pss_one (ps_fld (pv 0) (pe_lc (own := [("channel", 4)]) (g := gName 4) (tt := tYes) rfl sc_Audio_init.nd (pi_list (pv 3)) (blkOk_by (N := ["self", "rate", "depth", "channels", "channel"]) (sc := defScope s_Audio_init) (by decide +kernel)) (fun _ _ _ _ _ => pg_name (i := 4) sc_Audio_init.nd rfl (Or.inl rfl)) (fun _ _ _ _ _ => pts_nil) (fun _ _ _ _ _ => (pe_callTy (r := rListS K) call_list_of (by rfl) T.m_list PyProof.Rows.boot_list (pa_cons (pv 4) pa_nil)))) rfl)))), ?_⟩
  have na : ∀ {q : Addr} {r : List V}, H q = some (.lst r) → q ≠ a := fun {q r} g => by rintro rfl; rw [ha] at g; cases g
  refine q_fld T.cl_Audio T.n_Audio_rate (v := x0) (ev_var rfl) (ev_var rfl) ha (by decide) fun H1 e1 => ?_
  refine q_fld T.cl_Audio T.n_Audio_depth (v := x1) (ev_var rfl) (ev_var rfl) upd_same (Nat.le_of_ble_eq_true rfl) fun H2 e2 => ?_
  have f2 := fun o => ((FrO.ex (a := a) e1).upd.trans (FrO.ex e2)).upd (o := o)
  have hL2 := hL.rel fun q r g => f2 (.ins T.C_Audio dx (putF "depth" x1 (putF "rate" x0 []))) q _ (na g) g
  have hc2 := f2 (.ins T.C_Audio dx (putF "depth" x1 (putF "rate" x0 []))) c _ (na hc) hc
  refine s_fldLL (rs := rs) T.cl_Audio T.n_Audio_channels (ll_lc (K := K) rs (Ev.s (ev_var rfl) (sq_of hc2)) (by rw [List.length_map, hL.len]) (by omega) (fun _ => rfl) fun i x G eG hx => ?_) (fun _ _ => ev_var rfl) upd_same (Nat.le_of_ble_eq_true rfl) fun p qs H3 hp e3 g3 hL3 => ?_
  · obtain ⟨q, hq, hi, rfl⟩ := lref_at hx
    obtain ⟨r, hr, gq⟩ := hL2.get i q hq
    exact ⟨r, hr, el_of (K := K) (Ev.s (ev_var rfl) (sq_of (eG _ _ gq)))⟩
  have hpa : p ≠ a := by rintro rfl; rw [upd_same] at hp; cases hp
  have bk : ∀ q, q ≠ a → (upd H2 a (.ins T.C_Audio dx (putF "depth" x1 (putF "rate" x0 [])))) q = none → H q = none := fun q hq hn => by
    cases h : H q with
    | none => rfl
    | some o => rw [f2 _ q o hq h] at hn; cases hn
  refine k _ p qs ((f2 _).trans (FrO.ex e3)).upd upd_same (bk p hpa hp) (by rw [upd_ne hpa]; exact g3) ?_
  exact hL3.move bk (by rw [upd_same]; exact fun z => by cases z) fun q o hq g => by rw [upd_ne hq]; exact g

/-! ### a text joined of texts -/
theorem ok_glue (g : Array Nat) (hg : g.all (fun x => decide (x < 1114112)) = true) : ∀ (ps : List Str) (a : Array Nat), a.all (fun x => decide (x < 1114112)) = true → (∀ p ∈ ps, PyData.strOk p = true) → (ps.foldl (fun acc p => acc ++ g ++ p.cps) a).all (fun x => decide (x < 1114112)) = true
  | [], a, ha, _ => ha
  | p :: r, a, ha, h => ok_glue g hg r _ (by
    have hp := h p (List.mem_cons_self ..)
    unfold PyData.strOk at hp
    rw [Array.all_append, Array.all_append, ha, hg, hp]
    rfl) fun q hq => h q (List.mem_cons_of_mem _ hq)
theorem ok_join {x : Str} (hx : PyData.strOk x = true) {ys : List Str} (h : ∀ p ∈ ys, PyData.strOk p = true) : PyData.strOk (Txt.join x ys) = true := by
  cases ys with
  | nil =>
    show Str.empty.cps.all _ = true
    simp [Str.empty]
  | cons p r => exact ok_glue _ hx r p.cps (h p (List.mem_cons_self ..)) fun q hq => h q (List.mem_cons_of_mem _ hq)
def rJoin (K : PySem.W.Frag) : V → List V → Hp → VK → Prop := fun x xs H Q => ∃ a p, ∃ ys : List Str, x = .str a ∧ xs = [.ref p] ∧ (SqL K H p (ys.map V.str) ∨ SqT K H p (ys.map V.str)) ∧ (ys.map (·.length)).sum + ys.length * a.length ≤ 16777216 ∧ Q (.str (Txt.join a ys)) H
theorem ev_join {K : PySem.W.Frag} {σ : L2.St} {H : Hp} {to te : TE} {a : Str} {ys : List Str} (ho : Ev to σ H (.str a)) (h : EvS K te σ H (ys.map V.str)) (hz : (ys.map (·.length)).sum + ys.length * a.length ≤ 16777216) : Ev (tBM K "str" (rJoin K) to (tCons te tNil)) σ H (.str (Txt.join a ys)) := fun H1 e Q q =>
  ho H1 e _ fun H2 e2 => ⟨rfl, h H2 (e.trans e2) _ fun p H3 e3 hp => ⟨a, p, ys, rfl, rfl, .inl hp, hz, q H3 (e2.trans e3)⟩⟩

/-! ### settings as data -/
def SetD (C : Addr) (H : Hp) (a : Addr) (ds : List PyData) : Prop := ∃ (dx : Addr) (x0 x1 x2 x3 x4 x5 x6 x7 x8 x9 x10 x11 : V), H a = some (.ins C dx (fsS x0 x1 x2 x3 x4 x5 x6 x7 x8 x9 x10 x11)) ∧ Cels H [x0, x1, x2, x3, x4, x5, x6, x7, x8, x9, x10, x11] ds
theorem SetD.ex {C a : Addr} {H H' : Hp} {ds : List PyData} (h : SetD C H a ds) (e : Ex H H') : SetD C H' a ds := by
  obtain ⟨dx, x0, x1, x2, x3, x4, x5, x6, x7, x8, x9, x10, x11, h1, h2⟩ := h
  exact ⟨dx, x0, x1, x2, x3, x4, x5, x6, x7, x8, x9, x10, x11, e _ _ h1, h2.ex e⟩
def sp_seq (K : PySem.W.Frag) (C : Addr) : Sp := fun vs H Q _ => ∃ (a : Addr) (y : V) (ds : List PyData) (b : Bool), vs = [.ref a, y] ∧ SetD C H a ds ∧ ((∃ p es, y = .ref p ∧ SetD C H p es ∧ b = eqL ds es) ∨ (∃ t, (∀ H1, Ex H H1 → TyX K H1 y t) ∧ PySem.W.kitOne K t (.ref C) = some false ∧ b = false)) ∧ RetV (.bl b) H Q
theorem ok_Settings_eq (T : TX K mg) : FnOk P w K mg base CX0 1 T.a_Settings_eq T.d_Settings_eq ["self", "other"] (sp_seq K T.C_Settings) := by
  refine T.F_Settings_eq.ok sc_Settings_eq (fun vs H Q E h => by obtain ⟨a, y, ds, b, rfl, _⟩ := h; rfl) (fun cdv A outer s H vs Q E hr h => ?_)
  obtain ⟨a, y, ds, b, rfl, ha, hy, k⟩ := h
  refine ⟨_, (pss_one (ps_ret (pe_and (pe_callB (r := rIsi K) call_isi (by rfl) T.m_isinstance PyProof.Rows.boot_isinstance (pa_cons (pv 1) (pa_cons (pe_glob (v := V.ref T.C_Settings) (by rfl) T.g_Settings rfl) pa_nil))) (pe_and (pe_cmpR (op_eqD (hu64 hr)) (pe_fld (pv 0) rfl) (pe_fld (pv 1) rfl) (nomark _)) (pe_and (pe_cmpR (op_eqD (hu64 hr)) (pe_fld (pv 0) rfl) (pe_fld (pv 1) rfl) (nomark _)) (pe_and (pe_cmpR (op_eqD (hu64 hr)) (pe_fld (pv 0) rfl) (pe_fld (pv 1) rfl) (nomark _)) (pe_and (pe_cmpR (op_eqD (hu64 hr)) (pe_fld (pv 0) rfl) (pe_fld (pv 1) rfl) (nomark _)) (pe_and (pe_cmpR (op_eqD (hu64 hr)) (pe_fld (pv 0) rfl) (pe_fld (pv 1) rfl) (nomark _)) (pe_and (pe_cmpR (op_eqD (hu64 hr)) (pe_fld (pv 0) rfl) (pe_fld (pv 1) rfl) (nomark _)) (pe_and (pe_cmpR (op_eqD (hu64 hr)) (pe_fld (pv 0) rfl) (pe_fld (pv 1) rfl) (nomark _)) (pe_and (pe_cmpR (op_eqD (hu64 hr)) (pe_fld (pv 0) rfl) (pe_fld (pv 1) rfl) (nomark _)) (pe_and (pe_cmpR (op_eqD (hu64 hr)) (pe_fld (pv 0) rfl) (pe_fld (pv 1) rfl) (nomark _)) (pe_and (pe_cmpR (op_eqD (hu64 hr)) (pe_fld (pv 0) rfl) (pe_fld (pv 1) rfl) (nomark _)) (pe_and (pe_cmpR (op_eqD (hu64 hr)) (pe_fld (pv 0) rfl) (pe_fld (pv 1) rfl) (nomark _)) (pe_one (pe_cmpR (op_eqD (hu64 hr)) (pe_fld (pv 0) rfl) (pe_fld (pv 1) rfl) (nomark _))))))))))))))))), ?_⟩
  rcases hy with ⟨p, es, rfl, hp, rfl⟩ | ⟨t, ht, hk, rfl⟩
  · obtain ⟨dx, x0, x1, x2, x3, x4, x5, x6, x7, x8, x9, x10, x11, h1, h2⟩ := ha
    obtain ⟨dy, y0, y1, y2, y3, y4, y5, y6, y7, y8, y9, y10, y11, h3, h4⟩ := hp
    have fa : ∀ {f : Str} {v : V}, NoAttr K T.C_Settings f → (fsS x0 x1 x2 x3 x4 x5 x6 x7 x8 x9 x10 x11).lookup f = some v → Ev (tFld K (tVar 0) f) (start ["self", "other"] [.ref a, .ref p]) H v := fun hn hf => ev_fld T.cl_Settings hn (ev_var rfl) h1 hf
    have fb : ∀ {f : Str} {v : V}, NoAttr K T.C_Settings f → (fsS y0 y1 y2 y3 y4 y5 y6 y7 y8 y9 y10 y11).lookup f = some v → Ev (tFld K (tVar 1) f) (start ["self", "other"] [.ref a, .ref p]) H v := fun hn hf => ev_fld T.cl_Settings hn (ev_var rfl) h3 hf
    have eqq : ∀ {f : Str} {v u : V} {d e : PyData}, NoAttr K T.C_Settings f → (fsS x0 x1 x2 x3 x4 x5 x6 x7 x8 x9 x10 x11).lookup f = some v → (fsS y0 y1 y2 y3 y4 y5 y6 y7 y8 y9 y10 y11).lookup f = some u → Cel H v d → Cel H u e → Ev (tOp (rEqD K) (tFld K (tVar 0) f) (tFld K (tVar 1) f)) (start ["self", "other"] [.ref a, .ref p]) H (.bl (PyData.eqv d e)) := fun hn hf hg c c' => ev_eqDv (EvD.of (fa hn hf) c.dp) (EvD.of (fb hn hg) c'.dp) c.shaped c'.shaped
    cases h2 with | cons c0 h2 => cases h2 with | cons c1 h2 => cases h2 with | cons c2 h2 => cases h2 with | cons c3 h2 => cases h2 with | cons c4 h2 => cases h2 with | cons c5 h2 => cases h2 with | cons c6 h2 => cases h2 with | cons c7 h2 => cases h2 with | cons c8 h2 => cases h2 with | cons c9 h2 => cases h2 with | cons c10 h2 => cases h2 with | cons c11 h2 =>
    cases h2
    cases h4 with | cons d0 h2 => cases h2 with | cons d1 h2 => cases h2 with | cons d2 h2 => cases h2 with | cons d3 h2 => cases h2 with | cons d4 h2 => cases h2 with | cons d5 h2 => cases h2 with | cons d6 h2 => cases h2 with | cons d7 h2 => cases h2 with | cons d8 h2 => cases h2 with | cons d9 h2 => cases h2 with | cons d10 h2 => cases h2 with | cons d11 h2 =>
    cases h2
    refine s_ret (Ev.is (ev_andV (a := true) (ev_isiO (C := T.C_Settings) (t := .ref T.C_Settings) (ev_var rfl) (T.ty_Settings.ins T.cl_Settings h3) T.ki_Settings_Settings) fun _ => ev_andV (eqq T.n_Settings_block_size rfl rfl c0 d0) fun _ => ev_andV (eqq T.n_Settings_block_sizes rfl rfl c1 d1) fun _ => ev_andV (eqq T.n_Settings_fixed_order rfl rfl c2 d2) fun _ => ev_andV (eqq T.n_Settings_linear_order rfl rfl c3 d3) fun _ => ev_andV (eqq T.n_Settings_search rfl rfl c4 d4) fun _ => ev_andV (eqq T.n_Settings_precision rfl rfl c5 d5) fun _ => ev_andV (eqq T.n_Settings_partition_order rfl rfl c6 d6) fun _ => ev_andV (eqq T.n_Settings_wide rfl rfl c7 d7) fun _ => ev_andV (eqq T.n_Settings_stereo rfl rfl c8 d8) fun _ => ev_andV (eqq T.n_Settings_wasted rfl rfl c9 d9) fun _ => ev_andV (eqq T.n_Settings_seek_interval rfl rfl c10 d10) fun _ => eqq T.n_Settings_vendor rfl rfl c11 d11) ?_) fun H1 e1 => k H1 e1
    simp only [eqL, Bool.true_and, Bool.and_true]
  · exact s_ret (v := .bl false) (Ev.is (ev_andV (a := false) (b := false) (ev_isiO (C := T.C_Settings) (ev_var rfl) ht hk) fun h => by cases h) rfl) fun H1 e1 => k H1 e1
def okO : PyData → Bool
  | .none => true
  | .list l => !l.isEmpty
  | _ => false
/-- a row of twelve values, the second None or a list -/
def RowD (H : Hp) (p : Addr) (ds : List PyData) : Prop := ∃ vs d, H p = some (.lst vs) ∧ Cels H vs ds ∧ ds.length = 12 ∧ ds[1]? = some d ∧ okO d = true
theorem RowD.ex {H H' : Hp} {p : Addr} {ds : List PyData} (h : RowD H p ds) (e : Ex H H') : RowD H' p ds := by
  obtain ⟨vs, d, h1, h2, h3, h4, h5⟩ := h
  exact ⟨vs, d, e _ _ h1, h2.ex e, h3, h4, h5⟩
theorem fs12 {vs : List V} (h : vs.length = 12) : ∃ x0 x1 x2 x3 x4 x5 x6 x7 x8 x9 x10 x11, vs = [x0, x1, x2, x3, x4, x5, x6, x7, x8, x9, x10, x11] := by
  match vs, h with
  | [x0, x1, x2, x3, x4, x5, x6, x7, x8, x9, x10, x11], _ => exact ⟨x0, x1, x2, x3, x4, x5, x6, x7, x8, x9, x10, x11, rfl⟩
/-- the second value's list in the object is a new one -/
def SetN (C : Addr) (H H' : Hp) (a : Addr) (ds : List PyData) : Prop := ∃ (dx : Addr) (x0 x1 x2 x3 x4 x5 x6 x7 x8 x9 x10 x11 : V), H' a = some (.ins C dx (fsS x0 x1 x2 x3 x4 x5 x6 x7 x8 x9 x10 x11)) ∧ Cels H' [x0, x1, x2, x3, x4, x5, x6, x7, x8, x9, x10, x11] ds ∧ ∀ q, x1 = .ref q → H q = none
theorem SetN.d {C a : Addr} {H H' : Hp} {ds : List PyData} (h : SetN C H H' a ds) : SetD C H' a ds := by
  obtain ⟨dx, x0, x1, x2, x3, x4, x5, x6, x7, x8, x9, x10, x11, h1, h2, _⟩ := h
  exact ⟨dx, x0, x1, x2, x3, x4, x5, x6, x7, x8, x9, x10, x11, h1, h2⟩
theorem set_same {α : Type} {d : α} : ∀ {ds : List α} {i : Nat}, ds[i]? = some d → ds.set i d = ds
  | [], _, h => by simp at h
  | x :: r, 0, h => by cases h; rfl
  | x :: r, i + 1, h => by show x :: r.set i d = _; rw [set_same (by exact h)]
theorem OptL.mono {o : Option (List V)} {x : V} {H H' : Hp} (h : OptL o x H) (e : Ex H H') : OptL o x H' := by
  cases o with
  | none => exact h
  | some l =>
    obtain ⟨q, e1, g⟩ := h
    exact ⟨q, e1, e _ _ g⟩
def sp_lset (K : PySem.W.Frag) (C : Addr) : Sp := fun vs H Q _ => ∃ (p : Addr) (ds : List PyData), vs = [.ref p] ∧ RowD H p ds ∧ ∀ a H', H a = none → Ex H H' → SetN C H H' a ds → Q (.ref a) H'
theorem ok_law_settings (T : TX K mg) : FnOk P w K mg base CX0 3 T.a_law_settings T.d_law_settings ["row"] (sp_lset K T.C_Settings) := by
  refine T.F_law_settings.ok sc_law_settings (fun vs H Q E h => by obtain ⟨p, ds, rfl, _⟩ := h; rfl) (fun cdv A outer s H vs Q E hr h => ?_)
  obtain ⟨p, ds, rfl, ⟨vs, d, hp, hc, hl, hd, hok⟩, k⟩ := h
  refine ⟨_, (pss_one (ps_ret (pe_makeK T.M_Settings (ok_Settings_init T) (hr.mono (by decide)) (by rfl) T.g_Settings T.k2_block_sizes_fixed_order_linear_order_search_precision_partition_order_wide_stereo_wasted_seek_interval_vendor_Settings_init pass0 (pa_cons (pe_ix (r := rIxL K) ix_list (pv 0) pe_int (fun _ _ => rfl)) pa_nil) (pk_cons (pe_ix (r := rIxL K) ix_list (pv 0) pe_int (fun _ _ => rfl)) (pk_cons (pe_ix (r := rIxL K) ix_list (pv 0) pe_int (fun _ _ => rfl)) (pk_cons (pe_ix (r := rIxL K) ix_list (pv 0) pe_int (fun _ _ => rfl)) (pk_cons (pe_ix (r := rIxL K) ix_list (pv 0) pe_int (fun _ _ => rfl)) (pk_cons (pe_ix (r := rIxL K) ix_list (pv 0) pe_int (fun _ _ => rfl)) (pk_cons (pe_ix (r := rIxL K) ix_list (pv 0) pe_int (fun _ _ => rfl)) (pk_cons (pe_ix (r := rIxL K) ix_list (pv 0) pe_int (fun _ _ => rfl)) (pk_cons (pe_ix (r := rIxL K) ix_list (pv 0) pe_int (fun _ _ => rfl)) (pk_cons (pe_ix (r := rIxL K) ix_list (pv 0) pe_int (fun _ _ => rfl)) (pk_cons (pe_ix (r := rIxL K) ix_list (pv 0) pe_int (fun _ _ => rfl)) (pk_cons (pe_ix (r := rIxL K) ix_list (pv 0) pe_int (fun _ _ => rfl)) pk_nil)))))))))))))), ?_⟩
  obtain ⟨x0, x1, x2, x3, x4, x5, x6, x7, x8, x9, x10, x11, rfl⟩ := fs12 (hc.len.trans hl)
  have ix : ∀ {i : Nat} {v : V}, [x0, x1, x2, x3, x4, x5, x6, x7, x8, x9, x10, x11][i]? = some v → Ev (tOp (rIxL K) (tVar 0) (tC (.int (i : Int)))) (start ["row"] [.ref p]) H v := fun {i v} h => ev_ixS (i := 0) (n := (i : Int)) (Ev.s (ev_var rfl) (sq_of hp)) ev_c (at_of rfl h)
  obtain ⟨o, ho, hcd⟩ : ∃ o : Option (List V), OptL o x1 H ∧ ∀ G G' v, OptN o v G G' → Cel G' v d ∧ ∀ q, v = .ref q → G q = none := by
    obtain ⟨v, hv, c1⟩ := hc.at hd
    cases hv
    cases c1 with
    | non => exact ⟨none, rfl, fun G G' v h => ⟨h ▸ .non, fun q e => by rw [show v = .non from h] at e; cases e⟩⟩
    | lst hq hll => exact ⟨some _, ⟨_, rfl, hq⟩, fun G G' v h => by obtain ⟨q, rfl, h1, h2⟩ := h; exact ⟨.lst h2 hll, fun q' e => by cases e; exact h1⟩⟩
    | int i => cases hok
    | bl b => cases hok
    | str y hy => cases hok
  refine s_retN (R := fun a H' => SetN T.C_Settings H H' a ds) (en_makeKF (vs := [x0]) (zs := [x1, x2, x3, x4, x5, x6, x7, x8, x9, x10, x11]) (ea_cons (ix (i := 0) rfl) ea_nil) (ea_cons (ix (i := 1) rfl) (ea_cons (ix (i := 2) rfl) (ea_cons (ix (i := 3) rfl) (ea_cons (ix (i := 4) rfl) (ea_cons (ix (i := 5) rfl) (ea_cons (ix (i := 6) rfl) (ea_cons (ix (i := 7) rfl) (ea_cons (ix (i := 8) rfl) (ea_cons (ix (i := 9) rfl) (ea_cons (ix (i := 10) rfl) (ea_cons (ix (i := 11) rfl) ea_nil))))))))))) rfl rfl fun a dx G Q' E' eG hn hG k' => ⟨a, dx, x0, x1, x2, x3, x4, x5, x6, x7, x8, x9, x10, x11, o, rfl, hG, ho.mono eG, fun H' v hF hA hN => k' H' hF ⟨dx, x0, v, x2, x3, x4, x5, x6, x7, x8, x9, x10, x11, hA, ?_, fun q e => fresh_back eG ((hcd _ _ _ hN).2 q e)⟩⟩) fun a H2 ha e2 h2 => k a H2 ha e2 h2
  have := (hc.ex (hF.after eG hn)).set (hcd _ _ _ hN).1 1
  rwa [set_same hd] at this
def sp_lvals (C : Addr) : Sp := fun vs H Q _ => ∃ (a : Addr) (ds : List PyData), vs = [.ref a] ∧ SetD C H a ds ∧ ∀ p us H', Ex H H' → H' p = some (.lst us) → Cels H' us ds → Q (.ref p) H'
theorem ok_law_values (T : TX K mg) : FnOk P w K mg base CX0 1 T.a_law_values T.d_law_values ["told"] (sp_lvals T.C_Settings) := by
  refine T.F_law_values.ok sc_law_values (fun vs H Q E h => by obtain ⟨p, ds, rfl, _⟩ := h; rfl) (fun cdv A outer s H vs Q E hr h => ?_)
  obtain ⟨a, ds, rfl, ⟨dx, x0, x1, x2, x3, x4, x5, x6, x7, x8, x9, x10, x11, h1, h2⟩, k⟩ := h
  refine ⟨_, (pss_one (ps_ret (pe_lst (pa_cons (pe_fld (pv 0) rfl) (pa_cons (pe_fld (pv 0) rfl) (pa_cons (pe_fld (pv 0) rfl) (pa_cons (pe_fld (pv 0) rfl) (pa_cons (pe_fld (pv 0) rfl) (pa_cons (pe_fld (pv 0) rfl) (pa_cons (pe_fld (pv 0) rfl) (pa_cons (pe_fld (pv 0) rfl) (pa_cons (pe_fld (pv 0) rfl) (pa_cons (pe_fld (pv 0) rfl) (pa_cons (pe_fld (pv 0) rfl) (pa_cons (pe_fld (pv 0) rfl) pa_nil))))))))))))))), ?_⟩
  have f : ∀ {f : Str} {v : V}, NoAttr K T.C_Settings f → (fsS x0 x1 x2 x3 x4 x5 x6 x7 x8 x9 x10 x11).lookup f = some v → Ev (tFld K (tVar 0) f) (start ["told"] [.ref a]) H v := fun hn hf => ev_fld T.cl_Settings hn (ev_var rfl) h1 hf
  exact s_retL (el_lst (ea_cons (f T.n_Settings_block_size rfl) (ea_cons (f T.n_Settings_block_sizes rfl) (ea_cons (f T.n_Settings_fixed_order rfl) (ea_cons (f T.n_Settings_linear_order rfl) (ea_cons (f T.n_Settings_search rfl) (ea_cons (f T.n_Settings_precision rfl) (ea_cons (f T.n_Settings_partition_order rfl) (ea_cons (f T.n_Settings_wide rfl) (ea_cons (f T.n_Settings_stereo rfl) (ea_cons (f T.n_Settings_wasted rfl) (ea_cons (f T.n_Settings_seek_interval rfl) (ea_cons (f T.n_Settings_vendor rfl) ea_nil)))))))))))) (Nat.le_of_ble_eq_true rfl)) fun p H1 hp e1 g1 => k p _ H1 e1 g1 (h2.ex e1)
def sp_lsame : Sp := fun vs H Q _ => ∃ (a b : Addr) (us ws : List V) (ds : List PyData), vs = [.ref a, .ref b] ∧ H a = some (.lst us) ∧ H b = some (.lst ws) ∧ Cels H us ds ∧ Cels H ws ds ∧ ds.length = 12 ∧ RetV (.bl true) H Q
theorem ok_law_same (T : TX K mg) : FnOk P w K mg base CX0 1 T.a_law_same T.d_law_same ["actual", "expected"] sp_lsame := by
  refine T.F_law_same.ok sc_law_same (fun vs H Q E h => by obtain ⟨a, b, us, ws, ds, rfl, _⟩ := h; rfl) (fun cdv A outer s H vs Q E hr h => ?_)
  obtain ⟨a, b, us, ws, ds, rfl, ha, hb, h1, h2, hl, k⟩ := h
  refine ⟨_, (pss_cons (ps_for PassesOwn.never rfl (pi_range1 (by rfl) T.m_range (pa_cons pe_int pa_nil)) (pg_name (i := 2) sc_law_same.nd rfl (Or.inl rfl)) (pss_one (ps_if (PW.pt (pw_or (pt_cmpR op_ne (pe_callB (r := rIsi K) call_isi (by rfl) T.m_isinstance PyProof.Rows.boot_isinstance (pa_cons (pe_ix (r := rIxL K) ix_list (pv 0) (pv 2) (fun _ _ => rfl)) (pa_cons (pe_bltn (v := V.ty "bool") (by rfl) T.m_bool PyProof.Rows.boot_bool rfl) pa_nil))) (pe_callB (r := rIsi K) call_isi (by rfl) T.m_isinstance PyProof.Rows.boot_isinstance (pa_cons (pe_ix (r := rIxL K) ix_list (pv 1) (pv 2) (fun _ _ => rfl)) (pa_cons (pe_bltn (v := V.ty "bool") (by rfl) T.m_bool PyProof.Rows.boot_bool rfl) pa_nil))) (nomark _)) (pw_or1 (pt_cmpR (op_neD (hu64 hr)) (pe_ix (r := rIxL K) ix_list (pv 0) (pv 2) (fun _ _ => rfl)) (pe_ix (r := rIxL K) ix_list (pv 1) (pv 2) (fun _ _ => rfl)) (nomark _))))) (pss_one (ps_ret pe_bl)) pss_nil)))
      (pss_one (ps_ret (pe_cmpR op_eq (pe_callB (r := rLenS K) call_len_seq (by rfl) T.m_len PySem.boot_len (pa_cons (pv 0) pa_nil)) (pe_callB (r := rLenS K) call_len_seq (by rfl) T.m_len PySem.boot_len (pa_cons (pv 1) pa_nil)) (nomark _))))), ?_⟩
  refine q_forR1 (n := 12) (ea_cons ev_c ea_nil) (by omega) (fun i σ' H' => ∃ z2, σ' = [some (.ref a), some (.ref b), z2] ∧ Ex H H') (fun H1 e1 => ⟨none, rfl, e1⟩) ?_ ?_
  · rintro i σ' H1 hi ⟨z2, rfl, ex⟩
    have hd : ds[i]? = some ds[i] := List.getElem?_eq_getElem (by omega)
    obtain ⟨u, hu, cu⟩ := h1.at hd
    obtain ⟨x, hx, cx⟩ := h2.at hd
    generalize ds[i] = d at *
    have cu' := cu.ex ex
    have cx' := cx.ex ex
    obtain ⟨t, ht, hk⟩ := cu'.ty (K := K)
    obtain ⟨t', ht', hk'⟩ := cx'.ty (K := K)
    have iu : ∀ {H' : Hp}, Ex H1 H' → Ev (tOp (rIxL K) (tVar 0) (tVar 2)) [some (.ref a), some (.ref b), some (.int (i : Int))] H' u := fun e => ev_ixS (i := 0) (n := (i : Int)) (Ev.s (ev_var rfl) (sq_of ((ex.trans e) _ _ ha))) (ev_var rfl) (at_of rfl hu)
    have ix : ∀ {H' : Hp}, Ex H1 H' → Ev (tOp (rIxL K) (tVar 1) (tVar 2)) [some (.ref a), some (.ref b), some (.int (i : Int))] H' x := fun e => ev_ixS (i := 0) (n := (i : Int)) (Ev.s (ev_var rfl) (sq_of ((ex.trans e) _ _ hb))) (ev_var rfl) (at_of rfl hx)
    refine s_when (b := false) (et_is (et_or (a := false) (b := false) (et_is (et_test (ev_ne (ev_isi (iu (Ex.refl _)) ht hk) (ev_isi (ix (Ex.refl _)) ht' hk') rfl)) (by simp)) fun _ => et_is (et_test (ev_neDv (EvD.of (iu (Ex.refl _)) cu'.dp) (EvD.of (ix (Ex.refl _)) cx'.dp) cu.shaped cu.shaped)) (by rw [cu.self]; rfl)) rfl) (fun hb => by cases hb) fun _ H2 e2 => ⟨_, rfl, ex.trans e2⟩
  rintro σ' H1 ⟨z2, rfl, ex⟩
  exact s_ret (v := .bl true) (Ev.is (ev_eq (ev_lenS (K := K) (Ev.s (ev_var rfl) (sq_of (ex _ _ ha)))) (ev_lenS (K := K) (Ev.s (ev_var rfl) (sq_of (ex _ _ hb)))) rfl) (by rw [h1.len, h2.len]; simp)) fun H2 e2 => k H2 (ex.trans e2)
def sp_lsz : Sp := fun vs H Q _ => ∃ (c : Int), vs = [.int c] ∧ ∀ v d H', Ex H H' → Cel H' v d → okO d = true → Q v H'
theorem ok_law_sizes (T : TX K mg) : FnOk P w K mg base CX0 2 T.a_law_sizes T.d_law_sizes ["cell"] sp_lsz := by
  refine T.F_law_sizes.ok sc_law_sizes (fun vs H Q E h => by obtain ⟨p, rfl, _⟩ := h; rfl) (fun cdv A outer s H vs Q E hr h => ?_)
  obtain ⟨c, rfl, k⟩ := h
  refine ⟨_, (pss_cons (ps_set (i := 1) sc_law_sizes.nd rfl (Or.inl rfl) (pe_callB call_abs (by rfl) T.m_abs PyProof.Rows.boot_abs (pa_cons (pe_callTy call_int1 (by rfl) T.m_int PyProof.Rows.boot_int (pa_cons (pv 0) pa_nil)) pa_nil)))
      (pss_cons (ps_if (pt_cmpR op_eq (pe_op op_mod (pv 1) pe_int) pe_int (nomark _)) (pss_one (ps_ret pe_non)) pss_nil)
      (pss_one (ps_ret (pe_lc (own := [("x", 2)]) (g := gName 2) (tt := tYes) rfl sc_law_sizes.nd (pi_list (pe_call (ok_law_row T) (hr.mono (by decide)) (by rfl) T.g_law_row T.F_law_row.kp T.b_law_row .nil pass0 (pa_cons (pe_op op_fdivW (pv 1) pe_int) (pa_cons (pe_op op_add pe_int (pe_op op_mod (pv 1) pe_int)) (pa_cons pe_int pa_nil))))) (blkOk_by (N := ["cell", "rest", "x"]) (sc := defScope s_law_sizes) (by decide +kernel)) (fun _ _ _ _ _ => pg_name (i := 2) sc_law_sizes.nd rfl (Or.inl rfl)) (fun _ _ _ _ _ => pts_nil) (fun _ _ _ _ _ => (pe_op op_add pe_int (pv 2)))))))), ?_⟩
  refine q_asg (ev_abs (ev_int1 (ev_var rfl))) fun H1 e1 => ?_
  have hre : 0 ≤ (if c < 0 then -c else c) := by split <;> omega
  generalize (if c < 0 then -c else c) = re at *
  refine q_when (b := decide (re % 3 = 0)) (et_is (et_test (ev_eq (ev_I (ev_var rfl) ev_c (by decide)) ev_c rfl)) (by simp)) (fun hb H2 e2 => ?_) (fun hb H2 e2 => ?_)
  · exact s_ret (v := .non) ev_c fun H3 e3 => k .non .none H3 (e1.trans (e2.trans e3)) .non rfl
  · obtain ⟨cnt, hcnt⟩ : ∃ cnt : Nat, 1 + re % 4 = (cnt : Int) := ⟨(1 + re % 4).toNat, by omega⟩
    have e12 := e1.trans e2
    refine s_retLC (args := [.int (re / 3), .int (cnt : Int), .int 65520]) (ea_cons (ev_I (ev_var rfl) ev_c ⟨by decide, by decide⟩) (ea_cons (Ev.is (ev_I0 ev_c (ev_I (ev_var rfl) ev_c (by decide))) (congrArg V.int hcnt)) (ea_cons ev_c ea_nil))) fun H3 e3 => ⟨re / 3, cnt, 65520, rfl, by omega, by omega, by omega, fun pr ns H4 hpr e4 g4 hnl hnb => ?_⟩
    refine s_retL (xs := (ns.map fun x => 16 + x).map V.int) (el_lcS _ (Ev.s ev_c (sq_of g4)) (by rw [List.length_map, List.length_map, List.length_map]) (by rw [List.length_map, List.length_map]; omega) (fun _ => rfl) fun i x H5 e5 hx => ?_) fun p H5 hp e5 g5 => k _ _ H5 (e12.trans ((e3.trans e4).trans e5)) (.lst g5 (by rw [List.length_map]; omega)) ?_
    · obtain ⟨n, hn, hi, rfl⟩ := int_at hx
      exact ⟨_, at_int (n := 16 + n) (by rw [List.getElem?_map, hn]; rfl), ev_I0 ev_c (ev_var rfl)⟩
    · cases ns with
      | nil => rw [← hnl] at hcnt; simp at hcnt; omega
      | cons x r => rfl
theorem lcC {K : PySem.W.Frag} {σ : L2.St} {H : Hp} {te : TE} {vs : List Nat} {sp : Sp} {dvs args : List V} {E : XK} {ta : TA} {g : TG} {tt : TT} {Q : VK} (h : EvA ta σ H args) (k : ∀ H1, Ex H H1 → sp (args ++ dvs) H1 (fun x H2 => tLc (iList K (tC x)) g tt te vs σ H2 Q) E) :
    tLc (iList K (tCall sp dvs E ta)) g tt te vs σ H Q := h H (Ex.refl H) _ fun H1 e => k H1 e
theorem ev_lenStr {σ : L2.St} {H : Hp} {te : TE} {z : Str} (h : Ev te σ H (.str z)) (hl : z.length ≤ 100000) : Ev (tCB (fun xs H Q => ∃ z, xs = [V.str z] ∧ z.length ≤ sizeLine ∧ Q (V.int z.length) H) (tCons te tNil)) σ H (.int (z.length : Int)) := fun H1 e Q q => h H1 e _ fun H2 e2 => ⟨z, rfl, sz_of hl, q H2 e2⟩
theorem atI_nat' {α : Type} {xs : List α} {z : Int} {j : Nat} {v : α} (e : z = (j : Int)) (h : xs[j]? = some v) : atI xs z = some v := by
  rw [e]
  exact atI_nat h
def sp_lven : Sp := fun vs H Q _ => ∃ (c : Int), vs = [.int c] ∧ ∀ y H', Ex H H' → PyData.strOk y = true → Q (.str y) H'
theorem ok_law_vendor (T : TX K mg) : FnOk P w K mg base CX0 2 T.a_law_vendor T.d_law_vendor ["cell"] sp_lven := by
  refine T.F_law_vendor.ok sc_law_vendor (fun vs H Q E h => by obtain ⟨p, rfl, _⟩ := h; rfl) (fun cdv A outer s H vs Q E hr h => ?_)
  obtain ⟨c, rfl, k⟩ := h
  refine ⟨_, (pss_cons (ps_set (i := 1) sc_law_vendor.nd rfl (Or.inr rfl) pe_str)
      (pss_one (ps_ret (pe_bm PySem.F.plainAttrs_str PySem.F.slot_str_join PySem.F.type_str_join mt_join pe_str (pa_cons (pe_lc (own := [("x", 2)]) (g := gName 2) (tt := tYes) rfl sc_law_vendor.nd (pi_list (pe_call (ok_law_row T) (hr.mono (by decide)) (by rfl) T.g_law_row T.F_law_row.kp T.b_law_row .nil pass0 (pa_cons (pv 0) (pa_cons (pe_op op_mod (pe_callB call_abs (by rfl) T.m_abs PyProof.Rows.boot_abs (pa_cons (pe_callTy call_int1 (by rfl) T.m_int PyProof.Rows.boot_int (pa_cons (pv 0) pa_nil)) pa_nil)) pe_int) (pa_cons (pe_callB call_len_str (by rfl) T.m_len PySem.boot_len (pa_cons (pv 1) pa_nil)) pa_nil))))) (blkOk_by (N := ["cell", "signs", "x"]) (sc := defScope s_law_vendor) (by decide +kernel)) (fun _ _ _ _ _ => pg_name (i := 2) sc_law_vendor.nd rfl (Or.inl rfl)) (fun _ _ _ _ _ => pts_nil) (fun _ _ _ _ _ => (pe_ix (r := rIxS) ix_str (pv 1) (pv 2) (fun _ _ => rfl)))) pa_nil))))), ?_⟩
  refine q_asg ev_c fun H1 e1 => ?_
  obtain ⟨S, hS⟩ : ∃ S : Str, (" !#$&()*+,-/019:;<=>?@AMZ[]^_.amz{|}~" : Str) = S := ⟨_, rfl⟩
  have hl : S.length = 37 := by rw [← hS]; decide +kernel
  have hok : PyData.strOk S = true := by rw [← hS]; decide +kernel
  have hl2 : S.cps.toList.length = 37 := by rw [Array.length_toList]; exact hl
  rw [hS]
  have hc9 : 0 ≤ (if c < 0 then -c else c) % 9 ∧ (if c < 0 then -c else c) % 9 < 9 := by omega
  obtain ⟨cnt, hcnt⟩ : ∃ cnt : Nat, (if c < 0 then -c else c) % 9 = (cnt : Int) := ⟨((if c < 0 then -c else c) % 9).toNat, by omega⟩
  refine (⟨rfl, ?_⟩ : tBM K "str" (rJoin K) (tC (.str "")) _ _ _ _)
  refine lcC (args := [.int c, .int (cnt : Int), .int 37]) (ea_cons (ev_var rfl) (ea_cons (Ev.is (ev_I (ev_abs (ev_int1 (ev_var rfl))) ev_c (by decide)) (congrArg V.int hcnt)) (ea_cons (Ev.is (ev_lenStr (z := S) (ev_var rfl) (by omega)) (by rw [hl]; rfl)) ea_nil))) fun H3 e3 => ⟨c, cnt, 37, rfl, by omega, by decide, by decide, fun pr ns H4 hpr e4 g4 hnl hnb => ?_⟩
  have e14 := e1.trans (e3.trans e4)
  refine el_lcS (K := K) ((ns.map fun n => (⟨#[S.cps.toList.getD n.toNat 0]⟩ : Str)).map V.str) (Ev.s ev_c (sq_of g4)) (by simp only [List.length_map]) (by simp only [List.length_map]; omega) (fun _ => rfl) (fun i x G eG hx => ?_) H4 (Ex.refl _) _ fun p H5 hp e5 g5 => ⟨"", p, ns.map fun n => (⟨#[S.cps.toList.getD n.toNat 0]⟩ : Str), rfl, rfl, .inl (sq_of g5), ?_, k _ H5 (e14.trans e5) (ok_join (by decide +kernel) fun y hy => ?_)⟩
  · obtain ⟨n, hn, hi, rfl⟩ := int_at hx
    have hb := hnb n (List.mem_of_getElem? hn)
    refine ⟨.str ⟨#[S.cps.toList.getD n.toNat 0]⟩, by rw [List.getElem?_map, List.getElem?_map, hn]; rfl, ?_⟩
    refine ev_op (ev_var rfl) (ev_var rfl) (rv_ixS (by omega) ?_)
    refine atI_nat' (j := n.toNat) (by omega) ?_
    rw [List.getD_eq_getElem?_getD, List.getElem?_eq_getElem (by omega)]
    rfl
  · have : (ns.map fun n => (⟨#[S.cps.toList.getD n.toNat 0]⟩ : Str)).map (·.length) = List.replicate ns.length 1 := by
      rw [List.map_map]
      exact List.eq_replicate_iff.mpr ⟨List.length_map .., fun b hb => by obtain ⟨n, _, rfl⟩ := List.mem_map.mp hb; rfl⟩
    rw [this, List.sum_replicate_nat, List.length_map, hnl]
    show cnt * 1 + cnt * 0 ≤ _
    omega
  · obtain ⟨n, hn, rfl⟩ := List.mem_map.mp hy
    have hb := hnb n hn
    show (#[S.cps.toList.getD n.toNat 0]).all _ = true
    have hm : S.cps.toList.getD n.toNat 0 ∈ S.cps := by
      rw [List.getD_eq_getElem?_getD, List.getElem?_eq_getElem (by omega)]
      exact Array.mem_toList_iff.mp (List.getElem_mem _)
    unfold PyData.strOk at hok
    have := (Array.all_eq_true_iff_forall_mem.mp hok) _ hm
    simpa using this
def sp_ldrawn (K : PySem.W.Frag) : Sp := fun vs H Q _ => ∃ (a : Addr) (ns : List Int) (t : Int), vs = [.ref a, .int t] ∧ SqL K H a (ns.map V.int) ∧ 0 ≤ t ∧ ∀ p vs i0 d1 i2 i3 b4 i5 i6 b7 b8 b9 i10 y H', H p = none → Ex H H' → H' p = some (.lst vs) → Cels H' vs [.int i0, d1, .int i2, .int i3, .bool b4, .int i5, .int i6, .bool b7, .bool b8, .bool b9, .int i10, .str y] → okO d1 = true → Q (.ref p) H'
theorem up_cel (P : PyData → Prop) : Up fun v G => ∃ d, Cel G v d ∧ P d := fun v H H' e ⟨d, h, hp⟩ => ⟨d, h.ex e, hp⟩
theorem ok_law_drawn (T : TX K mg) : FnOk P w K mg base CX0 3 T.a_law_drawn T.d_law_drawn ["script", "at"] (sp_ldrawn K) := by
  refine T.F_law_drawn.ok sc_law_drawn (fun vs H Q E h => by obtain ⟨a, ns, t, rfl, _⟩ := h; rfl) (fun cdv A outer s H vs Q E hr h => ?_)
  obtain ⟨a, ns, t, rfl, hS, ht, k⟩ := h
  refine ⟨_, (pss_cons (ps_set (i := 2) sc_law_drawn.nd rfl (Or.inl rfl) (pe_call (ok_law_row T) (hr.mono (by decide)) (by rfl) T.g_law_row T.F_law_row.kp T.b_law_row .nil pass0 (pa_cons (pe_call (ok_law_cell T) (hr.mono (by decide)) (by rfl) T.g_law_cell T.F_law_cell.kp T.b_law_cell .nil pass0 (pa_cons (pv 0) (pa_cons (pv 1) pa_nil))) (pa_cons pe_int (pa_cons pe_int pa_nil)))))
      (pss_one (ps_ret (pe_lst (pa_cons (pe_op op_add pe_int (pe_op op_mod (pe_ix (r := rIxL K) ix_list (pv 2) pe_int (fun _ _ => rfl)) pe_int)) (pa_cons (pe_call (ok_law_sizes T) (hr.mono (by decide)) (by rfl) T.g_law_sizes T.F_law_sizes.kp T.b_law_sizes .nil pass0 (pa_cons (pe_call (ok_law_cell T) (hr.mono (by decide)) (by rfl) T.g_law_cell T.F_law_cell.kp T.b_law_cell .nil pass0 (pa_cons (pv 0) (pa_cons (pe_op op_add (pv 1) pe_int) pa_nil))) pa_nil)) (pa_cons (pe_op op_mod (pe_ix (r := rIxL K) ix_list (pv 2) pe_int (fun _ _ => rfl)) pe_int) (pa_cons (pe_op op_mod (pe_ix (r := rIxL K) ix_list (pv 2) pe_int (fun _ _ => rfl)) pe_int) (pa_cons (pe_cmpR op_eq (pe_op op_mod (pe_ix (r := rIxL K) ix_list (pv 2) pe_int (fun _ _ => rfl)) pe_int) pe_int (nomark _)) (pa_cons (pe_op op_add pe_int (pe_op op_mod (pe_ix (r := rIxL K) ix_list (pv 2) pe_int (fun _ _ => rfl)) pe_int)) (pa_cons (pe_op op_mod (pe_ix (r := rIxL K) ix_list (pv 2) pe_int (fun _ _ => rfl)) pe_int) (pa_cons (pe_cmpR op_eq (pe_op op_mod (pe_ix (r := rIxL K) ix_list (pv 2) pe_int (fun _ _ => rfl)) pe_int) pe_int (nomark _)) (pa_cons (pe_cmpR op_eq (pe_op op_mod (pe_ix (r := rIxL K) ix_list (pv 2) pe_int (fun _ _ => rfl)) pe_int) pe_int (nomark _)) (pa_cons (pe_cmpR op_eq (pe_op op_mod (pe_ix (r := rIxL K) ix_list (pv 2) pe_int (fun _ _ => rfl)) pe_int) pe_int (nomark _)) (pa_cons (pe_ix (r := rIxL K) ix_list (pv 2) pe_int (fun _ _ => rfl)) (pa_cons (pe_call (ok_law_vendor T) (hr.mono (by decide)) (by rfl) T.g_law_vendor T.F_law_vendor.kp T.b_law_vendor .nil pass0 (pa_cons (pe_call (ok_law_cell T) (hr.mono (by decide)) (by rfl) T.g_law_cell T.F_law_cell.kp T.b_law_cell .nil pass0 (pa_cons (pv 0) (pa_cons (pe_op op_add (pv 1) pe_int) pa_nil))) pa_nil)) pa_nil)))))))))))))))), ?_⟩
  refine q_asgC (vs := [.int (cellI ns t), .int ((10 : Nat) : Int), .int 1000003]) (ea_cons (ev_cell (ev_var rfl) hS (ev_var rfl) ht) (ea_cons ev_c (ea_cons ev_c ea_nil))) fun H1 e1 => ⟨_, 10, 1000003, rfl, by decide, by decide, by decide, fun pr rs H2 hpr e2 g2 hrl hrb => ?_⟩
  have e12 := e1.trans e2
  have ix : ∀ {i : Nat} {H' : Hp}, i < 10 → Ex H2 H' → Ev (tOp (rIxL K) (tVar 2) (tC (.int (i : Int)))) [some (.ref a), some (.int t), some (.ref pr)] H' (.int (rs.getD i 0)) := fun {i H'} hi e => ev_ixS (i := 0) (n := (i : Int)) (Ev.s (ev_var rfl) (sq_of (e _ _ g2))) ev_c (at_of rfl (at_int (gl_get (by omega))))
  have bq : ∀ {i : Nat} {m : Int} {H' : Hp}, i < 10 → Ex H2 H' → 0 < m → Ev (tOp (rI (fun _ j => 0 < j) fun i j => .int (i % j)) (tOp (rIxL K) (tVar 2) (tC (.int (i : Int)))) (tC (.int m))) [some (.ref a), some (.int t), some (.ref pr)] H' (.int (rs.getD i 0 % m)) := fun hi e hm => ev_I (ix hi e) ev_c hm
  have be : ∀ {i : Nat} {H' : Hp}, i < 10 → Ex H2 H' → Ev (tOp rEq (tOp (rI (fun _ j => 0 < j) fun i j => .int (i % j)) (tOp (rIxL K) (tVar 2) (tC (.int (i : Int)))) (tC (.int 2))) (tC (.int 1))) [some (.ref a), some (.int t), some (.ref pr)] H' (.bl (decide (rs.getD i 0 % 2 = 1))) := fun hi e => ev_is (ev_eq (bq hi e (by decide)) ev_c rfl) (by simp)
  have r0 := Ex.refl H2
  refine s_retAPL (ap_ev (ev_I0 ev_c (bq (i := 0) (by decide) r0 (by decide))) (ap_x (S := fun v G => ∃ d, Cel G v d ∧ okO d = true) (ex_call1 (S := fun v _ => v = .int (cellI ns (t + 1))) (Ev.x (ev_cell (ev_var rfl) (ex_l e12 hS) (ev_I0 (ev_var rfl) ev_c) (by omega)) fun _ _ => rfl) fun v G Q' E' eG hv q => ⟨cellI ns (t + 1), by rw [hv]; rfl, fun v d H' e c h => q v H' e ⟨d, c, h⟩⟩) (up_cel _) (ap_ev (bq (i := 1) (by decide) r0 (by decide)) (ap_ev (bq (i := 2) (by decide) r0 (by decide)) (ap_ev (be (i := 3) (by decide) r0) (ap_ev (ev_I0 ev_c (bq (i := 4) (by decide) r0 (by decide))) (ap_ev (bq (i := 5) (by decide) r0 (by decide)) (ap_ev (be (i := 6) (by decide) r0) (ap_ev (be (i := 7) (by decide) r0) (ap_ev (be (i := 8) (by decide) r0) (ap_ev (ix (i := 9) (by decide) r0) (ap_x (S := fun v _ => ∃ y, v = .str y ∧ PyData.strOk y = true) (ex_call1 (S := fun v _ => v = .int (cellI ns (t + 2))) (Ev.x (ev_cell (ev_var rfl) (ex_l e12 hS) (ev_I0 (ev_var rfl) ev_c) (by omega)) fun _ _ => rfl) fun v G Q' E' eG hv q => ⟨cellI ns (t + 2), by rw [hv]; rfl, fun y H' e h => q _ H' e ⟨y, rfl, h⟩⟩) (fun v H H' _ h => h) ap_nil)))))))))))) (fun vs G hR => ?_) fun p vs G1 G2 hp e hR e' gp => ?_
  · obtain ⟨_, rfl, _, _, rfl, _, _, rfl, _, rfl, _, rfl, _, rfl, _, rfl, _, rfl, _, rfl, _, rfl, _, rfl, _, _, rfl, _, rfl⟩ := hR
    exact Nat.le_of_ble_eq_true rfl
  · obtain ⟨_, rfl, v1, _, rfl, ⟨d1, c1, hok⟩, _, rfl, _, rfl, _, rfl, _, rfl, _, rfl, _, rfl, _, rfl, _, rfl, _, rfl, _, _, rfl, ⟨y, rfl, hy⟩, rfl⟩ := hR
    exact k p _ _ _ _ _ _ _ _ _ _ _ _ _ G2 (fresh_back e12 hp) (e12.trans (e.trans e')) gp (.cons (.int _) (.cons (c1.ex e') (.cons (.int _) (.cons (.int _) (.cons (.bl _) (.cons (.int _) (.cons (.int _) (.cons (.bl _) (.cons (.bl _) (.cons (.bl _) (.cons (.int _) (.cons (.str y hy) .nil)))))))))))) hok
/-! ### the law -/
section
variable {σ : L2.St} {H : Hp} {C : Addr} {te ta tb : TE} {E E' : XK} {ds es : List PyData}
def SdX (C : Addr) (ds : List PyData) : V → Hp → Prop := fun v G => ∃ a, v = .ref a ∧ SetD C G a ds
theorem up_sd : Up (SdX C ds) := fun v H H' e ⟨a, e1, h⟩ => ⟨a, e1, h.ex e⟩
theorem sameX {i : Nat} {pp : Addr} {vs : List V} (h : EvX te σ H (SdX C ds)) (hv : σ[i]? = some (some (.ref pp))) (hp : H pp = some (.lst vs)) (hc : Cels H vs ds) (hl : ds.length = 12) : Ev (tCall sp_lsame [] E (tCons (tCall (sp_lvals C) [] E' (tCons te tNil)) (tCons (tVar i) tNil))) σ H (.bl true) :=
  EvX.val (ex_call2 (S := fun v G => ∃ p us, v = .ref p ∧ G p = some (.lst us) ∧ Cels G us ds) (S2 := fun v _ => v = .ref pp) (ex_call1 h fun v G Q E e ⟨a, hv, hd⟩ q => ⟨a, ds, by rw [hv]; rfl, hd, fun p us H' e' g c => q _ H' e' ⟨p, us, rfl, g, c⟩⟩) (fun v G G' e ⟨p, us, h1, h2, h3⟩ => ⟨p, us, h1, e _ _ h2, h3.ex e⟩) (Ev.x (ev_var hv) fun _ _ => rfl) fun v w G Q E e ⟨p, us, hv, g, c⟩ hw q => ⟨p, pp, us, vs, ds, by rw [hv, hw]; rfl, g, e _ _ hp, c, hc.ex e, hl, fun H' e' => q _ H' e' rfl⟩)
theorem setX {i : Nat} {p : Addr} (hv : σ[i]? = some (some (.ref p))) (hr : RowD H p ds) : EvX (tCall (sp_lset K C) [] E (tCons (tVar i) tNil)) σ H (SdX C ds) :=
  ex_call1 (S := fun v _ => v = .ref p) (Ev.x (ev_var hv) fun _ _ => rfl) fun v G Q E e hv q => ⟨p, ds, by rw [hv]; rfl, hr.ex e, fun a H' _ e' h => q _ H' e' ⟨a, rfl, h.d⟩⟩
end
theorem eqX (T : TX K mg) {σ : L2.St} {H : Hp} {ta tb : TE} {E : XK} {ds es : List PyData} (ha : EvX ta σ H (SdX T.C_Settings ds)) (hb : EvX tb σ H (SdX T.C_Settings es)) : Ev (tOp (rEqO T.C_Settings (sp_seq K T.C_Settings) E K) ta tb) σ H (.bl (eqL ds es)) :=
  ev_eqX ha up_sd hb fun x y G e ⟨a, hx, h1⟩ ⟨b, hy, h2⟩ => by
    obtain ⟨dx, x0, x1, x2, x3, x4, x5, x6, x7, x8, x9, x10, x11, g1, c1⟩ := id h1
    obtain ⟨dy, y0, y1, y2, y3, y4, y5, y6, y7, y8, y9, y10, y11, g2, c2⟩ := id h2
    refine ⟨a, dx, _, .ref T.C_Settings, hx, g1, ?_, T.nf_Settings_Settings, fun G1 e1 Q q E => ⟨a, y, ds, _, rfl, h1.ex e1, .inl ⟨b, es, hy, h2.ex e1, rfl⟩, q⟩⟩
    rw [hy]
    exact T.ty_Settings.ins T.cl_Settings g2 G (Ex.refl _)
theorem neX (T : TX K mg) {σ : L2.St} {H : Hp} {ta tb : TE} {E : XK} {ds : List PyData} {S2 : V → Hp → Prop} (ha : EvX ta σ H (SdX T.C_Settings ds)) (hb : EvX tb σ H S2) (h : ∀ y G, S2 y G → ∃ t, (∀ H1, Ex G H1 → TyX K H1 y t) ∧ PySem.W.kitOne K t (.ref T.C_Settings) = some false ∧ PySem.W.notFirst K T.C_Settings t = true) : Ev (tOp (rEqO T.C_Settings (sp_seq K T.C_Settings) E K) ta tb) σ H (.bl false) :=
  ev_eqX ha up_sd hb fun x y G e ⟨a, hx, h1⟩ h2 => by
    obtain ⟨dx, x0, x1, x2, x3, x4, x5, x6, x7, x8, x9, x10, x11, g1, c1⟩ := id h1
    obtain ⟨t, t1, t2, t3⟩ := h y G h2
    exact ⟨a, dx, _, t, hx, g1, t1 G (Ex.refl _), t3, fun G1 e1 Q q E => ⟨a, y, ds, _, rfl, h1.ex e1, .inr ⟨t, fun H1 e2 => t1 H1 (e1.trans e2), t2, rfl⟩, q⟩⟩
theorem s_setLL {σ : L2.St} {H : Hp} {ta tb te : TE} {D : Ends} {l : Addr} {xs ys : List V} {j : Nat} (hl : H l = some (.lst xs)) (h : EvL te σ H ys) (ho : Ev ta σ H (.ref l)) (hi : Ev tb σ H (.int (j : Int))) (hj : j < xs.length) (k : ∀ p H1, H p = none → Ex H H1 → H1 p = some (.lst ys) → D.nx σ (upd H1 l (.lst (xs.set j (.ref p))))) : tAsg te (gSub ta tb rSetL) D σ H :=
  h H (Ex.refl H) _ fun p H1 hp e1 g1 => ho H1 e1 _ fun H2 e2 => hi H2 (e1.trans e2) _ fun H3 e3 => ⟨l, xs, j, j, rfl, rfl, (e1.trans (e2.trans e3)) _ _ hl, ixN_nat hj, k p H3 hp (e1.trans (e2.trans e3)) ((e2.trans e3) _ _ g1)⟩
theorem cels_typ {H : Hp} {vs : List V} {i0 i2 i3 i5 i6 i10 : Int} {b4 b7 b8 b9 : Bool} {d1 : PyData} {y : Str} (h : Cels H vs [.int i0, d1, .int i2, .int i3, .bool b4, .int i5, .int i6, .bool b7, .bool b8, .bool b9, .int i10, .str y]) :
    ∃ v1, vs = [.int i0, v1, .int i2, .int i3, .bl b4, .int i5, .int i6, .bl b7, .bl b8, .bl b9, .int i10, .str y] ∧ Cel H v1 d1 ∧ PyData.strOk y = true := by
  cases h with | cons c0 h => cases h with | cons c1 h => cases h with | cons c2 h => cases h with | cons c3 h => cases h with | cons c4 h => cases h with | cons c5 h => cases h with | cons c6 h => cases h with | cons c7 h => cases h with | cons c8 h => cases h with | cons c9 h => cases h with | cons c10 h => cases h with | cons c11 h =>
  cases h
  cases c0; cases c2; cases c3; cases c4; cases c5; cases c6; cases c7; cases c8; cases c9; cases c10
  cases c11 with | str y hy =>
  exact ⟨_, rfl, c1, hy⟩
theorem cels_mk {H : Hp} {v1 : V} {i0 i2 i3 i5 i6 i10 : Int} {b4 b7 b8 b9 : Bool} {d1 : PyData} {y : Str} (c : Cel H v1 d1) (hy : PyData.strOk y = true) : Cels H [.int i0, v1, .int i2, .int i3, .bl b4, .int i5, .int i6, .bl b7, .bl b8, .bl b9, .int i10, .str y] [.int i0, d1, .int i2, .int i3, .bool b4, .int i5, .int i6, .bool b7, .bool b8, .bool b9, .int i10, .str y] :=
  .cons (.int _) (.cons c (.cons (.int _) (.cons (.int _) (.cons (.bl _) (.cons (.int _) (.cons (.int _) (.cons (.bl _) (.cons (.bl _) (.cons (.bl _) (.cons (.int _) (.cons (.str y hy) .nil)))))))))))
def sp_law (K : PySem.W.Frag) : Sp := fun vs H Q _ => ∃ (a : Addr) (ns : List Int), vs = [.ref a] ∧ SqL K H a (ns.map V.int) ∧ ns.length ≤ 63 ∧ ∀ H', Q (.bl true) H'
theorem ok_law (T : TX K mg) : FnOk P w K mg base CX0 4 T.a_law T.d_law ["script"] (sp_law K) := by
  refine T.F_law.ok sc_law (fun vs H Q E h => by obtain ⟨a, ns, rfl, _⟩ := h; rfl) (fun cdv A outer s H vs Q E hr h => ?_)
  obtain ⟨a, ns, rfl, hS, hlen, k⟩ := h
  refine ⟨_, (pss_cons (ps_set (i := 1) sc_law.nd rfl (Or.inl rfl) (pe_call (ok_law_drawn T) (hr.mono (by decide)) (by rfl) T.g_law_drawn T.F_law_drawn.kp T.b_law_drawn .nil pass0 (pa_cons (pv 0) (pa_cons pe_int pa_nil))))
      (pss_cons (ps_set (i := 2) sc_law.nd rfl (Or.inl rfl) (pe_lst (pa_cons (pe_ix (r := rIxL K) ix_list (pv 1) pe_int (fun _ _ => rfl)) (pa_cons pe_non (pa_cons pe_int (pa_cons pe_int (pa_cons pe_bl (pa_cons pe_int (pa_cons pe_int (pa_cons pe_bl (pa_cons pe_bl (pa_cons pe_bl (pa_cons pe_int (pa_cons pe_str pa_nil))))))))))))))
      (pss_cons (ps_if (pt_not (pt_val (pe_call (ok_law_same T) (hr.mono (by decide)) (by rfl) T.g_law_same T.F_law_same.kp T.b_law_same .nil pass0 (pa_cons (pe_call (ok_law_values T) (hr.mono (by decide)) (by rfl) T.g_law_values T.F_law_values.kp T.b_law_values .nil pass0 (pa_cons (pe_make T.M_Settings (ok_Settings_init T) (hr.mono (by decide)) (by rfl) T.g_Settings T.b2_Settings_init T.v2_Settings_init pass0 (pa_cons (pe_ix (r := rIxL K) ix_list (pv 1) pe_int (fun _ _ => rfl)) pa_nil)) pa_nil)) (pa_cons (pv 2) pa_nil))))) (pss_one (ps_ret pe_bl)) pss_nil)
      (pss_cons (ps_set (i := 3) sc_law.nd rfl (Or.inl rfl) (pe_callTy (r := rListS K) call_list_of (by rfl) T.m_list PyProof.Rows.boot_list (pa_cons (pv 1) pa_nil)))
      (pss_cut (ps_if (pt_cmpR op_notN1 (pe_ix (r := rIxL K) ix_list (pv 1) pe_int (fun _ _ => rfl)) pe_non (nomark _)) (pss_one (ps_asg (pe_callTy (r := rListS K) call_list_of (by rfl) T.m_list PyProof.Rows.boot_list (pa_cons (pe_ix (r := rIxL K) ix_list (pv 1) pe_int (fun _ _ => rfl)) pa_nil)) (pg_sub (pv 3) pe_int set_list))) pss_nil)
      (pss_cons (ps_set (i := 4) sc_law.nd rfl (Or.inl rfl) (pe_call (ok_law_settings T) (hr.mono (by decide)) (by rfl) T.g_law_settings T.F_law_settings.kp T.b_law_settings .nil pass0 (pa_cons (pv 3) pa_nil)))
      (pss_cut (ps_if (pt_cmpR op_notN1 (pe_ix (r := rIxL K) ix_list (pv 1) pe_int (fun _ _ => rfl)) pe_non (nomark _)) (pss_cons (ps_expr (pe_bm PySem.F.plainAttrs_list PySem.F.slot_list_append PySem.F.type_list_append mt_append (pe_ix (r := rIxL K) ix_list (pv 3) pe_int (fun _ _ => rfl)) (pa_cons pe_int pa_nil)))
        (pss_one (ps_asg pe_int (pg_sub (pe_ix (r := rIxL K) ix_list (pv 3) pe_int (fun _ _ => rfl)) pe_int set_list)))) pss_nil)
      (pss_cons (ps_if (pt_not (pt_val (pe_call (ok_law_same T) (hr.mono (by decide)) (by rfl) T.g_law_same T.F_law_same.kp T.b_law_same .nil pass0 (pa_cons (pe_call (ok_law_values T) (hr.mono (by decide)) (by rfl) T.g_law_values T.F_law_values.kp T.b_law_values .nil pass0 (pa_cons (pv 4) pa_nil)) (pa_cons (pv 1) pa_nil))))) (pss_one (ps_ret pe_bl)) pss_nil)
      (pss_cons (ps_if (PW.pt (pw_or (pt_not (pt_cmpR (op_eqO (ok_Settings_eq T) T.me_Settings_eq.at_ T.me_Settings_eq.fn T.b_Settings_eq pass0 (hr.mono (by decide))) (pv 4) (pe_call (ok_law_settings T) (hr.mono (by decide)) (by rfl) T.g_law_settings T.F_law_settings.kp T.b_law_settings .nil pass0 (pa_cons (pv 1) pa_nil)) (nomark _))) (pw_or1 (pt_not (pt_cmpR (op_eqO (ok_Settings_eq T) T.me_Settings_eq.at_ T.me_Settings_eq.fn T.b_Settings_eq pass0 (hr.mono (by decide))) (pe_make T.M_Settings (ok_Settings_init T) (hr.mono (by decide)) (by rfl) T.g_Settings T.b2_Settings_init T.v2_Settings_init pass0 (pa_cons (pe_ix (r := rIxL K) ix_list (pv 1) pe_int (fun _ _ => rfl)) pa_nil)) (pe_call (ok_law_settings T) (hr.mono (by decide)) (by rfl) T.g_law_settings T.F_law_settings.kp T.b_law_settings .nil pass0 (pa_cons (pv 2) pa_nil)) (nomark _)))))) (pss_one (ps_ret pe_bl)) pss_nil)
      (pss_cons (ps_set (i := 5) sc_law.nd rfl (Or.inl rfl) (pe_call (ok_law_drawn T) (hr.mono (by decide)) (by rfl) T.g_law_drawn T.F_law_drawn.kp T.b_law_drawn .nil pass0 (pa_cons (pv 0) (pa_cons pe_int pa_nil))))
      (pss_cons (ps_for PassesOwn.never rfl (pi_range1 (by rfl) T.m_range (pa_cons pe_int pa_nil)) (pg_name (i := 6) sc_law.nd rfl (Or.inl rfl)) (pss_cons (ps_set (i := 7) sc_law.nd rfl (Or.inl rfl) (pe_callTy (r := rListS K) call_list_of (by rfl) T.m_list PyProof.Rows.boot_list (pa_cons (pv 1) pa_nil)))
        (pss_cons (ps_asg (pe_ix (r := rIxL K) ix_list (pv 5) (pv 6) (fun _ _ => rfl)) (pg_sub (pv 7) (pv 6) set_list))
        (pss_one (ps_if (pt_cmpR op_ne (pe_cmpR (op_eqO (ok_Settings_eq T) T.me_Settings_eq.at_ T.me_Settings_eq.fn T.b_Settings_eq pass0 (hr.mono (by decide))) (pv 4) (pe_call (ok_law_settings T) (hr.mono (by decide)) (by rfl) T.g_law_settings T.F_law_settings.kp T.b_law_settings .nil pass0 (pa_cons (pv 7) pa_nil)) (nomark _)) (pe_cmpR (op_eqD (hu64 hr)) (pe_ix (r := rIxL K) ix_list (pv 1) (pv 6) (fun _ _ => rfl)) (pe_ix (r := rIxL K) ix_list (pv 5) (pv 6) (fun _ _ => rfl)) (nomark _)) (nomark _)) (pss_one (ps_ret pe_bl)) pss_nil)))))
      (pss_cons (ps_for PassesOwn.never rfl (pi_list (pe_lst (pa_cons pe_int (pa_cons pe_int (pa_cons pe_int (pa_cons pe_int pa_nil)))))) (pg_name (i := 6) sc_law.nd rfl (Or.inl rfl)) (pss_cons (ps_set (i := 7) sc_law.nd rfl (Or.inl rfl) (pe_callTy (r := rListS K) call_list_of (by rfl) T.m_list PyProof.Rows.boot_list (pa_cons (pv 1) pa_nil)))
        (pss_cons (ps_asg (pe_not (pe_ix (r := rIxL K) ix_list (pv 1) (pv 6) (fun _ _ => rfl))) (pg_sub (pv 7) (pv 6) set_list))
        (pss_one (ps_if (pt_cmpR (op_eqO (ok_Settings_eq T) T.me_Settings_eq.at_ T.me_Settings_eq.fn T.b_Settings_eq pass0 (hr.mono (by decide))) (pv 4) (pe_call (ok_law_settings T) (hr.mono (by decide)) (by rfl) T.g_law_settings T.F_law_settings.kp T.b_law_settings .nil pass0 (pa_cons (pv 7) pa_nil)) (nomark _)) (pss_one (ps_ret pe_bl)) pss_nil)))))
      (pss_one (ps_ret (pe_and (pe_not (pe_cmpR (op_eqO (ok_Settings_eq T) T.me_Settings_eq.at_ T.me_Settings_eq.fn T.b_Settings_eq pass0 (hr.mono (by decide))) (pv 4) (pe_ix (r := rIxL K) ix_list (pv 1) pe_int (fun _ _ => rfl)) (nomark _))) (pe_and (pe_not (pe_cmpR (op_eqO (ok_Settings_eq T) T.me_Settings_eq.at_ T.me_Settings_eq.fn T.b_Settings_eq pass0 (hr.mono (by decide))) (pv 4) (pv 1) (nomark _))) (pe_one (pe_not (pe_cmpR (op_eqO (ok_Settings_eq T) T.me_Settings_eq.at_ T.me_Settings_eq.fn T.b_Settings_eq pass0 (hr.mono (by decide))) (pv 4) (pe_make T.M_Audio (ok_Audio_init T) (hr.mono (by decide)) (by rfl) T.g_Audio T.b_Audio_init .nil pass0 (pa_cons pe_int (pa_cons pe_int (pa_cons (pe_lst (pa_cons (pe_lst (pa_cons pe_int pa_nil)) pa_nil)) pa_nil)))) (nomark _)))))))))))))))))))), ?_⟩
  refine q_asgC (vs := [.ref a, .int 0]) (ea_cons (ev_var rfl) (ea_cons ev_c ea_nil)) fun H1 e1 => ⟨a, ns, 0, rfl, ex_l e1 hS, by decide, fun pr vs i0 d1 i2 i3 b4 i5 i6 b7 b8 b9 i10 y H2 hpr e2 gr hc hok => ?_⟩
  obtain ⟨v1, rfl, c1, hy⟩ := cels_typ hc
  have e12 := e1.trans e2
  obtain ⟨ds, hds⟩ : ∃ ds, [PyData.int i0, d1, .int i2, .int i3, .bool b4, .int i5, .int i6, .bool b7, .bool b8, .bool b9, .int i10, .str y] = ds := ⟨_, rfl⟩
  have hdl : ds.length = 12 := by rw [← hds]; rfl
  have hd1 : ds[1]? = some d1 := by rw [← hds]; rfl
  have rix : ∀ {σ : L2.St} {H' : Hp} {i : Nat} {v : V}, σ[1]? = some (some (.ref pr)) → Ex H2 H' → [V.int i0, v1, .int i2, .int i3, .bl b4, .int i5, .int i6, .bl b7, .bl b8, .bl b9, .int i10, .str y][i]? = some v → Ev (tOp (rIxL K) (tVar 1) (tC (.int (i : Int)))) σ H' v := fun {σ H' i v} hσ e h => ev_ixS (i := 0) (n := (i : Int)) (Ev.s (ev_var hσ) (sq_of (e _ _ gr))) ev_c (at_of rfl h)
  have r0 : ∀ {σ : L2.St} {H' : Hp}, σ[1]? = some (some (.ref pr)) → Ex H2 H' → Ev (tOp (rIxL K) (tVar 1) (tC (.int 0))) σ H' (.int i0) := fun h e => rix (i := 0) h e rfl
  refine q_asgL (xs := [.int i0, .non, .int 4, .int 0, .bl false, .int 12, .int 4, .bl false, .bl true, .bl true, .int 0, .str ""]) (el_lst (ea_cons (r0 rfl (Ex.refl _)) (ea_cons ev_c (ea_cons ev_c (ea_cons ev_c (ea_cons ev_c (ea_cons ev_c (ea_cons ev_c (ea_cons ev_c (ea_cons ev_c (ea_cons ev_c (ea_cons ev_c (ea_cons ev_c ea_nil)))))))))))) (Nat.le_of_ble_eq_true rfl)) fun pp H3 hpp e3 gp => ?_
  obtain ⟨ds0, hds0⟩ : ∃ ds, [PyData.int i0, .none, .int 4, .int 0, .bool false, .int 12, .int 4, .bool false, .bool true, .bool true, .int 0, .str ""] = ds := ⟨_, rfl⟩
  have hc0 : ∀ {G : Hp}, Cels G [.int i0, .non, .int 4, .int 0, .bl false, .int 12, .int 4, .bl false, .bl true, .bl true, .int 0, .str ""] ds0 := fun {G} => by rw [← hds0]; exact cels_mk .non (by decide +kernel)
  have hd0l : ds0.length = 12 := by rw [← hds0]; rfl
  have mk0 : ∀ {σ : L2.St} {H' : Hp} {E : XK}, σ[1]? = some (some (.ref pr)) → Ex H2 H' → EvX (tMake T.C_Settings (sp_setinit T.C_Settings) [.non, .int 4, .int 0, .bl false, .int 12, .int 4, .bl false, .bl true, .bl true, .int 0, .str ""] E (tCons (tOp (rIxL K) (tVar 1) (tC (.int 0))) tNil)) σ H' (SdX T.C_Settings ds0) := fun {σ H' E} hσ e =>
    EvN.x (R' := fun p G => SetD T.C_Settings G p ds0) (en_make (vs := [.int i0]) (ea_cons (r0 hσ e) ea_nil) fun a dx G Q' E' eG hG k' => ⟨a, dx, .int i0, .non, .int 4, .int 0, .bl false, .int 12, .int 4, .bl false, .bl true, .bl true, .int 0, .str "", none, rfl, hG, rfl, fun H' v hF hA hN => k' H' hF ⟨dx, _, _, _, _, _, _, _, _, _, _, _, _, hA, by rw [show v = .non from hN]; exact hc0⟩⟩) fun p G _ h => ⟨p, rfl, h⟩
  refine q_when (b := false) (et_is (et_not (et_B (sameX (mk0 rfl e3) rfl gp hc0 hd0l))) rfl) (fun hb => by cases hb) fun _ H4 e4 => ?_
  have e24 := e3.trans e4
  have gr4 := e24 _ _ gr
  have hc4 := hc.ex e24
  refine q_asgL (el_of (K := K) (Ev.s (ev_var rfl) (sq_of gr4))) fun ph H5 hph e5 gh => ?_
  refine q_cut (M := fun σ' H' => ∃ v1', σ' = [some (.ref a), some (.ref pr), some (.ref pp), some (.ref ph), none, none, none, none] ∧ Ex H4 H' ∧ H' ph = some (.lst [.int i0, v1', .int i2, .int i3, .bl b4, .int i5, .int i6, .bl b7, .bl b8, .bl b9, .int i10, .str y]) ∧ Cel H' v1' d1 ∧ ∀ q, v1' = .ref q → H4 q = none ∧ q ≠ ph) ?_ ?_
  · have c1' := c1.ex (e24.trans e5)
    cases c1' with
    | non => exact s_when (b := false) (et_is (et_test (ev_notN (rix (i := 1) rfl (e24.trans e5) rfl))) (by simp)) (fun hb => by cases hb) fun _ H6 e6 => ⟨.non, rfl, e5.trans e6, e6 _ _ gh, .non, fun q e => by cases e⟩
    | lst hq hll =>
      rename_i q ls
      refine s_when (b := true) (et_is (et_test (ev_notN (rix (i := 1) rfl (e24.trans e5) rfl))) (by simp)) (fun _ H6 e6 => ?_) (fun hb => by cases hb)
      have hq6 := e6 _ _ hq
      refine s_setLL (j := 1) (e6 _ _ gh) (el_of (K := K) (Ev.s (rix (i := 1) rfl (e24.trans (e5.trans e6)) rfl) (sq_of hq6))) (ev_var rfl) ev_c (Nat.le_of_ble_eq_true rfl) fun q' H7 hq' e7 gq' => ?_
      have hne : q' ≠ ph := by rintro rfl; rw [e6 _ _ gh] at hq'; cases hq'
      refine ⟨.ref q', rfl, Ex.mut (e5.trans (e6.trans e7)) hph, upd_same, .lst (by rw [upd_ne hne]; exact gq') hll, fun q e => ?_⟩
      cases e
      exact ⟨fresh_back (e5.trans e6) hq', hne⟩
    | int i => cases hok
    | bl b => cases hok
    | str y hy => cases hok
  rintro σ' H5 ⟨v1', rfl, e5, gh, c1', hf1⟩
  have hrd : RowD H5 ph ds := ⟨_, d1, gh, by rw [← hds]; exact cels_mk c1' hy, hdl, hd1, hok⟩
  refine q_asgC (vs := [.ref ph]) (ea_cons (ev_var rfl) ea_nil) fun H6 e6 => ⟨ph, ds, rfl, hrd.ex e6, fun pt H7 hpt e7 hsn => ?_⟩
  obtain ⟨dx, t0, t1, t2, t3, t4, t5, t6, t7, t8, t9, t10, t11, gt, ct, hft⟩ := hsn
  rw [← hds] at ct
  obtain ⟨u1, hu, ct1, -⟩ := cels_typ ct
  cases hu
  refine q_cut (M := fun σ' H' => σ' = [some (.ref a), some (.ref pr), some (.ref pp), some (.ref ph), some (.ref pt), none, none, none] ∧ Ex H4 H' ∧ SetD T.C_Settings H' pt ds) ?_ ?_
  · have c1'' := c1'.ex (e6.trans e7)
    have e57 := e5.trans (e6.trans e7)
    have done : ∀ {G : Hp}, G pt = some (.ins T.C_Settings dx (fsS (.int i0) t1 (.int i2) (.int i3) (.bl b4) (.int i5) (.int i6) (.bl b7) (.bl b8) (.bl b9) (.int i10) (.str y))) → Cel G t1 d1 → SetD T.C_Settings G pt ds := fun {G} g c => ⟨dx, _, _, _, _, _, _, _, _, _, _, _, _, g, by rw [← hds]; exact cels_mk c hy⟩
    have hcc := hc4.ex e57
    obtain ⟨w1, hw, cw1, -⟩ := cels_typ hcc
    cases hw
    cases cw1 with
    | non => exact s_when (b := false) (et_is (et_test (ev_notN (rix (i := 1) rfl (e24.trans e57) rfl))) (by simp)) (fun hb => by cases hb) fun _ H8 e8 => ⟨rfl, e57.trans e8, done (e8 _ _ gt) (ct1.ex e8)⟩
    | lst hq hll =>
      rename_i q ls
      refine s_when (b := true) (et_is (et_test (ev_notN (rix (i := 1) rfl (e24.trans e57) rfl))) (by simp)) (fun _ H8 e8 => ?_) (fun hb => by cases hb)
      obtain ⟨q', ls', rfl, hls, hq', hlen'⟩ := c1''.linv
      obtain ⟨qt, lt, rfl, hlt, hqt, hlent⟩ := ct1.linv
      obtain ⟨hq4, hqp⟩ := hf1 q' rfl
      have hgh := (e6.trans (e7.trans e8)) _ _ gh
      have hq8 := e8 _ _ hq'
      have hix : ∀ {σ : L2.St} {H' : Hp}, σ[3]? = some (some (.ref ph)) → Ex H8 H' → Ev (tOp (rIxL K) (tVar 3) (tC (.int 1))) σ H' (.ref q') := fun h e => ev_ixS (i := 0) (n := 1) (Ev.s (ev_var h) (sq_of (e _ _ hgh))) ev_c (at_of (j := 1) rfl rfl)
      have n1 : qt ≠ q' := by
        rintro rfl
        have := hft _ rfl
        obtain ⟨q2, l2, e2', _, g2', _⟩ := c1'.linv
        cases e2'
        rw [e6 _ _ g2'] at this
        cases this
      have n2 : pt ≠ q' := by rintro rfl; rw [gt] at hq'; cases hq'
      have n3 : ph ≠ q' := Ne.symm hqp
      refine q_app (v := .int 16) hq8 (hix rfl (Ex.refl _)) ev_c (by rw [List.length_map]; omega) fun H9 e9 => ?_
      refine s_setL (j := 0) (v := .int 17) (xs := ls'.map V.int ++ [.int 16]) upd_same ev_c (ev_ixS (i := 0) (n := 1) (Ev.s (ev_var rfl) (sq_of (by rw [upd_ne n3]; exact e9 _ _ hgh))) ev_c (at_of (j := 1) rfl rfl)) ev_c (by rw [List.length_append]; show 0 < _ + 1; omega) fun Ha ea => ⟨rfl, Ex.mut ((Ex.mut (e57.trans (e8.trans e9)) hq4).trans ea) hq4, done ?_ (hlt ▸ .lst ?_ hlent)⟩
      · rw [upd_ne n2]
        exact ea _ _ (by rw [upd_ne n2]; exact (e8.trans e9) _ _ gt)
      · rw [upd_ne n1]
        exact ea _ _ (by rw [upd_ne n1]; exact (e8.trans e9) _ _ hqt)
    | int i => cases hok
    | bl b => cases hok
    | str y hy => cases hok
  clear gh c1' hf1 hrd e5 e6 e7 gt ct hft ct1 hpt hph
  rintro σ' H5 ⟨rfl, e5, hsd⟩
  have e25 := e24.trans e5
  have gr5 := e25 _ _ gr
  have hc5 : Cels H5 _ ds := hds ▸ hc.ex e25
  have gp5 := (e4.trans e5) _ _ gp
  have tX : ∀ {σ : L2.St} {H' : Hp}, σ[4]? = some (some (.ref pt)) → Ex H5 H' → EvX (tVar 4) σ H' (SdX T.C_Settings ds) := fun h e => Ev.x (ev_var h) fun G eG => ⟨pt, rfl, hsd.ex (e.trans eG)⟩
  refine q_when (b := false) (et_is (et_not (et_B (sameX (tX rfl (Ex.refl _)) rfl gr5 hc5 hdl))) rfl) (fun hb => by cases hb) fun _ H6 e6 => ?_
  have hrow6 : RowD H6 pr ds := ⟨_, d1, e6 _ _ gr5, hc5.ex e6, hdl, hd1, hok⟩
  have hp6 : RowD H6 pp ds0 := ⟨_, .none, e6 _ _ gp5, hc0, hd0l, by rw [← hds0]; rfl, rfl⟩
  refine q_when (b := false) (et_is (et_or (a := false) (b := false) (et_is (et_not (et_test (eqX T (tX rfl e6) (setX (ds := ds) rfl hrow6)))) (by rw [eqL_self hc5]; rfl)) fun _ => et_is (et_not (et_test (eqX T (mk0 rfl (e25.trans e6)) (setX (ds := ds0) rfl hp6)))) (by rw [eqL_self (H := H6) hc0]; rfl)) rfl) (fun hb => by cases hb) fun _ H7 e7 => ?_
  have e57 := e6.trans e7
  refine q_asgC (vs := [.ref a, .int 3]) (ea_cons (ev_var rfl) (ea_cons ev_c ea_nil)) fun H8 e8 => ⟨a, ns, 3, rfl, ex_l (e12.trans (e25.trans (e57.trans e8))) hS, by decide, fun po ws j0 f1 j2 j3 a4 j5 j6 a7 a8 a9 j10 z H9 hpo e9 go hco hoko => ?_⟩
  obtain ⟨fs, hfs⟩ : ∃ fs, [PyData.int j0, f1, .int j2, .int j3, .bool a4, .int j5, .int j6, .bool a7, .bool a8, .bool a9, .int j10, .str z] = fs := ⟨_, rfl⟩
  have hfl : fs.length = 12 := by rw [← hfs]; rfl
  have hf1 : fs[1]? = some f1 := by rw [← hfs]; rfl
  rw [hfs] at hco
  have e59 := e57.trans (e8.trans e9)
  have e29 := e25.trans e59
  have gr9 := e29 _ _ gr
  have hc9 := hc5.ex e59
  refine q_forR1 (n := 12) (ea_cons ev_c ea_nil) (by omega) (fun i σ' H' => ∃ z6 z7, σ' = [some (.ref a), some (.ref pr), some (.ref pp), some (.ref ph), some (.ref pt), some (.ref po), z6, z7] ∧ Ex H9 H') (fun Ha ea => ⟨none, none, rfl, ea⟩) ?_ ?_
  · rintro i σ' Ha hi ⟨z6, z7, rfl, ex⟩
    have hi : i < 12 := by omega
    have hdi : ds[i]? = some ds[i] := List.getElem?_eq_getElem (by omega)
    have hfi : fs[i]? = some fs[i] := List.getElem?_eq_getElem (by omega)
    obtain ⟨u, hu, cu⟩ := (hc9.ex ex).at hdi
    obtain ⟨x, hx, cx⟩ := (hco.ex ex).at hfi
    obtain ⟨d, hd⟩ : ∃ d, ds[i] = d := ⟨_, rfl⟩
    obtain ⟨f, hf⟩ : ∃ d, fs[i] = d := ⟨_, rfl⟩
    rw [hd] at hdi cu
    rw [hf] at hfi cx
    have gra := ex _ _ gr9
    have goa := ex _ _ go
    refine q_asgL (el_of (K := K) (Ev.s (ev_var rfl) (sq_of gra))) fun pc Hb hpc eb gc => ?_
    refine q_setL (j := i) (v := x) gc (ev_ixS (i := 0) (n := (i : Int)) (Ev.s (ev_var rfl) (sq_of (eb _ _ goa))) (ev_var rfl) (at_of rfl hx)) (ev_var rfl) (ev_var rfl) (by show i < 12; exact hi) fun Hc ec => ?_
    have exc : Ex Ha (upd Hc pc (.lst (List.set [V.int i0, v1, .int i2, .int i3, .bl b4, .int i5, .int i6, .bl b7, .bl b8, .bl b9, .int i10, .str y] i x))) := Ex.mut (eb.trans ec) hpc
    have gcc : (upd Hc pc (.lst (List.set [V.int i0, v1, .int i2, .int i3, .bl b4, .int i5, .int i6, .bl b7, .bl b8, .bl b9, .int i10, .str y] i x))) pc = some (.lst (List.set [V.int i0, v1, .int i2, .int i3, .bl b4, .int i5, .int i6, .bl b7, .bl b8, .bl b9, .int i10, .str y] i x)) := upd_same
    generalize upd Hc pc (.lst (List.set [V.int i0, v1, .int i2, .int i3, .bl b4, .int i5, .int i6, .bl b7, .bl b8, .bl b9, .int i10, .str y] i x)) = Hd at *
    have hcs := ((hc9.ex ex).ex exc).set (cx.ex exc) i
    have hrc : RowD Hd pc (ds.set i f) := by
      by_cases h1 : i = 1
      · subst h1
        rw [hf1] at hfi
        cases hfi
        exact ⟨_, f1, gcc, hcs, by rw [List.length_set]; exact hdl, by rw [List.getElem?_set_self (by omega)], hoko⟩
      · exact ⟨_, d1, gcc, hcs, by rw [List.length_set]; exact hdl, by rw [List.getElem?_set_ne h1]; exact hd1, hok⟩
    have hrk : Ev (tOp (rEqD K) (tOp (rIxL K) (tVar 1) (tVar 6)) (tOp (rIxL K) (tVar 5) (tVar 6))) [some (.ref a), some (.ref pr), some (.ref pp), some (.ref ph), some (.ref pt), some (.ref po), some (.int (i : Int)), some (.ref pc)] Hd (.bl (PyData.eqv d f)) := ev_eqDv (EvD.of (ev_ixS (i := 0) (n := (i : Int)) (Ev.s (ev_var rfl) (sq_of (exc _ _ gra))) (ev_var rfl) (at_of rfl hu)) (cu.ex exc).dp) (EvD.of (ev_ixS (i := 0) (n := (i : Int)) (Ev.s (ev_var rfl) (sq_of (exc _ _ goa))) (ev_var rfl) (at_of rfl hx)) (cx.ex exc).dp) cu.shaped cx.shaped
    refine s_when (b := false) (et_is (et_test (ev_ne (eqX T (tX rfl (e59.trans (ex.trans exc))) (setX (ds := ds.set i f) rfl hrc)) hrk rfl)) (by rw [eqL_set hc9 hdi]; simp)) (fun hb => by cases hb) fun _ He ee => ⟨_, _, rfl, ex.trans (exc.trans ee)⟩
  rintro σ' Ha ⟨z6, z7, rfl, ex⟩
  refine q_forNLn (K := K) (xs := [.int 4, .int 7, .int 8, .int 9]) (el_lst (ea_cons ev_c (ea_cons ev_c (ea_cons ev_c (ea_cons ev_c ea_nil)))) (by decide)) (fun p i σ' H' => ∃ z6 z7, σ' = [some (.ref a), some (.ref pr), some (.ref pp), some (.ref ph), some (.ref pt), some (.ref po), z6, z7] ∧ Ex Ha H' ∧ H' p = some (.lst [.int 4, .int 7, .int 8, .int 9])) (fun p Hb hp eb gb => ⟨_, _, rfl, eb, gb⟩) (fun p i σ' H' _ h => by obtain ⟨_, _, _, _, g⟩ := h; exact sq_of g) ?_ ?_
  · rintro pl i x σ' Hb hx ⟨z6, z7, rfl, exb, gl⟩
    have exb' := ex.trans exb
    obtain ⟨m, b, rfl, hm, hm1, hdm, hvm⟩ : ∃ (m : Nat) (b : Bool), x = .int (m : Int) ∧ m < 12 ∧ m ≠ 1 ∧ ds[m]? = some (.bool b) ∧ [V.int i0, v1, .int i2, .int i3, .bl b4, .int i5, .int i6, .bl b7, .bl b8, .bl b9, .int i10, .str y][m]? = some (.bl b) := by
      rw [← hds]
      match i, hx with
      | 0, hx => cases hx; exact ⟨4, b4, rfl, by decide, by decide, rfl, rfl⟩
      | 1, hx => cases hx; exact ⟨7, b7, rfl, by decide, by decide, rfl, rfl⟩
      | 2, hx => cases hx; exact ⟨8, b8, rfl, by decide, by decide, rfl, rfl⟩
      | 3, hx => cases hx; exact ⟨9, b9, rfl, by decide, by decide, rfl, rfl⟩
    have grb := exb' _ _ gr9
    refine q_asgL (el_of (K := K) (Ev.s (ev_var rfl) (sq_of grb))) fun pc Hc hpc ec gc => ?_
    have hpl : pl ≠ pc := by rintro rfl; rw [gl] at hpc; cases hpc
    refine q_setL (j := m) (v := .bl (!b)) gc (ev_notV (ev_ixS (i := 0) (n := (m : Int)) (Ev.s (ev_var rfl) (sq_of (ec _ _ grb))) (ev_var rfl) (at_of rfl hvm))) (ev_var rfl) (ev_var rfl) (by show m < 12; exact hm) fun Hd ed => ?_
    have exc : Ex Hb (upd Hd pc (.lst (List.set [V.int i0, v1, .int i2, .int i3, .bl b4, .int i5, .int i6, .bl b7, .bl b8, .bl b9, .int i10, .str y] m (.bl (!b))))) := Ex.mut (ec.trans ed) hpc
    have gcc : (upd Hd pc (.lst (List.set [V.int i0, v1, .int i2, .int i3, .bl b4, .int i5, .int i6, .bl b7, .bl b8, .bl b9, .int i10, .str y] m (.bl (!b))))) pc = some (.lst (List.set [V.int i0, v1, .int i2, .int i3, .bl b4, .int i5, .int i6, .bl b7, .bl b8, .bl b9, .int i10, .str y] m (.bl (!b)))) := upd_same
    generalize upd Hd pc (.lst (List.set [V.int i0, v1, .int i2, .int i3, .bl b4, .int i5, .int i6, .bl b7, .bl b8, .bl b9, .int i10, .str y] m (.bl (!b)))) = He at *
    have hcs := ((hc9.ex exb').ex exc).set (.bl (!b)) m
    have hrc : RowD He pc (ds.set m (.bool (!b))) := ⟨_, d1, gcc, hcs, by rw [List.length_set]; exact hdl, by rw [List.getElem?_set_ne hm1]; exact hd1, hok⟩
    refine s_when (b := false) (et_is (et_test (eqX T (tX rfl (e59.trans (exb'.trans exc))) (setX (ds := ds.set m (.bool (!b))) rfl hrc))) (by rw [eqL_set hc9 hdm]; cases b <;> rfl)) (fun hb => by cases hb) fun _ Hf ef => ⟨_, _, rfl, exb.trans (exc.trans ef), (exc.trans ef) _ _ gl⟩
  rintro pl σ' Hb ⟨z6', z7', rfl, exb, gl⟩
  have exb' := ex.trans exb
  have eb := e59.trans exb'
  refine s_ret (v := .bl true) (ev_is (ev_andV (ev_notV (neX T (tX rfl eb) (Ev.x (S := fun v _ => v = .int i0) (r0 rfl (e29.trans exb')) fun _ _ => rfl) fun y G hy => ⟨.type "int", fun H1 e => by rw [hy]; exact .base (.int _), T.ki_Settings_int, T.nf_Settings_int⟩)) fun _ => ev_andV (ev_notV (neX T (tX rfl eb) (Ev.x (S := fun v G => v = .ref pr ∧ ∃ l, G pr = some (.lst l)) (ev_var rfl) fun G eG => ⟨rfl, _, (exb'.trans eG) _ _ gr9⟩) fun y G hy => ⟨.type "list", fun H1 e => by rw [hy.1]; exact isi_lst hy.2.choose_spec H1 e, T.ki_Settings_list, T.nf_Settings_list⟩)) fun _ => ev_notV (neX T (tX rfl eb) (EvN.x (S := fun v G => ∃ p dx l, v = .ref p ∧ G p = some (.ins T.C_Audio dx l)) (R' := fun p G => ∃ dx l, G p = some (.ins T.C_Audio dx l)) ?_ fun p G _ ⟨dx, l, h⟩ => ⟨p, dx, l, rfl, h⟩) fun y G ⟨p, dx, l, hy, hp⟩ => ⟨.ref T.C_Audio, fun H1 e => by rw [hy]; exact T.ty_Audio.ins T.cl_Audio hp H1 e, T.ki_Settings_Audio, T.nf_Settings_Audio⟩)) rfl) fun Hz ez => k _
  have inner : ∀ {σ : L2.St} {G : Hp}, EvX (tLst (tCons (tLst (tCons (tC (.int 1)) tNil)) tNil)) σ G fun v G' => ∃ c l, v = .ref c ∧ G' c = some (.lst [.ref l]) ∧ G' l = some (.lst [.int 1]) := fun {σ G} H1 e Q q =>
    have h : EvL (tLst (tCons (tC (.int 1)) tNil)) σ G [.int 1] := el_lst (ea_cons ev_c ea_nil) (by decide)
    h H1 e (fun v H2 => [v].length ≤ sizeLine ∧ ∀ p, H2 p = none → Q (.ref p) (upd H2 p (.lst [v]))) fun l H2 hl e2 g2 => ⟨sz_of (show 1 ≤ 100000 by decide), fun c hc => q (.ref c) _ (e2.trans (Ex.new hc)) ⟨c, l, rfl, upd_same, (Ex.new hc) _ _ g2⟩⟩
  refine en_makeAP (ap_ev (x := .int 8000) ev_c (ap_ev (x := .int 8) ev_c (ap_x inner (fun v G G' e ⟨c, l, h1, h2, h3⟩ => ⟨c, l, h1, e _ _ h2, e _ _ h3⟩) ap_nil))) fun vs a' dx' G Q' E' eG hvs hG k' => ?_
  obtain ⟨G0, eG0, _, rfl, _, rfl, v, _, rfl, ⟨c, l, rfl, h2, h3⟩, rfl⟩ := hvs
  exact ⟨a', dx', c, .int 8000, .int 8, [l], [[.int 1]], rfl, hG, eG0 _ _ h2, ⟨eG0 _ _ h3, trivial⟩, by decide, fun H' p qs hF hA hp hq hL => k' H' hF ⟨dx', _, hA⟩⟩

end
set_option maxHeartbeats 0 in
theorem all_mk {l : PySem.W.OpenLaw} {w : World} {K : PySem.W.Frag} {h : Heap} {mg : Str → Option Value} {fa : Addr} {f1 f2 f3 f4 f5 f6 f7 f8 f9 f10 f11 f12 C_Settings C_Audio : Addr} (X : K.In h) (G : h.Ns mainGlobals mg) (hfa : mg "law" = some (.ref fa))
    {od1 an1 : Option Addr} {sl1 : Array (Option Value)} {oc1 dc1 pm1 cd1 ct1 : Value} {DK1 : Addr} {ku1_0 : Value} {ku1_1 : Value} {ku1_2 : Value} {ku1_3 : Value} {ku1_4 : Value} {ku1_5 : Value} {ku1_6 : Value} {ku1_7 : Value} {ku1_8 : Value} {ku1_9 : Value} {ku1_10 : Value} {od2 an2 : Option Addr} {sl2 : Array (Option Value)} {oc2 dc2 pm2 cd2 ct2 : Value} {kV2 : Value} {od3 an3 : Option Addr} {sl3 : Array (Option Value)} {oc3 dc3 pm3 cd3 ct3 : Value} {kV3 : Value} {od4 an4 : Option Addr} {sl4 : Array (Option Value)} {oc4 dc4 pm4 cd4 ct4 : Value} {kV4 : Value} {od5 an5 : Option Addr} {sl5 : Array (Option Value)} {oc5 dc5 pm5 cd5 ct5 : Value} {kV5 : Value} {od6 an6 : Option Addr} {sl6 : Array (Option Value)} {oc6 dc6 pm6 cd6 ct6 : Value} {kV6 : Value} {od7 an7 : Option Addr} {sl7 : Array (Option Value)} {oc7 dc7 pm7 cd7 ct7 : Value} {kV7 : Value} {od8 an8 : Option Addr} {sl8 : Array (Option Value)} {oc8 dc8 pm8 cd8 ct8 : Value} {kV8 : Value} {od9 an9 : Option Addr} {sl9 : Array (Option Value)} {oc9 dc9 pm9 cd9 ct9 : Value} {kV9 : Value} {od10 an10 : Option Addr} {sl10 : Array (Option Value)} {oc10 dc10 pm10 cd10 ct10 : Value} {kV10 : Value} {od11 an11 : Option Addr} {sl11 : Array (Option Value)} {oc11 dc11 pm11 cd11 ct11 : Value} {kV11 : Value} {od12 an12 : Option Addr} {sl12 : Array (Option Value)} {oc12 dc12 pm12 cd12 ct12 : Value} {kV12 : Value}
    (a1 : PySem.W.findIn K (.ref C_Settings) "__init__" = some (some (.ref f1))) (i1 : PySem.W.isFn K (.ref f1) = true)
    (l1 : K.lookup f1 = some ⟨oc1, od1, .func (PySem.W.fnOf "__init__" "Settings.__init__" (defArgs s_Settings_init) (defBody s_Settings_init) (defScope s_Settings_init) .none (.ref DK1) dc1 pm1 an1 cd1 ct1), sl1⟩) (c1 : PySem.W.codeIn K cd1 "Settings.__init__" = true) (k1 : PySem.W.keepIn K (.ref f1) = true)
    (kq1_0 : PySem.W.nsIn K DK1 "block_sizes" = some (some ku1_0)) (rk1_0 : RelV (V.non) ku1_0)
    (kq1_1 : PySem.W.nsIn K DK1 "fixed_order" = some (some ku1_1)) (rk1_1 : RelV (V.int 4) ku1_1)
    (kq1_2 : PySem.W.nsIn K DK1 "linear_order" = some (some ku1_2)) (rk1_2 : RelV (V.int 0) ku1_2)
    (kq1_3 : PySem.W.nsIn K DK1 "search" = some (some ku1_3)) (rk1_3 : RelV (V.bl false) ku1_3)
    (kq1_4 : PySem.W.nsIn K DK1 "precision" = some (some ku1_4)) (rk1_4 : RelV (V.int 12) ku1_4)
    (kq1_5 : PySem.W.nsIn K DK1 "partition_order" = some (some ku1_5)) (rk1_5 : RelV (V.int 4) ku1_5)
    (kq1_6 : PySem.W.nsIn K DK1 "wide" = some (some ku1_6)) (rk1_6 : RelV (V.bl false) ku1_6)
    (kq1_7 : PySem.W.nsIn K DK1 "stereo" = some (some ku1_7)) (rk1_7 : RelV (V.bl true) ku1_7)
    (kq1_8 : PySem.W.nsIn K DK1 "wasted" = some (some ku1_8)) (rk1_8 : RelV (V.bl true) ku1_8)
    (kq1_9 : PySem.W.nsIn K DK1 "seek_interval" = some (some ku1_9)) (rk1_9 : RelV (V.int 0) ku1_9)
    (kq1_10 : PySem.W.nsIn K DK1 "vendor" = some (some ku1_10)) (rk1_10 : RelV (V.str "") ku1_10)
    (a2 : PySem.W.findIn K (.ref C_Settings) "__eq__" = some (some (.ref f2))) (i2 : PySem.W.isFn K (.ref f2) = true)
    (l2 : K.lookup f2 = some ⟨oc2, od2, .func (PySem.W.fnOf "__eq__" "Settings.__eq__" (defArgs s_Settings_eq) (defBody s_Settings_eq) (defScope s_Settings_eq) .none kV2 dc2 pm2 an2 cd2 ct2), sl2⟩) (c2 : PySem.W.codeIn K cd2 "Settings.__eq__" = true) (k2 : PySem.W.keepIn K (.ref f2) = true)
    (a3 : PySem.W.findIn K (.ref C_Audio) "__init__" = some (some (.ref f3))) (i3 : PySem.W.isFn K (.ref f3) = true)
    (l3 : K.lookup f3 = some ⟨oc3, od3, .func (PySem.W.fnOf "__init__" "Audio.__init__" (defArgs s_Audio_init) (defBody s_Audio_init) (defScope s_Audio_init) .none kV3 dc3 pm3 an3 cd3 ct3), sl3⟩) (c3 : PySem.W.codeIn K cd3 "Audio.__init__" = true) (k3 : PySem.W.keepIn K (.ref f3) = true)
    (a4 : PySem.W.nsIn K mainGlobals "_law_cell" = some (some (.ref f4)))
    (l4 : K.lookup f4 = some ⟨oc4, od4, .func (PySem.W.fnOf "_law_cell" "_law_cell" (defArgs s_law_cell) (defBody s_law_cell) (defScope s_law_cell) .none kV4 dc4 pm4 an4 cd4 ct4), sl4⟩) (c4 : PySem.W.codeIn K cd4 "_law_cell" = true) (k4 : PySem.W.keepIn K (.ref f4) = true)
    (a5 : PySem.W.nsIn K mainGlobals "_law_row" = some (some (.ref f5)))
    (l5 : K.lookup f5 = some ⟨oc5, od5, .func (PySem.W.fnOf "_law_row" "_law_row" (defArgs s_law_row) (defBody s_law_row) (defScope s_law_row) .none kV5 dc5 pm5 an5 cd5 ct5), sl5⟩) (c5 : PySem.W.codeIn K cd5 "_law_row" = true) (k5 : PySem.W.keepIn K (.ref f5) = true)
    (a6 : PySem.W.nsIn K mainGlobals "_law_settings" = some (some (.ref f6)))
    (l6 : K.lookup f6 = some ⟨oc6, od6, .func (PySem.W.fnOf "_law_settings" "_law_settings" (defArgs s_law_settings) (defBody s_law_settings) (defScope s_law_settings) .none kV6 dc6 pm6 an6 cd6 ct6), sl6⟩) (c6 : PySem.W.codeIn K cd6 "_law_settings" = true) (k6 : PySem.W.keepIn K (.ref f6) = true)
    (a7 : PySem.W.nsIn K mainGlobals "_law_values" = some (some (.ref f7)))
    (l7 : K.lookup f7 = some ⟨oc7, od7, .func (PySem.W.fnOf "_law_values" "_law_values" (defArgs s_law_values) (defBody s_law_values) (defScope s_law_values) .none kV7 dc7 pm7 an7 cd7 ct7), sl7⟩) (c7 : PySem.W.codeIn K cd7 "_law_values" = true) (k7 : PySem.W.keepIn K (.ref f7) = true)
    (a8 : PySem.W.nsIn K mainGlobals "_law_same" = some (some (.ref f8)))
    (l8 : K.lookup f8 = some ⟨oc8, od8, .func (PySem.W.fnOf "_law_same" "_law_same" (defArgs s_law_same) (defBody s_law_same) (defScope s_law_same) .none kV8 dc8 pm8 an8 cd8 ct8), sl8⟩) (c8 : PySem.W.codeIn K cd8 "_law_same" = true) (k8 : PySem.W.keepIn K (.ref f8) = true)
    (a9 : PySem.W.nsIn K mainGlobals "_law_sizes" = some (some (.ref f9)))
    (l9 : K.lookup f9 = some ⟨oc9, od9, .func (PySem.W.fnOf "_law_sizes" "_law_sizes" (defArgs s_law_sizes) (defBody s_law_sizes) (defScope s_law_sizes) .none kV9 dc9 pm9 an9 cd9 ct9), sl9⟩) (c9 : PySem.W.codeIn K cd9 "_law_sizes" = true) (k9 : PySem.W.keepIn K (.ref f9) = true)
    (a10 : PySem.W.nsIn K mainGlobals "_law_vendor" = some (some (.ref f10)))
    (l10 : K.lookup f10 = some ⟨oc10, od10, .func (PySem.W.fnOf "_law_vendor" "_law_vendor" (defArgs s_law_vendor) (defBody s_law_vendor) (defScope s_law_vendor) .none kV10 dc10 pm10 an10 cd10 ct10), sl10⟩) (c10 : PySem.W.codeIn K cd10 "_law_vendor" = true) (k10 : PySem.W.keepIn K (.ref f10) = true)
    (a11 : PySem.W.nsIn K mainGlobals "_law_drawn" = some (some (.ref f11)))
    (l11 : K.lookup f11 = some ⟨oc11, od11, .func (PySem.W.fnOf "_law_drawn" "_law_drawn" (defArgs s_law_drawn) (defBody s_law_drawn) (defScope s_law_drawn) .none kV11 dc11 pm11 an11 cd11 ct11), sl11⟩) (c11 : PySem.W.codeIn K cd11 "_law_drawn" = true) (k11 : PySem.W.keepIn K (.ref f11) = true)
    (a12 : PySem.W.nsIn K mainGlobals "law" = some (some (.ref f12)))
    (l12 : K.lookup f12 = some ⟨oc12, od12, .func (PySem.W.fnOf "law" "law" (defArgs s_law) (defBody s_law) (defScope s_law) .none kV12 dc12 pm12 an12 cd12 ct12), sl12⟩) (c12 : PySem.W.codeIn K cd12 "law" = true) (k12 : PySem.W.keepIn K (.ref f12) = true)
    (aC_Settings : PySem.W.nsIn K mainGlobals "Settings" = some (some (.ref C_Settings)))
    (pg_Settings : PySem.W.plainGet K C_Settings Str.empty = true) (hd_Settings : PySem.W.hasDictIn K C_Settings = true) (po_Settings : PySem.W.plainOver K C_Settings = true) (sa_Settings : PySem.W.findIn K (.ref C_Settings) "__setattr__" = some (some (.builtin "object.__setattr__"))) (mk_Settings : PySem.W.makesIn K C_Settings = true) (kc_Settings : PySem.W.keepIn K (.ref C_Settings) = true)
    (n_Settings_block_size : PySem.W.findIn K (.ref C_Settings) "block_size" = some none)
    (n_Settings_block_sizes : PySem.W.findIn K (.ref C_Settings) "block_sizes" = some none)
    (n_Settings_fixed_order : PySem.W.findIn K (.ref C_Settings) "fixed_order" = some none)
    (n_Settings_linear_order : PySem.W.findIn K (.ref C_Settings) "linear_order" = some none)
    (n_Settings_search : PySem.W.findIn K (.ref C_Settings) "search" = some none)
    (n_Settings_precision : PySem.W.findIn K (.ref C_Settings) "precision" = some none)
    (n_Settings_partition_order : PySem.W.findIn K (.ref C_Settings) "partition_order" = some none)
    (n_Settings_wide : PySem.W.findIn K (.ref C_Settings) "wide" = some none)
    (n_Settings_stereo : PySem.W.findIn K (.ref C_Settings) "stereo" = some none)
    (n_Settings_wasted : PySem.W.findIn K (.ref C_Settings) "wasted" = some none)
    (n_Settings_seek_interval : PySem.W.findIn K (.ref C_Settings) "seek_interval" = some none)
    (n_Settings_vendor : PySem.W.findIn K (.ref C_Settings) "vendor" = some none)
    (aC_Audio : PySem.W.nsIn K mainGlobals "Audio" = some (some (.ref C_Audio)))
    (pg_Audio : PySem.W.plainGet K C_Audio Str.empty = true) (hd_Audio : PySem.W.hasDictIn K C_Audio = true) (po_Audio : PySem.W.plainOver K C_Audio = true) (sa_Audio : PySem.W.findIn K (.ref C_Audio) "__setattr__" = some (some (.builtin "object.__setattr__"))) (mk_Audio : PySem.W.makesIn K C_Audio = true) (kc_Audio : PySem.W.keepIn K (.ref C_Audio) = true)
    (n_Audio_rate : PySem.W.findIn K (.ref C_Audio) "rate" = some none)
    (n_Audio_depth : PySem.W.findIn K (.ref C_Audio) "depth" = some none)
    (n_Audio_channels : PySem.W.findIn K (.ref C_Audio) "channels" = some none)
    (ty_Settingsha : PySem.W.findIn K (.ref C_Settings) "__class__" = some (some (.builtin "object.__class__"))) (ty_Settingshn : PySem.W.specialIn K (.builtin "object.__class__") "__get__" = some (some (.builtin "getset_descriptor.__get__"))) (ty_Settingsht : PySem.W.takesIn K (.builtin "object.__class__") = some true) (ty_Settingshm : PySem.W.mroIn K C_Settings (.type "object") = some true)
    (ty_Audioha : PySem.W.findIn K (.ref C_Audio) "__class__" = some (some (.builtin "object.__class__"))) (ty_Audiohn : PySem.W.specialIn K (.builtin "object.__class__") "__get__" = some (some (.builtin "getset_descriptor.__get__"))) (ty_Audioht : PySem.W.takesIn K (.builtin "object.__class__") = some true) (ty_Audiohm : PySem.W.mroIn K C_Audio (.type "object") = some true)
    (yt_Settings : PySem.W.typeIn K (.ref C_Settings) = some (.type "type"))
    (yz_Settings : PySem.W.subIn K (.ref C_Settings) (.ref C_Settings) = some true)
    (ys_Settings_int : PySem.W.subIn K (.type "int") (.ref C_Settings) = some false)
    (ys_Settings_list : PySem.W.subIn K (.type "list") (.ref C_Settings) = some false)
    (ys_Settings_Audio : PySem.W.subIn K (.ref C_Audio) (.ref C_Settings) = some false)
    (z_list : PySem.W.nsIn K mainGlobals "list" = some none)
    (z_isinstance : PySem.W.nsIn K mainGlobals "isinstance" = some none)
    (z_len : PySem.W.nsIn K mainGlobals "len" = some none)
    (z_abs : PySem.W.nsIn K mainGlobals "abs" = some none)
    (z_int : PySem.W.nsIn K mainGlobals "int" = some none)
    (z_range : PySem.W.nsIn K mainGlobals "range" = some none)
    (z_bool : PySem.W.nsIn K mainGlobals "bool" = some none)
    : ∃ fd : FuncData, (∀ (s : Shared) (v : Value), BindsTo s fd ⟨[v], []⟩ [("script", v)]) ∧ ∀ base : Heap, K.In base → base.Ns mainGlobals mg → FnOk l.prog w K mg base CX0 4 fa fd ["script"] (sp_law K) := by
  have e := hfa.symm.trans (PySem.W.mg_of X G a12)
  cases e
  have F1 : FunD K "__init__" "Settings.__init__" (defArgs s_Settings_init) (defBody s_Settings_init) (defScope s_Settings_init) [] [("block_sizes", V.non), ("fixed_order", V.int 4), ("linear_order", V.int 0), ("search", V.bl false), ("precision", V.int 12), ("partition_order", V.int 4), ("wide", V.bl false), ("stereo", V.bl true), ("wasted", V.bl true), ("seek_interval", V.int 0), ("vendor", V.str "")] _ _ := ⟨⟨_, _, _, _, _, _, _, _, _, _, rfl, l1, c1, (.inl ⟨rfl, rfl⟩), (.inr ⟨DK1, rfl, (kwAllC ⟨_, kq1_0, rk1_0⟩ (kwAllC ⟨_, kq1_1, rk1_1⟩ (kwAllC ⟨_, kq1_2, rk1_2⟩ (kwAllC ⟨_, kq1_3, rk1_3⟩ (kwAllC ⟨_, kq1_4, rk1_4⟩ (kwAllC ⟨_, kq1_5, rk1_5⟩ (kwAllC ⟨_, kq1_6, rk1_6⟩ (kwAllC ⟨_, kq1_7, rk1_7⟩ (kwAllC ⟨_, kq1_8, rk1_8⟩ (kwAllC ⟨_, kq1_9, rk1_9⟩ (kwAllC ⟨_, kq1_10, rk1_10⟩ kwAllN)))))))))))⟩)⟩, k1⟩
  have kb2_block_sizes_fixed_order_linear_order_search_precision_partition_order_wide_stereo_wasted_seek_interval_vendor_1 : KBn K _ ["self", "block_size", "block_sizes", "fixed_order", "linear_order", "search", "precision", "partition_order", "wide", "stereo", "wasted", "seek_interval", "vendor"] 2 ["block_sizes", "fixed_order", "linear_order", "search", "precision", "partition_order", "wide", "stereo", "wasted", "seek_interval", "vendor"] (fun us ws => us ++ ws) (fun us ws => us ++ ws) := fund_kb0 F1 2 ["block_sizes", "fixed_order", "linear_order", "search", "precision", "partition_order", "wide", "stereo", "wasted", "seek_interval", "vendor"] (fun h1 h2 => Vals.append h1 h2) fun kV doc pm an cdv ct us ws hu hw => match us, hu, ws, hw with | [_, _], _, [_, _, _, _, _, _, _, _, _, _, _], _ => rfl
  obtain ⟨e2_1, v2_1, b2_1⟩ := F1.binds0 (ps := ["self", "block_size", "block_sizes", "fixed_order", "linear_order", "search", "precision", "partition_order", "wide", "stereo", "wasted", "seek_interval", "vendor"]) 2 (by simp) rfl fun D0 doc pm an cdv ct us ks hu hk => match us, hu, ks, hk with | [_, _], _, [_, _, _, _, _, _, _, _, _, _, _], _ => ⟨_, _, _, _, _, _, rfl, rfl, ⟨_, _, _, _, _, _, rfl, rfl, ⟨_, _, _, _, _, _, rfl, rfl, ⟨_, _, _, _, _, _, rfl, rfl, ⟨_, _, _, _, _, _, rfl, rfl, ⟨_, _, _, _, _, _, rfl, rfl, ⟨_, _, _, _, _, _, rfl, rfl, ⟨_, _, _, _, _, _, rfl, rfl, ⟨_, _, _, _, _, _, rfl, rfl, ⟨_, _, _, _, _, _, rfl, rfl, ⟨_, _, _, _, _, _, rfl, rfl, rfl⟩⟩⟩⟩⟩⟩⟩⟩⟩⟩⟩
  have F2 := fun_mk (st := s_Settings_eq) l2 c2 k2
  have b2 := F2.binds (ps := ["self", "other"]) fun _ _ _ _ _ _ us hl => match us, hl with | [_, _], _ => rfl
  have F3 := fun_mk (st := s_Audio_init) l3 c3 k3
  have b3 := F3.binds (ps := ["self", "rate", "depth", "channels"]) fun _ _ _ _ _ _ us hl => match us, hl with | [_, _, _, _], _ => rfl
  have F4 := fun_mk (st := s_law_cell) l4 c4 k4
  have b4 := F4.binds (ps := ["script", "k"]) fun _ _ _ _ _ _ us hl => match us, hl with | [_, _], _ => rfl
  have F5 := fun_mk (st := s_law_row) l5 c5 k5
  have b5 := F5.binds (ps := ["cell", "count", "bound"]) fun _ _ _ _ _ _ us hl => match us, hl with | [_, _, _], _ => rfl
  have F6 := fun_mk (st := s_law_settings) l6 c6 k6
  have b6 := F6.binds (ps := ["row"]) fun _ _ _ _ _ _ us hl => match us, hl with | [_], _ => rfl
  have F7 := fun_mk (st := s_law_values) l7 c7 k7
  have b7 := F7.binds (ps := ["told"]) fun _ _ _ _ _ _ us hl => match us, hl with | [_], _ => rfl
  have F8 := fun_mk (st := s_law_same) l8 c8 k8
  have b8 := F8.binds (ps := ["actual", "expected"]) fun _ _ _ _ _ _ us hl => match us, hl with | [_, _], _ => rfl
  have F9 := fun_mk (st := s_law_sizes) l9 c9 k9
  have b9 := F9.binds (ps := ["cell"]) fun _ _ _ _ _ _ us hl => match us, hl with | [_], _ => rfl
  have F10 := fun_mk (st := s_law_vendor) l10 c10 k10
  have b10 := F10.binds (ps := ["cell"]) fun _ _ _ _ _ _ us hl => match us, hl with | [_], _ => rfl
  have F11 := fun_mk (st := s_law_drawn) l11 c11 k11
  have b11 := F11.binds (ps := ["script", "at"]) fun _ _ _ _ _ _ us hl => match us, hl with | [_, _], _ => rfl
  have F12 := fun_mk (st := s_law) l12 c12 k12
  have b12 := F12.binds (ps := ["script"]) fun _ _ _ _ _ _ us hl => match us, hl with | [_], _ => rfl
  let T : TX K mg := ⟨f1, _, F1, kb2_block_sizes_fixed_order_linear_order_search_precision_partition_order_wide_stereo_wasted_seek_interval_vendor_1, e2_1, v2_1, b2_1, f2, _, F2, b2, f3, _, F3, b3, f4, _, F4, b4, (PySem.W.mg_of X G a4), f5, _, F5, b5, (PySem.W.mg_of X G a5), f6, _, F6, b6, (PySem.W.mg_of X G a6), f7, _, F7, b7, (PySem.W.mg_of X G a7), f8, _, F8, b8, (PySem.W.mg_of X G a8), f9, _, F9, b9, (PySem.W.mg_of X G a9), f10, _, F10, b10, (PySem.W.mg_of X G a10), f11, _, F11, b11, (PySem.W.mg_of X G a11), fa, _, F12, b12, (PySem.W.mg_of X G a12), C_Settings, ⟨pg_Settings, hd_Settings, po_Settings, sa_Settings⟩, (PySem.W.mg_of X G aC_Settings), ⟨mk_Settings, a1, i1, kc_Settings⟩, ⟨a2, i2, k2⟩, n_Settings_block_size, n_Settings_block_sizes, n_Settings_fixed_order, n_Settings_linear_order, n_Settings_search, n_Settings_precision, n_Settings_partition_order, n_Settings_wide, n_Settings_stereo, n_Settings_wasted, n_Settings_seek_interval, n_Settings_vendor, C_Audio, ⟨pg_Audio, hd_Audio, po_Audio, sa_Audio⟩, (PySem.W.mg_of X G aC_Audio), ⟨mk_Audio, a3, i3, kc_Audio⟩, n_Audio_rate, n_Audio_depth, n_Audio_channels, ⟨ty_Settingsha, ty_Settingshn, ty_Settingsht, ty_Settingshm⟩, ⟨ty_Audioha, ty_Audiohn, ty_Audioht, ty_Audiohm⟩, kit_self.1, kit_self.2, (kit_ty hd_Settings yt_Settings ys_Settings_int).1, (kit_ty hd_Settings yt_Settings ys_Settings_int).2, (kit_ty hd_Settings yt_Settings ys_Settings_list).1, (kit_ty hd_Settings yt_Settings ys_Settings_list).2, (kit_ref hd_Settings yt_Settings yz_Settings ys_Settings_Audio).1, (kit_ref hd_Settings yt_Settings yz_Settings ys_Settings_Audio).2, (PySem.W.mg_none_of X G z_list), (PySem.W.mg_none_of X G z_isinstance), (PySem.W.mg_none_of X G z_len), (PySem.W.mg_none_of X G z_abs), (PySem.W.mg_none_of X G z_int), (PySem.W.mg_none_of X G z_range), (PySem.W.mg_none_of X G z_bool)⟩
  exact ⟨_, fun s v => .of_eq rfl, fun base _ _ => ok_law T⟩
end K41
open PySem PySem.W PyProof.Rows
set_option maxRecDepth 100000 in
set_option maxHeartbeats 0 in
theorem PySem.Challenge.cw_monochord_k41_settings_of_the_encoder_holds : PySem.Challenge.rw_monochord_k41_settings_of_the_encoder.Holds := by
  w_on; o_law; k_head; (case hw => w_witness2)
  k_fill
  refine L2.walk_of (l := PySem.Challenge.rw_monochord_k41_settings_of_the_encoder) (n := 63) (k := 4) (x := "script") (CX := fun _ => L2.CX0) (sp := fun w => K41.sp_law _) rfl (by decide) rfl ⟨rfl, by decide, by decide⟩ (fun w h Y => PySem.W.kIn_of Y) ?F (fun _ _ a ns hl _ hS => ⟨a, ns, rfl, hS, hl, fun _ => rfl⟩) (fun _ _ _ _ _ h => h)
  case F =>
    intro w mg fa h KX G hmg
    refine' K41.all_mk KX G hmg ?a1 ?i1 ?l1 ?c1 ?k1 ?kq1_0 ?rk1_0 ?kq1_1 ?rk1_1 ?kq1_2 ?rk1_2 ?kq1_3 ?rk1_3 ?kq1_4 ?rk1_4 ?kq1_5 ?rk1_5 ?kq1_6 ?rk1_6 ?kq1_7 ?rk1_7 ?kq1_8 ?rk1_8 ?kq1_9 ?rk1_9 ?kq1_10 ?rk1_10 ?a2 ?i2 ?l2 ?c2 ?k2 ?a3 ?i3 ?l3 ?c3 ?k3 ?a4 ?l4 ?c4 ?k4 ?a5 ?l5 ?c5 ?k5 ?a6 ?l6 ?c6 ?k6 ?a7 ?l7 ?c7 ?k7 ?a8 ?l8 ?c8 ?k8 ?a9 ?l9 ?c9 ?k9 ?a10 ?l10 ?c10 ?k10 ?a11 ?l11 ?c11 ?k11 ?a12 ?l12 ?c12 ?k12 ?aC_Settings ?pg_Settings ?hd_Settings ?po_Settings ?sa_Settings ?mk_Settings ?kc_Settings ?n_Settings_block_size ?n_Settings_block_sizes ?n_Settings_fixed_order ?n_Settings_linear_order ?n_Settings_search ?n_Settings_precision ?n_Settings_partition_order ?n_Settings_wide ?n_Settings_stereo ?n_Settings_wasted ?n_Settings_seek_interval ?n_Settings_vendor ?aC_Audio ?pg_Audio ?hd_Audio ?po_Audio ?sa_Audio ?mk_Audio ?kc_Audio ?n_Audio_rate ?n_Audio_depth ?n_Audio_channels ?ty_Settingsha ?ty_Settingshn ?ty_Settingsht ?ty_Settingshm ?ty_Audioha ?ty_Audiohn ?ty_Audioht ?ty_Audiohm ?yt_Settings ?yz_Settings ?ys_Settings_int ?ys_Settings_list ?ys_Settings_Audio ?z_list ?z_isinstance ?z_len ?z_abs ?z_int ?z_range ?z_bool
    (case aC_Settings => k_is)
    (case aC_Audio => k_is)
    (case a1 => k_is)
    (case i1 => k_is)
    (case l1 => k_is)
    (case c1 => k_is)
    (case k1 => k_is)
    (case kq1_0 => k_is)
    (case rk1_0 => first | rfl | exact ⟨_, rfl⟩)
    (case kq1_1 => k_is)
    (case rk1_1 => first | rfl | exact ⟨_, rfl⟩)
    (case kq1_2 => k_is)
    (case rk1_2 => first | rfl | exact ⟨_, rfl⟩)
    (case kq1_3 => k_is)
    (case rk1_3 => first | rfl | exact ⟨_, rfl⟩)
    (case kq1_4 => k_is)
    (case rk1_4 => first | rfl | exact ⟨_, rfl⟩)
    (case kq1_5 => k_is)
    (case rk1_5 => first | rfl | exact ⟨_, rfl⟩)
    (case kq1_6 => k_is)
    (case rk1_6 => first | rfl | exact ⟨_, rfl⟩)
    (case kq1_7 => k_is)
    (case rk1_7 => first | rfl | exact ⟨_, rfl⟩)
    (case kq1_8 => k_is)
    (case rk1_8 => first | rfl | exact ⟨_, rfl⟩)
    (case kq1_9 => k_is)
    (case rk1_9 => first | rfl | exact ⟨_, rfl⟩)
    (case kq1_10 => k_is)
    (case rk1_10 => first | rfl | exact ⟨_, rfl⟩)
    (case a2 => k_is)
    (case i2 => k_is)
    (case l2 => k_is)
    (case c2 => k_is)
    (case k2 => k_is)
    (case a3 => k_is)
    (case i3 => k_is)
    (case l3 => k_is)
    (case c3 => k_is)
    (case k3 => k_is)
    (case a4 => k_is)
    (case l4 => k_is)
    (case c4 => k_is)
    (case k4 => k_is)
    (case a5 => k_is)
    (case l5 => k_is)
    (case c5 => k_is)
    (case k5 => k_is)
    (case a6 => k_is)
    (case l6 => k_is)
    (case c6 => k_is)
    (case k6 => k_is)
    (case a7 => k_is)
    (case l7 => k_is)
    (case c7 => k_is)
    (case k7 => k_is)
    (case a8 => k_is)
    (case l8 => k_is)
    (case c8 => k_is)
    (case k8 => k_is)
    (case a9 => k_is)
    (case l9 => k_is)
    (case c9 => k_is)
    (case k9 => k_is)
    (case a10 => k_is)
    (case l10 => k_is)
    (case c10 => k_is)
    (case k10 => k_is)
    (case a11 => k_is)
    (case l11 => k_is)
    (case c11 => k_is)
    (case k11 => k_is)
    (case a12 => k_is)
    (case l12 => k_is)
    (case c12 => k_is)
    (case k12 => k_is)
    (case pg_Settings => k_is)
    (case hd_Settings => k_is)
    (case po_Settings => k_is)
    (case sa_Settings => k_is)
    (case mk_Settings => k_is)
    (case kc_Settings => k_is)
    (case n_Settings_block_size => k_is)
    (case n_Settings_block_sizes => k_is)
    (case n_Settings_fixed_order => k_is)
    (case n_Settings_linear_order => k_is)
    (case n_Settings_search => k_is)
    (case n_Settings_precision => k_is)
    (case n_Settings_partition_order => k_is)
    (case n_Settings_wide => k_is)
    (case n_Settings_stereo => k_is)
    (case n_Settings_wasted => k_is)
    (case n_Settings_seek_interval => k_is)
    (case n_Settings_vendor => k_is)
    (case pg_Audio => k_is)
    (case hd_Audio => k_is)
    (case po_Audio => k_is)
    (case sa_Audio => k_is)
    (case mk_Audio => k_is)
    (case kc_Audio => k_is)
    (case n_Audio_rate => k_is)
    (case n_Audio_depth => k_is)
    (case n_Audio_channels => k_is)
    (case ty_Settingsha => k_is)
    (case ty_Settingshn => k_is)
    (case ty_Settingsht => k_is)
    (case ty_Settingshm => k_is)
    (case ty_Audioha => k_is)
    (case ty_Audiohn => k_is)
    (case ty_Audioht => k_is)
    (case ty_Audiohm => k_is)
    (case yt_Settings => k_is)
    (case yz_Settings => k_is)
    (case ys_Settings_int => k_is)
    (case ys_Settings_list => k_is)
    (case ys_Settings_Audio => k_is)
    (case z_list => k_is)
    (case z_isinstance => k_is)
    (case z_len => k_is)
    (case z_abs => k_is)
    (case z_int => k_is)
    (case z_range => k_is)
    (case z_bool => k_is)
