import PyProof.Rows.All
import Wide.All
import OpenK.AllK
import Wide.FinOn
import HandS.ForMost
import HandS.Steps
import HandS.Evl
import HandS.IsInst
import HandS.Defaults
import HandS.Wide
import HandS.WideBits
import HandS.Zip
import HandS.Star
import HandS.Walk
import HandS.Text
import HandS.TryOnly
import PySem.Challenge.RW_monochord_k09_bytes_of_samples
set_option Elab.async false
set_option linter.all false
set_option maxRecDepth 100000
set_option maxHeartbeats 4000000
namespace K09
open PySem PySem.Spec PyProof.Rows L2 Evl
def topS (i : Nat) : Stmt := PySem.Challenge.pw_monochord_k09_bytes_of_samples.main.body.getD i (.Pass ⟨0, 0, 0, 0⟩)
abbrev s_sample_bytes : Stmt := topS 1
theorem sc_sample_bytes : FnScope ["channels", "depth", "count", "data", "row", "sample"] ["channels", "depth"] (defScope s_sample_bytes) := ⟨rfl, rfl, rfl, by decide +kernel, rfl, by decide +kernel, by decide +kernel⟩
abbrev s_low_bytes : Stmt := topS 2
theorem sc_low_bytes : FnScope ["number", "count", "shift"] ["number", "count"] (defScope s_low_bytes) := ⟨rfl, rfl, rfl, by decide +kernel, rfl, by decide +kernel, by decide +kernel⟩
abbrev s_law_draw : Stmt := topS 4
theorem sc_law_draw : FnScope ["cell", "many", "bound", "numbers", "k", "seed", "mixed"] ["cell", "many", "bound"] (defScope s_law_draw) := ⟨rfl, rfl, rfl, by decide +kernel, rfl, by decide +kernel, by decide +kernel⟩
abbrev s_law_is_integer : Stmt := topS 5
theorem sc_law_is_integer : FnScope ["actual"] ["actual"] (defScope s_law_is_integer) := ⟨rfl, rfl, rfl, by decide +kernel, rfl, by decide +kernel, by decide +kernel⟩
abbrev s_law_same : Stmt := topS 6
theorem sc_law_same : FnScope ["actual", "expected", "k"] ["actual", "expected"] (defScope s_law_same) := ⟨rfl, rfl, rfl, by decide +kernel, rfl, by decide +kernel, by decide +kernel⟩
abbrev s_law_cell : Stmt := topS 7
theorem sc_law_cell : FnScope ["script", "k"] ["script", "k"] (defScope s_law_cell) := ⟨rfl, rfl, rfl, by decide +kernel, rfl, by decide +kernel, by decide +kernel⟩
abbrev s_law_channel : Stmt := topS 8
theorem sc_law_channel : FnScope ["cell", "many", "depth", "numbers", "row", "number", "value"] ["cell", "many", "depth"] (defScope s_law_channel) := ⟨rfl, rfl, rfl, by decide +kernel, rfl, by decide +kernel, by decide +kernel⟩
abbrev s_law_read : Stmt := topS 9
theorem sc_law_read : FnScope ["data", "at", "many", "value", "k"] ["data", "at", "many"] (defScope s_law_read) := ⟨rfl, rfl, rfl, by decide +kernel, rfl, by decide +kernel, by decide +kernel⟩
abbrev s_law : Stmt := topS 10
theorem sc_law : FnScope ["script", "sizes", "count", "size", "depth", "k", "channels", "row", "handed", "data", "many", "expected", "at"] ["script"] (defScope s_law) := ⟨rfl, rfl, rfl, by decide +kernel, rfl, by decide +kernel, by decide +kernel⟩
theorem hu64 {A : Around} {k : Nat} (hr : Room k A) : A.units + 64 < cLine := hr.units
/-! ### short words for readings -/
theorem ret_eq {v w : V} {H H' : Hp} {Q : VK} (k : RetV v H Q) (ex : Ex H H') (e : w = v) : Q w H' := e ▸ k H' ex
/-- isinstance(x, T), T a built-in class -/
theorem ev_isi {K : PySem.W.Frag} {σ : L2.St} {H : Hp} {ta : TE} {x : V} {t : String} {T : String} {b : Bool} (ha : Ev ta σ H x) (ht : ∀ H1, Ex H H1 → TyX K H1 x (.type t)) (hk : kitB t T = some b) :
    Ev (tCB (rIsi K) (tCons ta (tCons (tC (.ty T)) tNil))) σ H (.bl b) :=
  ev_cb (ea_cons ha (ea_cons ev_c ea_nil)) fun H1 e Q q => ⟨x, .ty T, _, _, b, rfl, .ty T, ht H1 e, kit_ty hk, q H1 (Ex.refl H1)⟩
theorem isi_int {K : PySem.W.Frag} {H : Hp} {i : Int} : ∀ H1, Ex H H1 → TyX K H1 (V.int i) (.type "int") := fun _ _ => .base (.int _)
theorem isi_bl {K : PySem.W.Frag} {H : Hp} {b : Bool} : ∀ H1, Ex H H1 → TyX K H1 (V.bl b) (.type "bool") := fun _ _ => .base (.bl _)
theorem isi_non {K : PySem.W.Frag} {H : Hp} : ∀ H1, Ex H H1 → TyX K H1 V.non (.type "NoneType") := fun _ _ => .base .non
theorem isi_lst {K : PySem.W.Frag} {H : Hp} {a : Addr} {xs : List V} (h : H a = some (.lst xs)) : ∀ H1, Ex H H1 → TyX K H1 (V.ref a) (.type "list") := fun _ e => .base (.lst (e _ _ h))
theorem isi_tup {K : PySem.W.Frag} {H : Hp} {a : Addr} {xs : List V} (h : H a = some (.tup xs)) : ∀ H1, Ex H H1 → TyX K H1 (V.ref a) (.type "tuple") := fun _ e => .base (.tup (e _ _ h))
theorem kit_ii : kitB "int" "int" = some true := by decide +kernel
theorem kit_ib : kitB "int" "bool" = some false := by decide +kernel
theorem kit_bb : kitB "bool" "bool" = some true := by decide +kernel
theorem kit_bi : kitB "bool" "int" = some true := by decide +kernel
theorem kit_ll : kitB "list" "list" = some true := by decide +kernel
theorem kit_tt : kitB "tuple" "tuple" = some true := by decide +kernel
theorem ev_isiI {K : PySem.W.Frag} {σ : L2.St} {H : Hp} {ta : TE} {i : Int} (ha : Ev ta σ H (.int i)) : Ev (tCB (rIsi K) (tCons ta (tCons (tC (.ty "int")) tNil))) σ H (.bl true) := ev_isi ha isi_int kit_ii
theorem ev_isiB {K : PySem.W.Frag} {σ : L2.St} {H : Hp} {ta : TE} {i : Int} (ha : Ev ta σ H (.int i)) : Ev (tCB (rIsi K) (tCons ta (tCons (tC (.ty "bool")) tNil))) σ H (.bl false) := ev_isi ha isi_int kit_ib
theorem ev_isiL {K : PySem.W.Frag} {σ : L2.St} {H : Hp} {ta : TE} {a : Addr} {xs : List V} (ha : Ev ta σ H (.ref a)) (h : H a = some (.lst xs)) : Ev (tCB (rIsi K) (tCons ta (tCons (tC (.ty "list")) tNil))) σ H (.bl true) := ev_isi ha (isi_lst h) kit_ll
theorem ev_isiBB {K : PySem.W.Frag} {σ : L2.St} {H : Hp} {ta : TE} {b : Bool} (ha : Ev ta σ H (.bl b)) : Ev (tCB (rIsi K) (tCons ta (tCons (tC (.ty "bool")) tNil))) σ H (.bl true) := ev_isi ha isi_bl kit_bb
theorem ev_chain {σ : L2.St} {H : Hp} {ta tb tc : TE} {g g' : Int → Int → Bool} {a b c : Int} (ha : Ev ta σ H (.int a)) (hb : Ev tb σ H (.int b)) (hc : Ev tc σ H (.int c)) :
    Ev (tChain (rI0 fun i j => .bl (g i j)) (rI0 fun i j => .bl (g' i j)) ta tb tc) σ H (.bl (g a b && g' b c)) := fun H1 e Q q =>
  ha H1 e _ fun H2 e2 => hb H2 (e.trans e2) _ fun H3 e3 => ⟨a, b, rfl, rfl, g a b, rfl, by
    cases hg : g a b with
    | true =>
      rw [if_pos rfl]
      rw [hg, Bool.true_and] at q
      exact hc H3 ((e.trans e2).trans e3) _ fun H4 e4 => ⟨b, c, rfl, rfl, q H4 ((e2.trans e3).trans e4)⟩
    | false =>
      rw [if_neg (by decide)]
      rw [hg, Bool.false_and] at q
      exact q H3 (e2.trans e3)⟩
theorem ev_isN {σ : L2.St} {H : Hp} {ta : TE} {x : V} (ha : Ev ta σ H x) : Ev (tOp rIsN ta (tC .non)) σ H (.bl (decide (x = .non))) := fun H1 e Q q => ha H1 e _ fun H2 e2 => ⟨rfl, q H2 e2⟩
theorem ev_notN {σ : L2.St} {H : Hp} {ta : TE} {x : V} (ha : Ev ta σ H x) : Ev (tOp rNotN ta (tC .non)) σ H (.bl (!decide (x = .non))) := fun H1 e Q q => ha H1 e _ fun H2 e2 => ⟨rfl, q H2 e2⟩
theorem ev_min2 {σ : L2.St} {H : Hp} {ta tb : TE} {i j : Int} (ha : Ev ta σ H (.int i)) (hb : Ev tb σ H (.int j)) :
    Ev (tCB (fun xs H Q => ∃ i j, xs = [.int i, .int j] ∧ Q (.int (if j < i then j else i)) H) (tCons ta (tCons tb tNil))) σ H (.int (if j < i then j else i)) :=
  ev_cb (ea_cons ha (ea_cons hb ea_nil)) fun H1 _ _ q => ⟨i, j, rfl, q H1 (Ex.refl H1)⟩
theorem ev_negI {σ : L2.St} {H : Hp} {ta : TE} {i : Int} (ha : Ev ta σ H (.int i)) : Ev (tUn (rU fun i => .int (-i)) ta) σ H (.int (-i)) := ev_un ha ru_neg
theorem ev_I0 {σ : L2.St} {H : Hp} {ta tb : TE} {g : Int → Int → V} {i j : Int} (ha : Ev ta σ H (.int i)) (hb : Ev tb σ H (.int j)) : Ev (tOp (rI0 g) ta tb) σ H (g i j) := ev_op ha hb rv_I0
theorem ev_I {σ : L2.St} {H : Hp} {ta tb : TE} {C : Int → Int → Prop} {g : Int → Int → V} {i j : Int} (ha : Ev ta σ H (.int i)) (hb : Ev tb σ H (.int j)) (hc : C i j) : Ev (tOp (rI C g) ta tb) σ H (g i j) := ev_op ha hb (rv_I hc)
theorem ev_eq {σ : L2.St} {H : Hp} {ta tb : TE} {x y : V} (ha : Ev ta σ H x) (hb : Ev tb σ H y) (hs : scal x y = true) : Ev (tOp rEq ta tb) σ H (.bl (decide (x = y))) := ev_op ha hb (rv_eq hs)
theorem ev_ne {σ : L2.St} {H : Hp} {ta tb : TE} {x y : V} (ha : Ev ta σ H x) (hb : Ev tb σ H y) (hs : scal x y = true) : Ev (tOp rNe ta tb) σ H (.bl (!decide (x = y))) := ev_op ha hb (rv_ne hs)
theorem et_B' {σ : L2.St} {H : Hp} {te : TE} {x : V} {b : Bool} (h : Ev te σ H x) (e : x = .bl b) : EvT (tB te) σ H b := et_B (e ▸ h)
theorem dec_lt {a b : Nat} : decide ((a : Int) < (b : Int)) = decide (a < b) := by
  by_cases h : a < b
  · rw [decide_eq_true h, decide_eq_true (by omega)]
  · rw [decide_eq_false h, decide_eq_false (by omega)]
theorem int_at {ns : List Int} {i : Nat} {x : V} (hx : (ns.map V.int)[i]? = some x) : ∃ n, ns[i]? = some n ∧ i < ns.length ∧ x = V.int n := by
  rw [List.getElem?_map] at hx
  cases en : ns[i]? with
  | none => rw [en] at hx; cases hx
  | some n => rw [en] at hx; exact ⟨n, rfl, (List.getElem?_eq_some_iff.mp en).1, (Option.some.inj hx).symm⟩
theorem at_int {ns : List Int} {i : Nat} {n : Int} (h : ns[i]? = some n) : (ns.map V.int)[i]? = some (V.int n) := by rw [List.getElem?_map, h]; rfl
local macro_rules | `(tactic| walk_at "side") => `(tactic| first
  | omega | (show CMul _ _; unfold CMul; omega) | (show CDiv _ _; unfold CDiv; omega) | (show CPow _ _; unfold CPow; omega) | (show (_ : Int) < _; omega) | (show (_ : Int) ≤ _; omega) | decide)
local macro_rules | `(tactic| walk_at "ev") => `(tactic| first
  | exact ev_var rfl
  | exact ev_c
  | (refine' ev_I0 ?h1 ?h2; (case h1 => walk_at "ev"); (case h2 => walk_at "ev"))
  | (refine' ev_negI ?h1; (case h1 => walk_at "ev"))
  | (refine' ev_I ?h1 ?h2 ?hc; (case h1 => walk_at "ev"); (case h2 => walk_at "ev"); (case hc => walk_at "side"))
  | (refine' ev_eq ?h1 ?h2 ?hc; (case h1 => walk_at "ev"); (case h2 => walk_at "ev"); (case hc => rfl))
  | (refine' ev_ne ?h1 ?h2 ?hc; (case h1 => walk_at "ev"); (case h2 => walk_at "ev"); (case hc => rfl))
  | (refine' ev_max2 ?h1 ?h2; (case h1 => walk_at "ev"); (case h2 => walk_at "ev"))
  | (refine' ev_min2 ?h1 ?h2; (case h1 => walk_at "ev"); (case h2 => walk_at "ev"))
  | (refine' ev_chain ?h1 ?h2 ?h3; (case h1 => walk_at "ev"); (case h2 => walk_at "ev"); (case h3 => walk_at "ev"))
  | (refine' ev_isN ?h1; (case h1 => walk_at "ev"))
  | (refine' ev_notN ?h1; (case h1 => walk_at "ev"))
  | (refine' ev_isiI ?h1; (case h1 => walk_at "ev"))
  | (refine' ev_isiB ?h1; (case h1 => walk_at "ev"))
  | (refine' ev_isiBB ?h1; (case h1 => walk_at "ev"))
  | (refine' ev_andV ?h1 (fun _ => ?h2); (case h1 => walk_at "ev"); (case h2 => walk_at "ev"))
  | (refine' ev_orV ?h1 (fun _ => ?h2); (case h1 => walk_at "ev"); (case h2 => walk_at "ev"))
  | (refine' ev_notV ?h1; (case h1 => walk_at "ev"))
  | walk_at "evmore")
local macro_rules | `(tactic| walk_at "et") => `(tactic| first
  | (refine' et_test ?h1; (case h1 => walk_at "ev"))
  | (refine' et_B ?h1; (case h1 => walk_at "ev"))
  | (refine' et_not ?h1; (case h1 => walk_at "et"))
  | (refine' et_and ?h1 (fun _ => ?h2); (case h1 => walk_at "et"); (case h2 => walk_at "et"))
  | (refine' et_or ?h1 (fun _ => ?h2); (case h1 => walk_at "et"); (case h2 => walk_at "et")))
local macro_rules | `(tactic| walk_at "ea") => `(tactic| first
  | exact ea_nil
  | (refine' ea_cons ?h1 ?h2; (case h1 => walk_at "ev"); (case h2 => walk_at "ea")))
local macro_rules | `(tactic| walk_at "when") => `(tactic| (refine' q_when ?h ?h1 ?h2; (case h => walk_at "et")))
local macro_rules | `(tactic| walk_at "whenS") => `(tactic| (refine' s_when ?h ?h1 ?h2; (case h => walk_at "et")))
local macro_rules | `(tactic| walk_at "if") => `(tactic| (refine' q_if ?h ?h1 ?h2; (case h => walk_at "et")))
local macro_rules | `(tactic| walk_at "ifS") => `(tactic| (refine' s_if ?h ?h1 ?h2; (case h => walk_at "et")))
local macro_rules | `(tactic| walk_at "ret") => `(tactic| (refine' s_ret ?h ?h1; (case h => walk_at "ev")))
local macro_rules | `(tactic| walk_at "asg") => `(tactic| (refine' q_asg ?h ?h1; (case h => walk_at "ev")))
local macro_rules | `(tactic| walk_at "asgS") => `(tactic| (refine' s_asg ?h ?h1; (case h => walk_at "ev")))

/-! ### lists, existing or new -/
def EvR (te : TE) (σ : L2.St) (H : Hp) (xs : List V) : Prop := ∀ H1, Ex H H1 → ∀ Q : VK, (∀ p H2, Ex H1 H2 → H2 p = some (.lst xs) → Q (.ref p) H2) → te σ H1 Q
def EvS (K : PySem.W.Frag) (te : TE) (σ : L2.St) (H : Hp) (xs : List V) : Prop := ∀ H1, Ex H H1 → ∀ Q : VK, (∀ p H2, Ex H1 H2 → SqL K H2 p xs → Q (.ref p) H2) → te σ H1 Q
section
variable {K : PySem.W.Frag} {σ : L2.St} {H H' : Hp} {ta tb te : TE} {xs ys : List V} {a : Addr}
theorem EvL.r (h : EvL te σ H xs) : EvR te σ H xs := fun H1 e Q q => h H1 e Q fun p H2 _ e2 h2 => q p H2 e2 h2
theorem Ev.r (h : Ev te σ H (.ref a)) (hx : H a = some (.lst xs)) : EvR te σ H xs := fun H1 e Q q => h H1 e Q fun H2 e2 => q a H2 e2 (e2 _ _ (e _ _ hx))
theorem EvR.s (h : EvR te σ H xs) : EvS K te σ H xs := fun H1 e Q q => h H1 e Q fun p H2 e2 h2 => q p H2 e2 (sq_of h2)
theorem Ev.s (h : Ev te σ H (.ref a)) (hx : SqL K H a xs) : EvS K te σ H xs := fun H1 e Q q => h H1 e Q fun H2 e2 => q a H2 e2 (ex_l e2 (ex_l e hx))
theorem EvR.mono (e : Ex H H') (h : EvR te σ H xs) : EvR te σ H' xs := fun H1 a Q q => h H1 (e.trans a) Q q
theorem EvS.mono (e : Ex H H') (h : EvS K te σ H xs) : EvS K te σ H' xs := fun H1 a Q q => h H1 (e.trans a) Q q
theorem EvL.is (h : EvL te σ H xs) (e : xs = ys) : EvL te σ H ys := e ▸ h
theorem EvR.is (h : EvR te σ H xs) (e : xs = ys) : EvR te σ H ys := e ▸ h
theorem el_cat (ha : EvR ta σ H xs) (hb : EvR tb σ H ys) (hl : xs.length + ys.length ≤ 100000) : EvL (tOp rCat ta tb) σ H (xs ++ ys) := fun H1 e Q q =>
  ha H1 e _ fun p H2 e2 h2 => hb H2 (e.trans e2) _ fun r H3 e3 h3 => ⟨p, r, xs, ys, rfl, rfl, e3 _ _ h2, h3, sz_of hl, fun l hl => q l _ (fresh_back (e2.trans e3) hl) ((e2.trans e3).trans (Ex.new hl)) upd_same⟩
theorem el_rep {k : Int} (ha : EvR ta σ H xs) (hb : Ev tb σ H (.int k)) (hk : -(2 ^ 63) ≤ k ∧ k < 2 ^ 63) (hl : xs.length * k.toNat ≤ 100000) : EvL (tOp rRep ta tb) σ H (List.replicate k.toNat xs).flatten := fun H1 e Q q =>
  ha H1 e _ fun p H2 e2 h2 => hb H2 (e.trans e2) _ fun H3 e3 => ⟨p, k, xs, rfl, rfl, e3 _ _ h2, hk.1, hk.2, sz_of hl, fun l hl => q l _ (fresh_back (e2.trans e3) hl) ((e2.trans e3).trans (Ex.new hl)) upd_same⟩
theorem rep_one {x : V} (n : Nat) : (List.replicate n [x]).flatten = List.replicate n x := by
  induction n with
  | zero => rfl
  | succ n ih => rw [List.replicate_succ, List.replicate_succ, List.flatten_cons, ih]; rfl
theorem el_of {te : TE} (h : EvS K te σ H xs) : EvL (tCB (rListS K) (tCons te tNil)) σ H xs := fun H1 e Q q =>
  h H1 e _ fun p H2 e2 h2 => ⟨p, xs, rfl, .inl h2, fun l hl => q l _ (fresh_back e2 hl) (e2.trans (Ex.new hl)) upd_same⟩
theorem ev_lenS (h : EvS K te σ H xs) : Ev (tCB (rLenS K) (tCons te tNil)) σ H (.int (xs.length : Int)) := fun H1 e Q q =>
  h H1 e _ fun p H2 e2 h2 => ⟨p, xs, rfl, .inl h2, q H2 e2⟩
theorem ev_sum {ns : List Int} (h : EvS K te σ H (ns.map V.int)) : Ev (tCB (rSum K) (tCons te tNil)) σ H (.int ns.sum) := fun H1 e Q q =>
  h H1 e _ fun p H2 e2 h2 => ⟨p, ns, rfl, h2, q H2 e2⟩
theorem dp_ints {K : PySem.W.Frag} {H : Hp} : ∀ ns : List Int, DpAll K H (ns.map V.int) (ns.map PyData.int)
  | [] => .nil
  | n :: r => .cons (.int n) (dp_ints r)
theorem eqv_ints : ∀ ns ms : List Int, PyData.eqvAll (ns.map PyData.int) (ms.map PyData.int) = decide (ns = ms)
  | [], [] => by simp [PyData.eqvAll]
  | [], _ :: _ => by simp [PyData.eqvAll]
  | _ :: _, [] => by simp [PyData.eqvAll]
  | n :: r, m :: t => by
    show (PyData.eqv (.int n) (.int m) && PyData.eqvAll (r.map PyData.int) (t.map PyData.int)) = _
    rw [eqv_ints r t]
    show ((n == m) && decide (r = t)) = _
    by_cases h1 : n = m <;> by_cases h2 : r = t <;> simp [h1, h2]
theorem canLay_ints : ∀ ns : List Int, PyData.canLayAll0 (ns.map PyData.int) = true
  | [] => by simp [PyData.canLayAll0]
  | n :: r => by
    show PyData.canLayAll0 (PyData.int n :: r.map PyData.int) = true
    rw [PyData.canLayAll0, canLay_ints r]
    simp [PyData.canLay0]
theorem depth_ints : ∀ ns : List Int, PyData.depthAll (ns.map PyData.int) ≤ 1
  | [] => by simp [PyData.depthAll]
  | n :: r => by
    show PyData.depthAll (PyData.int n :: r.map PyData.int) ≤ 1
    have := depth_ints r
    simp only [PyData.depthAll, PyData.depth]
    omega
theorem shaped_ints (ns : List Int) : SeqAt.shaped (.list (ns.map PyData.int)) = true := by
  unfold SeqAt.shaped
  have h1 := canLay_ints ns
  have h2 := depth_ints ns
  have h3 : PyData.depth (.list (ns.map PyData.int)) ≤ 64 := by
    rw [PyData.depth]
    omega
  rw [decide_eq_true h3, Bool.and_true]
  simpa only [PyData.canLay0] using h1
theorem ev_eqI {ns ms : List Int} (ha : EvS K ta σ H (ns.map V.int)) (hb : EvS K tb σ H (ms.map V.int)) : Ev (tOp (rEqD K) ta tb) σ H (.bl (decide (ns = ms))) := fun H1 e Q q =>
  ha H1 e _ fun p H2 e2 h2 => hb H2 (e.trans e2) _ fun r H3 e3 h3 => ⟨.list (ns.map PyData.int), .list (ms.map PyData.int), .lst (ex_l e3 h2) (dp_ints ns), .lst h3 (dp_ints ms), shaped_ints ns, shaped_ints ms, by
    show Q (.bl (PyData.eqvAll (ns.map PyData.int) (ms.map PyData.int))) H3
    rw [eqv_ints]
    exact q H3 (e2.trans e3)⟩
theorem ev_neI {ns ms : List Int} (ha : EvS K ta σ H (ns.map V.int)) (hb : EvS K tb σ H (ms.map V.int)) : Ev (tOp (rNeD K) ta tb) σ H (.bl (!decide (ns = ms))) := fun H1 e Q q =>
  ha H1 e _ fun p H2 e2 h2 => hb H2 (e.trans e2) _ fun r H3 e3 h3 => ⟨.list (ns.map PyData.int), .list (ms.map PyData.int), .lst (ex_l e3 h2) (dp_ints ns), .lst h3 (dp_ints ms), shaped_ints ns, shaped_ints ms, by
    show Q (.bl (!PyData.eqvAll (ns.map PyData.int) (ms.map PyData.int))) H3
    rw [eqv_ints]
    exact q H3 (e2.trans e3)⟩
theorem ev_ixS {i : Nat} {n : Int} {tl ti : TE} {v : V} (h : EvS K tl σ H xs) (hi : Ev ti σ H (.int n)) (ha : atI xs n = some v) : Ev (tOp (rIxL K) tl ti) σ H v := fun H1 e Q q =>
  h H1 e _ fun p H2 e2 h2 => hi H2 (e.trans e2) _ fun H3 e3 => ⟨p, xs, n, v, rfl, rfl, ex_l e3 h2, ha, q H3 (e2.trans e3)⟩
theorem el_slS {tl th : TO} {lo hi : Option Int} (h : EvS K te σ H xs) (h1 : EvO tl σ H lo) (h2 : EvO th σ H hi) : EvL (tSl (rSlL K) te tl th) σ H (cutV xs lo hi) := fun H1 e _ q =>
  h H1 e _ fun a H2 e2 hs => h1 H2 (e.trans e2) _ fun H3 e3 => h2 H3 ((e.trans e2).trans e3) _ fun H4 e4 =>
    ⟨a, xs, rfl, ex_l (e3.trans e4) hs, fun p hp => q p _ (fresh_back ((e2.trans e3).trans e4) hp) (((e2.trans e3).trans e4).trans (Ex.new hp)) upd_same⟩
theorem ev_at {n : Int} {tl ti : TE} {v : V} (h : EvS K tl σ H xs) (hi : Ev ti σ H (.int n)) (ha : atI xs n = some v) : Ev (tOp (rIxL K) tl ti) σ H v := ev_ixS (i := 0) h hi ha
theorem cut_to (xs : List V) (i : Nat) : cutV xs none (some (i : Int)) = xs.take i := by
  unfold cutV
  rw [HT.sIx_none, HT.sIx_nat, List.drop_zero, Nat.sub_zero]
  by_cases h : i ≤ xs.length
  · rw [Nat.min_eq_left h]
  · rw [Nat.min_eq_right (by omega), List.take_of_length_le (Nat.le_refl _), List.take_of_length_le (by omega)]
theorem cut_from (xs : List V) (i : Nat) : cutV xs (some (i : Int)) none = xs.drop i := by
  unfold cutV
  rw [HT.sIx_none, HT.sIx_nat]
  by_cases h : i ≤ xs.length
  · rw [Nat.min_eq_left h, List.take_of_length_le (by rw [List.length_drop]; omega)]
  · rw [Nat.min_eq_right (by omega), List.drop_of_length_le (Nat.le_refl _), List.drop_of_length_le (show xs.length ≤ i by omega), List.take_nil]
theorem cut_mid (xs : List V) (i j : Nat) : cutV xs (some (i : Int)) (some (j : Int)) = (xs.drop i).take (j - i) := by
  unfold cutV
  rw [HT.sIx_nat, HT.sIx_nat]
  by_cases h : i ≤ xs.length
  · rw [Nat.min_eq_left h]
    by_cases h2 : j ≤ xs.length
    · rw [Nat.min_eq_left h2]
    · rw [Nat.min_eq_right (by omega), List.take_of_length_le (by rw [List.length_drop]; omega), List.take_of_length_le (by rw [List.length_drop]; omega)]
  · rw [Nat.min_eq_right (by omega : xs.length ≤ i), List.drop_of_length_le (Nat.le_refl _), List.drop_of_length_le (show xs.length ≤ i by omega)]
    simp
theorem el_to {th : TE} {ns : List Int} {i : Nat} (h : EvS K te σ H (ns.map V.int)) (h2 : Ev th σ H (.int i)) : EvL (tSl (rSlL K) te tNoPart (tPart th)) σ H ((ns.take i).map V.int) :=
  EvL.is (el_slS h eo_none (eo_some h2)) (by rw [List.map_take]; exact cut_to _ i)
theorem el_from {th : TE} {ns : List Int} {i : Nat} (h : EvS K te σ H (ns.map V.int)) (h2 : Ev th σ H (.int i)) : EvL (tSl (rSlL K) te (tPart th) tNoPart) σ H ((ns.drop i).map V.int) :=
  EvL.is (el_slS h (eo_some h2) eo_none) (by rw [List.map_drop]; exact cut_from _ i)
theorem el_mid {t1 t2 : TE} {ns : List Int} {i j : Nat} (h : EvS K te σ H (ns.map V.int)) (h1 : Ev t1 σ H (.int i)) (h2 : Ev t2 σ H (.int j)) : EvL (tSl (rSlL K) te (tPart t1) (tPart t2)) σ H (((ns.drop i).take (j - i)).map V.int) :=
  EvL.is (el_slS h (eo_some h1) (eo_some h2)) (by rw [List.map_take, List.map_drop]; exact cut_mid _ i j)
section
variable {D : Ends} {tz : TS} {sp : Sp} {dvs vs : List V} {E : XK} {tA : TA}
/-- x = f(..), whatever f promises -/
theorem q_asgC {i : Nat} (h : EvA tA σ H vs) (k : ∀ H1, Ex H H1 → sp (vs ++ dvs) H1 (fun x H2 => tz D (σ.set i (some x)) H2) E) : tSeq (tAsg (tCall sp dvs E tA) (gName i)) tz D σ H := h H (Ex.refl H) _ fun H1 e => k H1 e
theorem s_asgC {i : Nat} (h : EvA tA σ H vs) (k : ∀ H1, Ex H H1 → sp (vs ++ dvs) H1 (fun x H2 => D.nx (σ.set i (some x)) H2) E) : tAsg (tCall sp dvs E tA) (gName i) D σ H := h H (Ex.refl H) _ fun H1 e => k H1 e
theorem q_dropC (h : EvA tA σ H vs) (k : ∀ H1, Ex H H1 → sp (vs ++ dvs) H1 (fun _ H2 => tz D σ H2) E) : tSeq (tDrop (tCall sp dvs E tA)) tz D σ H := h H (Ex.refl H) _ fun H1 e => k H1 e
theorem s_retC (h : EvA tA σ H vs) (k : ∀ H1, Ex H H1 → sp (vs ++ dvs) H1 D.rt E) : tRet (tCall sp dvs E tA) D σ H := h H (Ex.refl H) _ fun H1 e => k H1 e
end
theorem gl_get {ns : List Int} {i : Nat} (h : i < ns.length) : ns[i]? = some (ns.getD i 0) := by
  rw [List.getD_eq_getElem?_getD, List.getElem?_eq_getElem h]
  rfl
theorem q_asgRaw {te : TE} {i : Nat} {D : Ends} {tz : TS} (P : V → Hp → Prop) (h : ∀ Q : VK, (∀ x H2, P x H2 → Q x H2) → te σ H Q) (k : ∀ x H2, P x H2 → tz D (σ.set i (some x)) H2) : tSeq (tAsg te (gName i)) tz D σ H := h _ k
/-- a, b = a pair -/
theorem q_asgT {te : TE} {i j : Nat} {D : Ends} {tz : TS} (P : V → V → Hp → Prop) (h : ∀ Q : VK, (∀ t x y H2, P x y H2 → SqT K H2 t [x, y] → Q (.ref t) H2) → te σ H Q) (k : ∀ x y H2, P x y H2 → tz D ((σ.set i (some x)).set j (some y)) H2) :
    tSeq (tAsg te (gTup K 2 (gCons (gName i) (gCons (gName j) gNil)))) tz D σ H := h _ fun t x y H2 hP hT => ⟨t, [x, y], rfl, hT, rfl, x, [y], rfl, y, [], rfl, rfl, k x y H2 hP⟩
/-- the law's cell -/
def cellI (ns : List Int) (k : Int) : Int := ns.getD k.toNat 0
theorem cellI_in {ns : List Int} {k : Int} (h0 : 0 ≤ k) (h : k < ns.length) : ns[k.toNat]? = some (cellI ns k) := by
  unfold cellI
  rw [List.getD_eq_getElem?_getD, List.getElem?_eq_getElem (by omega)]
  rfl
theorem cellI_out {ns : List Int} {k : Int} (h : ¬ k < ns.length) : cellI ns k = 0 := by
  unfold cellI
  rw [List.getD_eq_getElem?_getD, List.getElem?_eq_none (by omega)]
  rfl
end
theorem Ex.get {H H' : Hp} {a : Addr} {o : HO} (e : Ex H H') (h : H a = some o) : H' a = some o := e a o h
local macro_rules | `(tactic| walk_at "hp") => `(tactic| first
  | assumption
  | exact upd_same
  | (refine' Ex.get (by assumption) ?h1; (case h1 => walk_at "hp")))
local macro_rules | `(tactic| walk_at "ex") => `(tactic| first
  | assumption
  | exact Ex.refl _
  | (refine' Ex.trans ?h1 (by assumption); (case h1 => walk_at "ex")))
local macro_rules | `(tactic| walk_at "sq") => `(tactic| first
  | assumption
  | (refine' sq_of ?h1; (case h1 => walk_at "hp"))
  | (refine' ex_l (by assumption) ?h1; (case h1 => walk_at "sq")))
local macro_rules | `(tactic| walk_at "evs") => `(tactic| first
  | (refine' Ev.s ?h1 ?h2; (case h1 => exact ev_var rfl); (case h2 => walk_at "sq"))
  | (refine' EvR.s ?h1; (case h1 => walk_at "evr")))
local macro_rules | `(tactic| walk_at "evr") => `(tactic| first
  | (refine' Ev.r ?h1 ?h2; (case h1 => exact ev_var rfl); (case h2 => walk_at "hp"))
  | (refine' EvL.r ?h1; (case h1 => walk_at "el")))
local macro_rules | `(tactic| walk_at "eo") => `(tactic| first
  | exact eo_none
  | (refine' eo_some ?h1; (case h1 => walk_at "ev")))
local macro_rules | `(tactic| walk_at "el") => `(tactic| first
  | (refine' el_lst ?h1 ?h2; (case h1 => walk_at "ea"); (case h2 => exact Nat.le_of_ble_eq_true rfl))
  | (refine' el_cat ?h1 ?h2 ?h3; (case h1 => walk_at "evr"); (case h2 => walk_at "evr"); (case h3 => walk_at "len"))
  | (refine' el_rep ?h1 ?h2 ?h3 ?h4; (case h1 => walk_at "evr"); (case h2 => walk_at "ev"); (case h3 => walk_at "side2"); (case h4 => walk_at "len"))
  | (refine' el_of ?h1; (case h1 => walk_at "evs"))
  | (refine' el_to ?h1 ?h2; (case h1 => walk_at "evs"); (case h2 => walk_at "ev"))
  | (refine' el_from ?h1 ?h2; (case h1 => walk_at "evs"); (case h2 => walk_at "ev"))
  | (refine' el_mid ?h1 ?h2 ?h3; (case h1 => walk_at "evs"); (case h2 => walk_at "ev"); (case h3 => walk_at "ev"))
  | (refine' el_slS ?h1 ?h2 ?h3; (case h1 => walk_at "evs"); (case h2 => walk_at "eo"); (case h3 => walk_at "eo"))
  | walk_at "elmore")
local macro_rules | `(tactic| walk_at "evmore") => `(tactic| first
  | (refine' ev_lenS ?h1; (case h1 => walk_at "evs"))
  | (refine' ev_sum ?h1; (case h1 => walk_at "evs"))
  | (refine' ev_eqI ?h1 ?h2; (case h1 => walk_at "evs"); (case h2 => walk_at "evs"))
  | (refine' ev_neI ?h1 ?h2; (case h1 => walk_at "evs"); (case h2 => walk_at "evs"))
  | (refine' ev_at ?h1 ?h2 ?h3; (case h1 => walk_at "evs"); (case h2 => walk_at "ev"); (case h3 => walk_at "at"))
  | (refine' ev_isiL ?h1 ?h2; (case h1 => walk_at "ev"); (case h2 => walk_at "hp"))
  | walk_at "evown")
local macro_rules | `(tactic| walk_at "at") => `(tactic| first
  | exact at_of rfl (at_int (by assumption))
  | exact at_of rfl (by assumption))
local macro_rules | `(tactic| walk_at "asgL") => `(tactic| (refine' q_asgL ?h ?h1; (case h => walk_at "el")))
local macro_rules | `(tactic| walk_at "retL") => `(tactic| (refine' s_retL ?h ?h1; (case h => walk_at "el")))

/-- a walk's reading said in other words -/
theorem PI.k {X : Cx} {tg e : Expr} {wi wi' : TI} (h : PI X tg e wi) (q : wi = wi') : PI X tg e wi' := q ▸ h
/-! ### comprehensions whose items are said in a list -/
theorem et_yes {σ : L2.St} {H : Hp} : EvT tYes σ H true := fun H1 _ _ q => q H1 (Ex.refl H1)
section
variable {K : PySem.W.Frag} {σ : L2.St} {H : Hp} {t1 t2 te : TE} {xs ys zs : List V} {vs : List Nat}
theorem take_snoc {zs : List V} {i : Nat} {z : V} (h : zs[i]? = some z) : zs.take (i + 1) = zs.take i ++ [z] := by
  rw [List.take_add_one, h]
  rfl
theorem el_lcZ {j1 j2 : Nat} (zs : List V) (h1 : EvS K t1 σ H xs) (h2 : EvS K t2 σ H ys) (hz : zs.length = min xs.length ys.length) (hb : zs.length ≤ 50000)
    (hw : ∀ x y, wipe (((wipe σ vs).set j1 (some x)).set j2 (some y)) vs = wipe σ vs)
    (he : ∀ (i : Nat) (x y : V) H1, Ex H H1 → xs[i]? = some x → ys[i]? = some y → ∃ z, zs[i]? = some z ∧ Ev te (((wipe σ vs).set j1 (some x)).set j2 (some y)) H1 z) :
    EvL (tLc (iZip K (tCons t1 (tCons t2 tNil))) (gTup K 2 (gCons (gName j1) (gCons (gName j2) gNil))) tYes te vs) σ H zs := fun H0 e Q q =>
  h1 H0 e _ fun p H1 e1 hp => h2 H1 (e.trans e1) _ fun r H2 e2 hr => ⟨p, r, xs, ys, rfl, ex_l e2 hp, hr, fun D hD =>
    ⟨fun i m H' => m = zs.length - i ∧ i ≤ zs.length ∧ Ex H2 H' ∧ H' D = some (.lst (zs.take i)), ⟨zs.length, rfl, Nat.zero_le _, Ex.new hD, upd_same⟩, by
      rintro i m H' ⟨rfl, hi, ex, hd⟩
      have qx : SqL K H' p xs := ex_l (e2.trans ex) hp
      have qy : SqL K H' r ys := ex_l ex hr
      by_cases hlt : i < zs.length
      · have hx : xs[i]? = some xs[i] := List.getElem?_eq_getElem (by omega)
        have hy : ys[i]? = some ys[i] := List.getElem?_eq_getElem (by omega)
        refine .inr ⟨⟨xs, ys, _, _, qx, qy, hx, hy⟩, fun H3 => i + 1 ≤ zs.length ∧ Ex H2 H3 ∧ H3 D = some (.lst (zs.take (i + 1))), fun H3 h3 => ⟨zs.length - (i + 1), by omega, rfl, h3⟩, fun v H3 hv => ?_⟩
        obtain ⟨T, x, y, rfl, hT, rfl, f1, f2⟩ := hv
        have ex3 : Ex H' (upd H' T (.tup [x, y])) := Ex.new hT
        obtain ⟨z, hz1, hz2⟩ := he i x y (upd H' T (.tup [x, y])) ((((e.trans e1).trans e2).trans ex).trans ex3) (f1 _ qx) (f2 _ qy)
        refine ⟨T, [x, y], rfl, st_of upd_same, rfl, x, [y], rfl, y, [], rfl, rfl, hw x y, ?_⟩
        refine hz2 _ (Ex.refl _) _ fun H4 e4 => ⟨zs.take i, e4 _ _ (ex3 _ _ hd), sz_lt (by rw [List.length_take]; omega), hlt, ?_, ?_⟩
        · exact Ex.mut ((ex.trans ex3).trans e4) hD
        · rw [upd_same, take_snoc hz1]
      · have ei : i = zs.length := by omega
        refine .inl ⟨⟨xs, ys, qx, qy, by omega⟩, ?_⟩
        rw [ei, List.take_length] at hd
        exact q D H' (fresh_back (e1.trans e2) hD) ((e1.trans e2).trans ex) hd⟩⟩
/-- over a list, each item kept -/
theorem el_lcS {j : Nat} (zs : List V) (h1 : EvS K t1 σ H xs) (hz : zs.length = xs.length) (hb : zs.length ≤ 50000) (hw : ∀ x, wipe ((wipe σ vs).set j (some x)) vs = wipe σ vs)
    (he : ∀ (i : Nat) (x : V) H1, Ex H H1 → xs[i]? = some x → ∃ z, zs[i]? = some z ∧ Ev te ((wipe σ vs).set j (some x)) H1 z) :
    EvL (tLc (iList K t1) (gName j) tYes te vs) σ H zs := fun H0 e Q q =>
  h1 H0 e _ fun p H1 e1 hp => ⟨p, rfl, ⟨xs, hp⟩, fun D hD => lc_list (xs := xs) (fun i H' => Ex H1 H' ∧ H' D = some (.lst (zs.take i))) ⟨Ex.new hD, upd_same⟩ (fun i H' _ h => ex_l h.1 hp)
    (fun i x H' hi h => ⟨hw x, by
      obtain ⟨z, hz1, hz2⟩ := he i x H' ((e.trans e1).trans h.1) hi
      have hl : i < xs.length := (List.getElem?_eq_some_iff.mp hi).1
      refine hz2 H' (Ex.refl _) _ fun H4 e4 => ⟨zs.take i, e4 _ _ h.2, sz_lt (by rw [List.length_take]; omega), Ex.mut (h.1.trans e4) hD, ?_⟩
      rw [upd_same, take_snoc hz1]⟩)
    (fun H' h => q D H' (fresh_back e1 hD) (e1.trans h.1) (by rw [h.2, ← hz, List.take_length]))⟩
/-- over range(n) -/
theorem el_lcR {ta : TA} {n : Int} {j : Nat} (zs : List V) (h1 : EvA ta σ H [.int n]) (hn : -100000 ≤ n) (hz : zs.length = n.toNat) (hb : zs.length ≤ 50000) (hw : ∀ x, wipe ((wipe σ vs).set j (some x)) vs = wipe σ vs)
    (he : ∀ (i : Nat) H1, Ex H H1 → i < zs.length → ∃ z, zs[i]? = some z ∧ Ev te ((wipe σ vs).set j (some (.int (i : Int)))) H1 z) :
    EvL (tLc (iRng1 ta) (gName j) tYes te vs) σ H zs := fun H0 e Q q =>
  h1 H0 e _ fun H1 e1 => ⟨n, rfl, by omega, by omega, fun D hD => lc_range (lo := 0) (n := n.toNat) (fun i H' => Ex H1 H' ∧ H' D = some (.lst (zs.take i))) ⟨Ex.new hD, upd_same⟩
    (fun i H' hi h => by
      have e0 : (0 : Int) + (i : Int) = (i : Int) := Int.zero_add _
      rw [e0]
      obtain ⟨z, hz1, hz2⟩ := he i H' ((e.trans e1).trans h.1) (by omega)
      refine ⟨hw _, hz2 H' (Ex.refl _) _ fun H4 e4 => ⟨zs.take i, e4 _ _ h.2, sz_lt (by rw [List.length_take]; omega), Ex.mut (h.1.trans e4) hD, ?_⟩⟩
      rw [upd_same, take_snoc hz1])
    (fun H' h => q D H' (fresh_back e1 hD) (e1.trans h.1) (by rw [h.2, show n.toNat = zs.length by omega, List.take_length]))⟩
/-- y = [.. for x in f(..)], whatever f promises -/
theorem s_asgLC {sp : Sp} {dvs args : List V} {E : XK} {ta : TA} {g : TG} {tt : TT} {D : Ends} {i : Nat} (h : EvA ta σ H args) (k : ∀ H1, Ex H H1 → sp (args ++ dvs) H1 (fun x H2 => tAsg (tLc (iList K (tC x)) g tt te vs) (gName i) D σ H2) E) :
    tAsg (tLc (iList K (tCall sp dvs E ta)) g tt te vs) (gName i) D σ H := h H (Ex.refl H) _ fun H1 e => k H1 e
theorem q_asgLC {sp : Sp} {dvs args : List V} {E : XK} {ta : TA} {g : TG} {tt : TT} {D : Ends} {i : Nat} {tz : TS} (h : EvA ta σ H args) (k : ∀ H1, Ex H H1 → sp (args ++ dvs) H1 (fun x H2 => tSeq (tAsg (tLc (iList K (tC x)) g tt te vs) (gName i)) tz D σ H2) E) :
    tSeq (tAsg (tLc (iList K (tCall sp dvs E ta)) g tt te vs) (gName i)) tz D σ H := h H (Ex.refl H) _ fun H1 e => k H1 e
theorem s_retLC {sp : Sp} {dvs args : List V} {E : XK} {ta : TA} {g : TG} {tt : TT} {D : Ends} (h : EvA ta σ H args) (k : ∀ H1, Ex H H1 → sp (args ++ dvs) H1 (fun x H2 => tRet (tLc (iList K (tC x)) g tt te vs) D σ H2) E) :
    tRet (tLc (iList K (tCall sp dvs E ta)) g tt te vs) D σ H := h H (Ex.refl H) _ fun H1 e => k H1 e
end

/-! ### calls with keywords, defaults -/
theorem kwAllN {K : PySem.W.Frag} {D : Addr} : ∀ p ∈ ([] : List (Str × V)), ∃ u, PySem.W.nsIn K D p.1 = some (some u) ∧ RelV p.2 u := fun p hp => by cases hp
theorem kwAllC {K : PySem.W.Frag} {D : Addr} {q : Str × V} {l : List (Str × V)} (h : ∃ u, PySem.W.nsIn K D q.1 = some (some u) ∧ RelV q.2 u) (hl : ∀ p ∈ l, ∃ u, PySem.W.nsIn K D p.1 = some (some u) ∧ RelV p.2 u) : ∀ p ∈ q :: l, ∃ u, PySem.W.nsIn K D p.1 = some (some u) ∧ RelV p.2 u := fun p hp => by
  rcases List.mem_cons.mp hp with rfl | hp
  · exact h
  · exact hl p hp
theorem kwAll1 {K : PySem.W.Frag} {D : Addr} {q : Str × V} (h : ∃ u, PySem.W.nsIn K D q.1 = some (some u) ∧ RelV q.2 u) : ∀ p ∈ [q], ∃ u, PySem.W.nsIn K D p.1 = some (some u) ∧ RelV p.2 u := fun p hp => by
  rcases List.mem_cons.mp hp with rfl | hp
  · exact h
  · cases hp
section
variable {K : PySem.W.Frag} {x qual : Str} {params : Arguments} {body : List Stmt} {scope : Scope} {dvs : List V} {kws : List (Str × V)} {f : Addr} {fd : FuncData} {ps : List Str}
/-- f(a, .., k = v, ..), nothing left to a default, no defaults of place -/
theorem fund_kb0 {g : List Value → List Value → List Value} {gV : List V → List V → List V} (F : FunD K x qual params body scope [] kws f fd) (n : Nat) (ks : List Str)
    (hrel : ∀ {vs : List V} {us : List Value} {zs : List V} {ws : List Value}, Vals vs us → Vals zs ws → Vals (gV vs zs) (g us ws))
    (h : ∀ (kV doc pm : Value) (an : Option Addr) (cdv ct : Value) (us ws : List Value), us.length = n → ws.length = ks.length → bindArgs (PySem.W.fnOf x qual params body scope .none kV doc pm an cdv ct) ⟨us, ks.zip ws⟩ = pure (ps.zip (g us ws))) :
    KBn K fd ps n ks g gV := by
  obtain ⟨oc, od, dV, kV, doc, pm, an, cdv, ct, osl, rfl, lk, hcd, hD, hK⟩ := F.ex
  rcases hD with ⟨_, rfl⟩ | ⟨e, _⟩
  · exact ⟨fun s us ws X l1 l2 => .of_eq (h kV doc pm an cdv ct us ws l1 l2), hrel⟩
  · exact absurd rfl e
/-- the same of a def with defaults of place -/
theorem fund_kb1 {g : List Value → List Value → List Value} {gV : List V → List V → List V} (F : FunD K x qual params body scope dvs kws f fd) (hd : dvs ≠ []) (n : Nat) (ks : List Str)
    (hrel : ∀ {vs : List V} {us : List Value} {zs : List V} {ws : List Value}, Vals vs us → Vals zs ws → Vals (gV vs zs) (g us ws))
    (h : ∀ (T : Addr) (kV doc pm : Value) (an : Option Addr) (cdv ct : Value) (us its ws : List Value), us.length = n → its.length = dvs.length → ws.length = ks.length →
      ∃ k, bindArgs (PySem.W.fnOf x qual params body scope (.ref T) kV doc pm an cdv ct) ⟨us, ks.zip ws⟩ = seqItems? (.ref T) >>= k ∧ k (some its.toArray) = pure (ps.zip (g us ws))) :
    KBn K fd ps n ks g gV := by
  obtain ⟨oc, od, dV, kV, doc, pm, an, cdv, ct, osl, rfl, lk, hcd, hD, hK⟩ := F.ex
  rcases hD with ⟨e, _⟩ | ⟨_, T, o, its, m, rfl, lT, oT, rT⟩
  · exact absurd e hd
  · refine ⟨fun s us ws X l1 l2 => ?_, hrel⟩
    obtain ⟨k, e1, e2⟩ := h T kV doc pm an cdv ct us its ws l1 rT.length.symm l2
    refine BindsTo.of_looks fun M => ?_
    rw [e1]
    exact looks_items X lT oT (.of_pure e2)
end

/-! ### data at any depth -/
mutual
theorem dp_ex {K : PySem.W.Frag} {H H' : Hp} (e : Ex H H') : ∀ (d : PyData) (v : V), Dp K H v d → Dp K H' v d
  | .none, _, h => by cases h; exact .non
  | .bool b, _, h => by cases h; exact .bl b
  | .int i, _, h => by cases h; exact .int i
  | .str x, _, h => by cases h; exact .str x
  | .list ds, _, h => by cases h with | lst hs ha => exact .lst (ex_l e hs) (dpa_ex e ds _ ha)
  | .tuple ds, _, h => by cases h with | tup hs ha => exact .tup (ex_t e hs) (dpa_ex e ds _ ha)
  | .dict _, _, h => by cases h
theorem dpa_ex {K : PySem.W.Frag} {H H' : Hp} (e : Ex H H') : ∀ (ds : List PyData) (vs : List V), DpAll K H vs ds → DpAll K H' vs ds
  | [], _, h => by cases h; exact .nil
  | d :: ds, _, h => by cases h with | cons h1 h2 => exact .cons (dp_ex e d _ h1) (dpa_ex e ds _ h2)
end
def EvD (K : PySem.W.Frag) (te : TE) (σ : L2.St) (H : Hp) (d : PyData) : Prop := ∀ H1, Ex H H1 → ∀ Q : VK, (∀ v H2, Ex H1 H2 → Dp K H2 v d → Q v H2) → te σ H1 Q
section
variable {K : PySem.W.Frag} {σ : L2.St} {H : Hp} {te ta tb t1 t2 t3 : TE} {d d1 d2 d3 : PyData} {v : V}
theorem EvD.of (h : Ev te σ H v) (hd : Dp K H v d) : EvD K te σ H d := fun H1 e Q q => h H1 e _ fun H2 e2 => q v H2 e2 (dp_ex (e.trans e2) d v hd)
theorem EvS.toD {ns : List Int} (h : EvS K te σ H (ns.map V.int)) : EvD K te σ H (.list (ns.map .int)) := fun H1 e Q q => h H1 e _ fun p H2 e2 hp => q (.ref p) H2 e2 (.lst hp (dp_ints ns))
theorem ed_tup2 (h1 : EvD K t1 σ H d1) (h2 : EvD K t2 σ H d2) : EvD K (tTup (tCons t1 (tCons t2 tNil))) σ H (.tuple [d1, d2]) := fun H1 e Q q => h1 H1 e _ fun v H2 e2 hv => h2 H2 (e.trans e2) _ fun u H3 e3 hu =>
  ⟨sz_of (show 2 ≤ 100000 by decide), fun p hp => q (.ref p) _ ((e2.trans e3).trans (Ex.new hp)) (.tup (st_of upd_same) (.cons (dp_ex (e3.trans (Ex.new hp)) _ _ hv) (.cons (dp_ex (Ex.new hp) _ _ hu) .nil)))⟩
theorem ev_eqDD (h1 : EvD K ta σ H d) (h2 : EvD K tb σ H d) (hs : SeqAt.shaped d = true) : Ev (tOp (rEqD K) ta tb) σ H (.bl true) := fun H1 e Q q => h1 H1 e _ fun v H2 e2 hv => h2 H2 (e.trans e2) _ fun u H3 e3 hu =>
  ⟨d, d, dp_ex e3 d v hv, hu, hs, hs, by rw [SeqAt.eqv_refl d (SeqAt.canLay_of_shaped hs)]; exact q H3 (e2.trans e3)⟩
theorem ev_neDD (h1 : EvD K ta σ H d) (h2 : EvD K tb σ H d) (hs : SeqAt.shaped d = true) : Ev (tOp (rNeD K) ta tb) σ H (.bl false) := fun H1 e Q q => h1 H1 e _ fun v H2 e2 hv => h2 H2 (e.trans e2) _ fun u H3 e3 hu =>
  ⟨d, d, dp_ex e3 d v hv, hu, hs, hs, by rw [SeqAt.eqv_refl d (SeqAt.canLay_of_shaped hs)]; exact q H3 (e2.trans e3)⟩
end
theorem shaped_pair (ns ms : List Int) : SeqAt.shaped (.tuple [.list (ns.map .int), .list (ms.map .int)]) = true := by
  unfold SeqAt.shaped
  have h1 := canLay_ints ns
  have h2 := depth_ints ns
  have h3 := canLay_ints ms
  have h4 := depth_ints ms
  rw [Bool.and_eq_true, decide_eq_true_iff]
  refine ⟨by simp only [PyData.canLay0, PyData.canLayAll0, h1, h3, Bool.and_self], ?_⟩
  simp only [PyData.depth, PyData.depthAll]
  omega

/-! ### zip(*xs) of a list of lists, the target a name -/
namespace ZN
theorem forIn_inv {α β : Type} {M : Model} {A : Around} {E : Value → Shared → Prop} (f : α → β → Sem (ForInStep β)) (b : Nat → β) (I : Nat → Shared → Prop) :
    ∀ (xs : List α) (n : Nat) (s : Shared), (∀ (i : Nat) (x : α) (s : Shared), xs[i]? = some x → I (n + i) s → wpAny M A (f x (b (n + i))) (fun r s' => r = .yield (b (n + i + 1)) ∧ I (n + i + 1) s') E s) → I n s → wpAny M A (forIn xs (b n) f) (fun r s' => r = b (n + xs.length) ∧ I (n + xs.length) s') E s
  | [], n, s, _, h => by
    rw [List.forIn_nil]
    exact wpAny_pure ⟨rfl, h⟩
  | x :: xs, n, s, hs, h => by
    rw [List.forIn_cons]
    refine wpAny_bind (wpAny_mono (hs 0 x s rfl h) (fun r s' hr => ?_) fun _ _ z => z)
    obtain ⟨rfl, hi⟩ := hr
    have hr := forIn_inv f b I xs (n + 1) s' (fun i y s2 hy h2 => by
      have := hs (i + 1) y s2 hy (by rw [show n + (i + 1) = n + 1 + i by omega]; exact h2)
      rw [show n + (i + 1) = n + 1 + i by omega] at this
      exact this) hi
    rw [show n + (x :: xs).length = n + 1 + xs.length by rw [List.length_cons]; omega]
    exact hr
theorem typeCall_zip (vs : List Value) : checkTypeCall "zip" ⟨vs, []⟩ = pure () := by kernel_rfl
theorem newCall_zip (a : Value) (vs : List Value) : checkBuiltinCall "zip.__new__" ⟨.type "zip" :: a :: vs, []⟩ = pure () := by kernel_rfl
theorem args_object_init (obj : Value) (vs : List Value) : argsOk "object.__init__" ⟨obj :: vs, []⟩ := by
  unfold argsOk; rw [signature?_of (id := "object.__init__") (n := ['_', '_', 't', 'i', 'n', 'i', '_', '_']) (o := ['t', 'c', 'e', 'j', 'b', 'o']) (by kernel_rfl) F.owner_object]; kernel_rfl
theorem newClass_zip (vs : List Value) : Builtin.SmallTypes.newClass "zip" ⟨.type "zip" :: vs, []⟩ = pure (.type "zip", vs) := by
  unfold Builtin.SmallTypes.newClass
  simp only [isType, sub_zip, pure_bind, Bool.not_true, Bool.false_eq_true, if_false]
abbrev liO (l : Addr) : Obj := { cls := .type "list_iterator", data := .fields #[.ref l, .int 0 0] }
def itH (h : Heap) (ls : List Addr) : Heap := ls.foldl (fun h l => h.push (liO l)) h
theorem itH_size : ∀ (ls : List Addr) (h : Heap), (itH h ls).objs.size = h.objs.size + ls.length
  | [], h => rfl
  | l :: ls, h => by
    show (itH (h.push (liO l)) ls).objs.size = _
    rw [itH_size ls, Heap.size_push, List.length_cons]
    omega
theorem itH_keep : ∀ (ls : List Addr) (h : Heap) (c : Addr) (o : Obj), h.get? c = some o → (itH h ls).get? c = some o
  | [], h, c, o, e => e
  | l :: ls, h, c, o, e => itH_keep ls (h.push (liO l)) c o (Heap.get?_push_of_some _ e)
theorem itH_get : ∀ (ls : List Addr) (h : Heap) (j : Nat) (l : Addr), ls[j]? = some l → (itH h ls).get? (h.objs.size + j) = some (liO l)
  | l :: ls, h, 0, x, e => by
    cases e
    exact itH_keep ls (h.push (liO l)) _ _ (Heap.get?_push_size _ rfl)
  | l :: ls, h, j + 1, x, e => by
    have := itH_get ls (h.push (liO l)) j x e
    rw [Heap.size_push] at this
    rw [show h.objs.size + (j + 1) = h.objs.size + 1 + j by omega]
    exact this
theorem itH_snoc (h : Heap) (ls : List Addr) (l : Addr) : itH h (ls ++ [l]) = (itH h ls).push (liO l) := by unfold itH; rw [List.foldl_append]; rfl
def itVs (h : Heap) (n : Nat) : List Value := (List.range n).map fun j => Value.ref (h.objs.size + j)
section
variable {prog : Program} {w : World} {A : Around} {E : Value → Shared → Prop} {s : Shared}
theorem iterAll_lists {ls : List Addr} {Q : List Value → Shared → Prop} (hl : ∀ l ∈ ls, ∃ xs, s.heap.IsList l xs) (hQ : Q (itVs s.heap ls.length) { s with heap := itH s.heap ls }) :
    wpAny (model prog w) A (Builtin.SmallTypes.iterAll (ls.map Value.ref)) Q E s := by
  unfold Builtin.SmallTypes.iterAll
  refine wpAny_bind (wpAny_mono (forIn_inv _ (fun i => (itVs s.heap i).toArray) (fun i s' => s' = { s with heap := itH s.heap (ls.take i) }) (ls.map Value.ref) 0 s (fun i x s' hx hs' => ?_) rfl) (fun r s' hr => ?_) fun _ _ z => z)
  · subst hs'
    rw [List.getElem?_map] at hx
    obtain ⟨l, hl', rfl⟩ := Option.map_eq_some_iff.mp hx
    obtain ⟨xs, hxs⟩ := hl l (List.mem_of_getElem? hl')
    have hil := (List.getElem?_eq_some_iff.mp hl').1
    rw [Nat.zero_add]
    refine wpAny_bind (wpAny_holding (wpAny_pyIter_list (items := xs) (hxs.at fun o e => itH_keep _ _ _ _ e) ?_))
    refine wpAny_pure ⟨?_, ?_⟩
    · congr 1
      show ((itVs s.heap i).toArray.push (Value.ref (itH s.heap (ls.take i)).objs.size)) = (itVs s.heap (i + 1)).toArray
      rw [itH_size, List.length_take, Nat.min_eq_left (Nat.le_of_lt hil), List.push_toArray]
      congr 1
      unfold itVs
      rw [List.range_succ, List.map_append]
      rfl
    · have : ls.take (i + 1) = ls.take i ++ [l] := by rw [List.take_add_one, hl']; rfl
      rw [this, itH_snoc]
  · obtain ⟨rfl, rfl⟩ := hr
    rw [Nat.zero_add, List.length_map, List.take_length]
    exact wpAny_pure hQ
abbrev zH3 (h : Heap) (ls : List Addr) : Heap := (itH h ls).push { cls := .type "tuple", data := .seq (itVs h ls.length).toArray }
abbrev zH4 (h : Heap) (ls : List Addr) : Heap := (zH3 h ls).push { cls := .type "tuple", data := .seq ((itVs h ls.length).map fun _ => Value.none).toArray }
abbrev zH5 (h : Heap) (ls : List Addr) : Heap := (zH4 h ls).push { cls := .type "zip", data := .fields #[.none, .bool false, .bool false, .ref (itH h ls).objs.size, .ref (zH3 h ls).objs.size] }
theorem meets_zip (ls : List Addr) : Meets (Builtin.«zip.__new__» ⟨.type "zip" :: ls.map Value.ref, []⟩) (fun _ R s => (∀ l ∈ ls, ∃ xs, s.heap.IsList l xs) ∧ ls.length ≤ sizeLine ∧ R (.ok (.ret (.ref (zH4 s.heap ls).objs.size))) { s with heap := zH5 s.heap ls }) :=
  .of_wp fun prog w A R s h => by
    obtain ⟨hl, hz, h⟩ := h
    unfold Builtin.«zip.__new__»
    refine wpAny_bind (wpAny_of_eq (newClass_zip _) ?_)
    dsimp only
    rw [if_neg (by decide)]
    refine wpAny_bind (iterAll_lists hl ?_)
    have hvl : (itVs s.heap ls.length).length = ls.length := by unfold itVs; rw [List.length_map, List.length_range]
    refine wpAny_bind (wpAny_newTuple ?_ (by rw [hvl]; exact hz))
    refine wpAny_bind (wpAny_newTuple ?_ (by rw [List.length_map, hvl]; exact hz))
    refine wpAny_bind ?_
    unfold Builtin.SmallTypes.newRecord
    refine wpAny_newObj_type ?_ (by show 5 ≤ sizeLine + 2; decide)
    exact wpAny_pure ⟨_, rfl, h⟩
end
abbrev zO (TI TO : Addr) (f0 f1 : Value) : Obj := { cls := .type "zip", dict := none, data := .fields #[f0, f1, .bool false, .ref TI, .ref TO], slots := #[] }
abbrev IsTp (h : Heap) (T : Addr) (xs : Array Value) : Prop := h.get? T = some { cls := .type "tuple", data := .seq xs }
structure Apart (z TI TO : Addr) (its ls : List Addr) : Prop where
  TIz : TI ≠ z
  TOz : TO ≠ z
  TITO : TI ≠ TO
  iz : ∀ a ∈ its, a ≠ z ∧ a ≠ TI ∧ a ≠ TO
  nd : ∀ (j k : Nat) (a : Addr), its[j]? = some a → its[k]? = some a → j = k
  lz : ∀ l ∈ ls, l ≠ z ∧ l ≠ TO ∧ l ∉ its
  len : its.length = ls.length
  ne : its ≠ []
/-- the heap in the midst of a turn: the first k iterators have moved -/
structure LSt (h0 : Heap) (z TO : Addr) (its ls : List Addr) (i : Nat) (oz : Obj) (c : Array Value) (k : Nat) (h : Heap) : Prop where
  zip : h.get? z = some oz
  to : IsTp h TO c
  lo : ∀ j a l, j < k → its[j]? = some a → ls[j]? = some l → h.IsListIter a l (i + 1)
  hi : ∀ j a l, k ≤ j → its[j]? = some a → ls[j]? = some l → h.IsListIter a l i
  sz : h.objs.size = h0.objs.size
  fr : ∀ b o, b ≠ z → b ≠ TO → b ∉ its → h0.get? b = some o → h.get? b = some o
theorem Apart.ne' {z TI TO : Addr} {its ls : List Addr} (D : Apart z TI TO its ls) {j k : Nat} {a b : Addr} (h1 : its[j]? = some a) (h2 : its[k]? = some b) (h : j ≠ k) : a ≠ b := fun e => h (D.nd j k a h1 (e ▸ h2))
section
variable {prog : Program} {w : World} {A : Around} {E : Value → Shared → Prop} {s : Shared}
theorem draw {h0 : Heap} {z TI TO : Addr} {its ls : List Addr} {i k : Nat} {oz : Obj} {c : Array Value} {a l : Addr} {xs : Array Value} {x : Value} {Q : Value → Shared → Prop} (D : Apart z TI TO its ls) (L : LSt h0 z TO its ls i oz c k s.heap) (ha : its[k]? = some a) (hl : ls[k]? = some l) (hx : h0.IsList l xs) (hi : xs[i]? = some x)
    (hQ : ∀ h', LSt h0 z TO its ls i oz c (k + 1) h' → Q x { s with heap := h' }) : wpAny (model prog w) A (Builtin.SmallTypes.nextOf (.ref a)) Q E s := by
  have hal := List.mem_of_getElem? ha
  have hll := D.lz l (List.mem_of_getElem? hl)
  refine wpAny_nextOf_list_item (L.hi k a l (Nat.le_refl _) ha hl) (hx.at fun o e => L.fr l o hll.1 hll.2.1 hll.2.2 e) hi fun h' hit hs => hQ h' ?_
  have up : ∀ b o, b ≠ a → s.heap.get? b = some o → h'.get? b = some o := fun b o n e => hs.extBut _ _ n e
  refine ⟨up _ _ (Ne.symm (D.iz a hal).1) L.zip, up _ _ (Ne.symm (D.iz a hal).2.2) L.to, fun j a' l' hj h1 h2 => ?_, fun j a' l' hj h1 h2 => ?_, hs.1.trans L.sz, fun b o b1 b2 b3 e => up b o (fun z => b3 (z ▸ hal)) (L.fr b o b1 b2 b3 e)⟩
  · by_cases hjk : j = k
    · subst hjk
      rw [ha] at h1
      rw [hl] at h2
      cases h1
      cases h2
      exact hit
    · exact (L.lo j a' l' (by omega) h1 h2).at fun o e => up _ o (D.ne' h1 ha hjk) e
  · exact (L.hi j a' l' (by omega) h1 h2).at fun o e => up _ o (D.ne' h1 ha (by omega)) e
theorem wpAny_loadIfAlive {M : Model} {a : Addr} {Q : Option Obj → Shared → Prop} (h : Q (s.heap.get? a) s) : wpAny M A (loadIfAlive a) Q E s := fun Γ p _ => by
  unfold loadIfAlive
  rw [Sem.wp_loadIfAlive]
  exact wpAny_pure (M := M) (A := A) (E := E) h Γ p ‹_›
theorem isFree {z TI TO : Addr} {f0 f1 : Value} (hz : s.heap.get? z = some (zO TI TO f0 f1)) (hf0 : f0 = .none ∨ ∃ T : Nat, f0 = rawInt T) (hf1 : f1 = .bool true ∨ f1 = .bool false) :
    wpAny (model prog w) A (Builtin.SmallTypes.ownedTupleIsFree (.ref z)) (fun b s' => (b = true ∧ s' = s) ∨ (b = false ∧ ∃ h', s' = { s with heap := h' } ∧ h'.get? z = some (zO TI TO f0 (.bool true)) ∧ Heap.SameBut z s.heap h')) E s := by
  unfold Builtin.SmallTypes.ownedTupleIsFree
  refine wpAny_bind (wpAny_field hz rfl (x := f0) rfl ?_)
  rcases hf0 with rfl | ⟨T, rfl⟩
  · exact wpAny_pure (.inl ⟨rfl, rfl⟩)
  · show wpAny _ _ (loadIfAlive _ >>= _) _ _ _
    refine wpAny_bind (wpAny_loadIfAlive ?_)
    cases hT : s.heap.get? (Int.toNat (T : Int)) with
    | none => exact wpAny_pure (.inl ⟨rfl, rfl⟩)
    | some o =>
      show wpAny _ _ (field (.ref z) 1 >>= _) _ _ _
      refine wpAny_bind (wpAny_field hz rfl (x := f1) rfl ?_)
      rcases hf1 with rfl | rfl
      · exact wpAny_pure (.inr ⟨rfl, s.heap, rfl, hz, Heap.SameBut.refl _ _⟩)
      · show wpAny _ _ (setField (.ref z) 1 (.bool true) >>= _) _ _ _
        refine wpAny_bind (wpAny_setField_rec hz (by simp) fun h' hz' hs => ?_)
        exact wpAny_pure (.inr ⟨rfl, h', rfl, hz', hs⟩)
end
section
variable {prog : Program} {w : World} {A : Around} {E : Value → Shared → Prop} {s : Shared}
theorem forIn_invC {α β : Type} {M : Model} (f : α → β → Sem (ForInStep β)) (b : β) (I : Nat → Shared → Prop) (xs : List α) (hs : ∀ (i : Nat) (x : α) (s : Shared), xs[i]? = some x → I i s → wpAny M A (f x b) (fun r s' => r = .yield b ∧ I (i + 1) s') E s) (h : I 0 s) : wpAny M A (forIn xs b f) (fun r s' => r = b ∧ I xs.length s') E s := by
  have := forIn_inv (M := M) (A := A) (E := E) f (fun _ => b) I xs 0 s (fun i x s hx hi => by rw [Nat.zero_add] at hi ⊢; exact hs i x s hx hi) h
  rw [Nat.zero_add] at this
  exact this
theorem updSeq {T : Addr} {c : Array Value} {x : Value} {k : Nat} {Q : Unit → Shared → Prop} (hT : IsTp s.heap T c) (hz : c.size ≤ sizeLine) (h : ∀ h', IsTp h' T (c.setIfInBounds k x) → Heap.SameBut T s.heap h' → Q () { s with heap := h' }) :
    wpAny (model prog w) A (updateSeq T (·.setIfInBounds k x)) Q E s := by
  refine wpAny_updateSeq hT rfl (h _ ?_ (Heap.SameBut.update ..)) hz (by rw [Array.size_setIfInBounds]; exact Nat.le_succ_of_le hz)
  show Heap.get? _ _ = _
  rw [Heap.get?_update_self _ hT rfl]
  simp [Obj.mapSeq]
theorem mix_set {news olds : List Value} {k : Nat} {x : Value} (hl : olds.length = news.length) (hx : news[k]? = some x) : (news.take k ++ olds.drop k).toArray.setIfInBounds k x = (news.take (k + 1) ++ olds.drop (k + 1)).toArray := by
  obtain ⟨hk, hg⟩ := List.getElem?_eq_some_iff.mp hx
  have hko : k < olds.length := by omega
  have h1 : (news.take k).length = k := by rw [List.length_take]; omega
  rw [List.setIfInBounds_toArray, List.set_append_right _ _ (by omega), h1, Nat.sub_self, List.drop_eq_getElem_cons hko, List.set_cons_zero, List.take_add_one, hx, List.append_assoc]
  rfl
/-- the heap between turns -/
def Sts (h : Heap) (z TI TO : Addr) (its ls : List Addr) (i : Nat) : Prop := ∃ (f0 f1 : Value) (olds : List Value), h.get? z = some (zO TI TO f0 f1) ∧ (f0 = .none ∨ ∃ T : Nat, f0 = rawInt T) ∧ (f1 = .bool true ∨ f1 = .bool false) ∧ IsTp h TI (its.map Value.ref).toArray ∧ olds.length = its.length ∧ IsTp h TO (List.toArray olds) ∧ ∀ (j : Nat) (a l : Addr), its[j]? = some a → ls[j]? = some l → h.IsListIter a l i
theorem handed {z TI TO : Addr} {its ls : List Addr} {i : Nat} {news : List Value} {f0 f1 : Value} {c : Array Value} {olds : List Value} {h0 h5 : Heap} {Q : Value → Shared → Prop} (D : Apart z TI TO its ls) (hc : c = olds.toArray) (hol : olds.length = its.length) (hTI : IsTp h0 TI (its.map Value.ref).toArray) (hzl : z < h0.objs.size) (hTOl : TO < h0.objs.size) (L : LSt h0 z TO its ls i (zO TI TO f0 f1) c its.length h5)
    (hQ : ∀ h', Sts h' z TI TO its ls (i + 1) → IsTp h' h0.objs.size news.toArray → h'.objs.size = h0.objs.size + 1 → (∀ c o, c ≠ z → c ≠ TO → c ∉ its → h0.get? c = some o → h'.get? c = some o) → Q (.ref h0.objs.size) { s with heap := h' }) :
    wpAny (model prog w) A (Builtin.SmallTypes.ownedTupleHandOut (.ref z) (.ref h5.objs.size) >>= fun _ => ret (.ref h5.objs.size)) (fun fin s' => ∃ v, fin = .done (.ret v) ∧ Q v s') E { s with heap := h5.push { cls := .type "tuple", data := .seq news.toArray } } := by
  refine wpAny_bind ?_
  unfold Builtin.SmallTypes.ownedTupleHandOut
  have hz6 : (h5.push { cls := .type "tuple", data := .seq news.toArray }).get? z = some (zO TI TO f0 f1) := Heap.get?_push_of_some _ L.zip
  refine wpAny_bind (wpAny_setField_rec hz6 (by simp) fun h7 hz7 hs7 => ?_)
  replace hz7 : h7.get? z = some (zO TI TO (rawInt h5.objs.size) f1) := hz7
  refine wpAny_setField_rec hz7 (by simp) fun h8 hz8 hs8 => ?_
  replace hz8 : h8.get? z = some (zO TI TO (rawInt h5.objs.size) (.bool false)) := hz8
  have up : ∀ c o, c ≠ z → h5.get? c = some o → h8.get? c = some o := fun c o c1 e => hs8.extBut _ _ c1 (hs7.extBut _ _ c1 (Heap.get?_push_of_some _ e))
  have hzl5 : z < h5.objs.size := by rw [L.sz]; exact hzl
  have hT8 : IsTp h8 h5.objs.size news.toArray := hs8.extBut _ _ (Nat.ne_of_gt hzl5) (hs7.extBut _ _ (Nat.ne_of_gt hzl5) (Heap.get?_push_size _ rfl))
  have hsz8 : h8.objs.size = h5.objs.size + 1 := by rw [hs8.1, hs7.1, Heap.size_push]
  have hTI5 := L.fr TI _ D.TIz D.TITO (fun m => (D.iz TI m).2.1 rfl) hTI
  rw [L.sz] at hT8 hsz8
  refine wpAny_pure ⟨_, rfl, ?_⟩
  have hq := hQ h8 ⟨_, _, olds, hz8, .inr ⟨_, rfl⟩, .inr rfl, up _ _ D.TIz hTI5, hol, up _ _ D.TOz (by rw [← hc]; exact L.to), fun j a l h1 h2 => (L.lo j a l (List.getElem?_eq_some_iff.mp h1).1 h1 h2).at fun o e => up _ o (D.iz a (List.mem_of_getElem? h1)).1 e⟩ hT8 hsz8 fun c o c1 c2 c3 e => up c o c1 (L.fr c o c1 c2 c3 e)
  rw [← L.sz] at hq
  exact hq
theorem next_item {z TI TO : Addr} {its ls : List Addr} {i : Nat} {news : List Value} {Q : Value → Shared → Prop} (D : Apart z TI TO its ls) (S : Sts s.heap z TI TO its ls i) (hx : ∀ (j : Nat) (l : Addr), ls[j]? = some l → ∃ xs x, s.heap.IsList l xs ∧ xs[i]? = some x ∧ news[j]? = some x) (hn : news.length = its.length) (hsz : news.length ≤ sizeLine)
    (hQ : ∀ h', Sts h' z TI TO its ls (i + 1) → IsTp h' s.heap.objs.size news.toArray → h'.objs.size = s.heap.objs.size + 1 → (∀ c o, c ≠ z → c ≠ TO → c ∉ its → s.heap.get? c = some o → h'.get? c = some o) → Q (.ref s.heap.objs.size) { s with heap := h' }) :
    wpAny (model prog w) A (Builtin.«zip.__next__» ⟨[.ref z], []⟩) (fun fin s' => ∃ v, fin = .done (.ret v) ∧ Q v s') E s := by
  obtain ⟨f0, f1, olds, hz, hf0, hf1, hTI, ho, hTO, hit⟩ := S
  have hzl : z < s.heap.objs.size := Heap.lt_size hz
  have hTOl : TO < s.heap.objs.size := Heap.lt_size hTO
  have hTIl : TI < s.heap.objs.size := Heap.lt_size hTI
  have hitl : ∀ (j : Nat) a, its[j]? = some a → ∃ l, ls[j]? = some l := fun j a h => by
    have := (List.getElem?_eq_some_iff.mp h).1
    exact ⟨ls[j]'(by rw [← D.len]; exact this), List.getElem?_eq_getElem _⟩
  show wpAny _ _ (field (.ref z) 2 >>= _) _ _ _
  refine wpAny_bind (wpAny_field hz rfl (x := .bool false) rfl ?_)
  show wpAny _ _ (field (.ref z) 3 >>= _) _ _ _
  refine wpAny_bind (wpAny_field hz rfl (x := .ref TI) rfl ?_)
  refine wpAny_bind (wpAny_seqItems hTI rfl ?_)
  dsimp only
  have hne : (its.map Value.ref).toArray.isEmpty = false := by
    have := D.ne
    cases hi : its with
    | nil => exact absurd hi this
    | cons a r => rfl
  rw [if_neg (by rw [hne]; decide)]
  refine wpAny_bind (wpAny_mono (isFree hz hf0 hf1) (fun b s' hb => ?_) fun _ _ y => y)
  rcases hb with ⟨rfl, rfl⟩ | ⟨rfl, h₁, rfl, hz₁, hs₁⟩
  · simp only [if_true]
    refine wpAny_bind (wpAny_rule ?_)
    refine wpAny_bind (wpAny_field hz rfl (x := .ref TO) rfl ?_)
    refine wpAny_bind (wpAny_setField_rec hz (by simp) fun h₁ hz₁ hs₁ => ?_)
    replace hz₁ : h₁.get? z = some (zO TI TO .ellipsis f1) := hz₁
    have L0 : LSt s'.heap z TO its ls i (zO TI TO .ellipsis f1) (news.take 0 ++ olds.drop 0).toArray 0 h₁ := ⟨hz₁, hs₁.extBut _ _ D.TOz hTO, (fun j a l hj => absurd hj (Nat.not_lt_zero j)), (fun j a l _ h1 h2 => (hit j a l h1 h2).at fun o e => hs₁.extBut _ _ (D.iz a (List.mem_of_getElem? h1)).1 e), hs₁.1, fun b o b1 _ _ e => hs₁.extBut _ _ b1 e⟩
    refine wpAny_bind (wpAny_mono (forIn_invC _ _ (fun k t => ∃ h, t = { s' with heap := h } ∧ LSt s'.heap z TO its ls i (zO TI TO .ellipsis f1) (news.take k ++ olds.drop k).toArray k h) _ (fun k x t hxk hI => ?_) ⟨h₁, rfl, L0⟩) (fun r t hr => ?_) fun _ _ y => y)
    · obtain ⟨h, rfl, L⟩ := hI
      rw [List.getElem?_zipIdx, List.getElem?_map] at hxk
      cases ha : its[k]? with
      | none => rw [ha] at hxk; cases hxk
      | some a =>
        rw [ha] at hxk
        obtain rfl := Option.some.inj hxk
        obtain ⟨l, hl⟩ := hitl k a ha
        obtain ⟨xs, x, hxl, hxi, hnk⟩ := hx k l hl
        rw [Nat.zero_add]
        refine wpAny_bind (wpAny_onRaise ?_)
        show wpAny _ _ (Builtin.SmallTypes.nextOf (.ref a) >>= _) _ _ _
        refine wpAny_bind (draw D L ha hl hxl hxi fun h2 L2 => wpAny_pure ?_)
        refine wpAny_bind (wpAny_seqItems L2.to rfl ?_)
        refine wpAny_bind (updSeq L2.to (by rw [List.size_toArray, List.length_append, List.length_take, List.length_drop]; omega) fun h3 hTO3 hs3 => ?_)
        rw [mix_set (ho.trans hn.symm) hnk] at hTO3
        refine wpAny_bind (wpAny_letGo (wpAny_pure ⟨rfl, h3, rfl, ?_⟩))
        exact ⟨hs3.extBut _ _ (Ne.symm D.TOz) L2.zip, hTO3, (fun j a' l' hj h1 h2 => (L2.lo j a' l' hj h1 h2).at fun o e => hs3.extBut _ _ (D.iz a' (List.mem_of_getElem? h1)).2.2 e), (fun j a' l' hj h1 h2 => (L2.hi j a' l' hj h1 h2).at fun o e => hs3.extBut _ _ (D.iz a' (List.mem_of_getElem? h1)).2.2 e), hs3.1.trans L2.sz, fun b o b1 b2 b3 e => hs3.extBut _ _ b2 (L2.fr b o b1 b2 b3 e)⟩
    · obtain ⟨rfl, h5, rfl, L⟩ := hr
      rw [List.length_zipIdx, List.length_map, ← hn, List.take_length, show olds.drop news.length = [] from List.drop_of_length_le (by omega), List.append_nil] at L
      refine wpAny_bind (wpAny_seqItems L.to rfl ?_)
      dsimp only
      refine wpAny_bind (wpAny_newTuple ?_ hsz)
      rw [hn] at L
      exact handed (s := s') D rfl hn hTI hzl hTOl L hQ
  · simp only [Bool.false_eq_true, if_false]
    rw [List.forIn_toArray]
    have L0 : LSt s.heap z TO its ls i (zO TI TO f0 (.bool true)) olds.toArray 0 h₁ := ⟨hz₁, hs₁.extBut _ _ D.TOz hTO, (fun j a l hj => absurd hj (Nat.not_lt_zero j)), (fun j a l _ h1 h2 => (hit j a l h1 h2).at fun o e => hs₁.extBut _ _ (D.iz a (List.mem_of_getElem? h1)).1 e), hs₁.1, fun b o b1 _ _ e => hs₁.extBut _ _ b1 e⟩
    refine wpAny_bind (wpAny_mono (forIn_inv _ (fun k => (none, (news.take k).toArray)) (fun k t => ∃ h, t = { s with heap := h } ∧ LSt s.heap z TO its ls i (zO TI TO f0 (.bool true)) olds.toArray k h) _ 0 _ (fun k x t hxk hI => ?_) ⟨h₁, rfl, L0⟩) (fun r t hr => ?_) fun _ _ y => y)
    · rw [Nat.zero_add] at hI ⊢
      obtain ⟨h, rfl, L⟩ := hI
      rw [List.getElem?_map] at hxk
      cases ha : its[k]? with
      | none => rw [ha] at hxk; cases hxk
      | some a =>
        rw [ha] at hxk
        obtain rfl := Option.some.inj hxk
        obtain ⟨l, hl⟩ := hitl k a ha
        obtain ⟨xs, x, hxl, hxi, hnk⟩ := hx k l hl
        refine wpAny_bind (wpAny_holding ?_)
        show wpAny _ _ (Builtin.SmallTypes.nextOf (.ref a) >>= _) _ _ _
        refine wpAny_bind (draw D L ha hl hxl hxi fun h2 L2 => wpAny_pure ?_)
        refine wpAny_pure ⟨?_, h2, rfl, L2⟩
        rw [List.take_add_one, hnk]
        show ForInStep.yield (none, (news.take k).toArray.push x) = _
        rw [List.push_toArray]
        rfl
    · obtain ⟨rfl, h5, rfl, L⟩ := hr
      rw [Nat.zero_add, List.length_map, ← hn, List.take_length]
      rw [Nat.zero_add, List.length_map] at L
      refine wpAny_bind (wpAny_newTuple ?_ hsz)
      have hTI5 := L.fr TI _ D.TIz D.TITO (fun m => (D.iz TI m).2.1 rfl) hTI
      have up : ∀ c o, h5.get? c = some o → (h5.push { cls := .type "tuple", data := .seq news.toArray }).get? c = some o := fun c o e => Heap.get?_push_of_some _ e
      have hq := hQ (h5.push { cls := .type "tuple", data := .seq news.toArray }) ⟨_, _, olds, up _ _ L.zip, hf0, .inl rfl, up _ _ hTI5, ho, up _ _ L.to, fun j a l h1 h2 => (L.lo j a l (List.getElem?_eq_some_iff.mp h1).1 h1 h2).at fun o e => up _ o e⟩ (by rw [← L.sz]; exact Heap.get?_push_size _ rfl) (by rw [Heap.size_push, L.sz]) fun c o c1 c2 c3 e => up c o (L.fr c o c1 c2 c3 e)
      rw [← L.sz] at hq
      exact wpAny_pure ⟨_, rfl, hq⟩
end
section
variable {prog : Program} {w : World} {A : Around} {E : Value → Shared → Prop} {s : Shared}
theorem next_end {z TI TO a l : Addr} {its ls : List Addr} {i : Nat} {xs : Array Value} {Q : Fin → Shared → Prop} (hh : A.handled = none) (D : Apart z TI TO (a :: its) (l :: ls)) (S : Sts s.heap z TI TO (a :: its) (l :: ls) i) (hl : s.heap.IsList l xs) (hx : xs[i]? = none)
    (hE : ∀ h' e, (∀ c o, c ≠ z → c ≠ TO → c ∉ a :: its → s.heap.get? c = some o → h'.get? c = some o) → (∃ o, h'.get? e = some o ∧ o.cls = .type "StopIteration") → E (.ref e) { s with heap := h' }) :
    wpAny (model prog w) A (Builtin.«zip.__next__» ⟨[.ref z], []⟩) Q E s := by
  obtain ⟨f0, f1, olds, hz, hf0, hf1, hTI, ho, hTO, hit⟩ := S
  have hia := hit 0 a l rfl rfl
  have Da := D.iz a (List.mem_cons_self ..)
  have Dl := D.lz l (List.mem_cons_self ..)
  show wpAny _ _ (field (.ref z) 2 >>= _) _ _ _
  refine wpAny_bind (wpAny_field hz rfl (x := .bool false) rfl ?_)
  show wpAny _ _ (field (.ref z) 3 >>= _) _ _ _
  refine wpAny_bind (wpAny_field hz rfl (x := .ref TI) rfl ?_)
  refine wpAny_bind (wpAny_seqItems hTI rfl ?_)
  dsimp only
  rw [if_neg (show ¬ ((List.map Value.ref (a :: its)).toArray.isEmpty = true) by show ¬ (false = true); decide)]
  refine wpAny_bind (wpAny_mono (isFree hz hf0 hf1) (fun b s' hb => ?_) fun _ _ y => y)
  rcases hb with ⟨rfl, rfl⟩ | ⟨rfl, h₁, rfl, hz₁, hs₁⟩
  · simp only [if_true]
    refine wpAny_bind (wpAny_rule ?_)
    refine wpAny_bind (wpAny_field hz rfl (x := .ref TO) rfl ?_)
    refine wpAny_bind (wpAny_setField_rec hz (by simp) fun h₁ hz₁ hs₁ => ?_)
    replace hz₁ : h₁.get? z = some (zO TI TO .ellipsis f1) := hz₁
    refine wpAny_bind ?_
    simp only [List.map_cons, List.zipIdx_cons, List.forIn_cons]
    refine wpAny_bind (wpAny_bind (wpAny_onRaise ?_))
    show wpAny _ _ (Builtin.SmallTypes.nextOf (.ref a) >>= _) _ _ _
    refine wpAny_bind (wpAny_nextOf_list_end hh (hia.at fun o e => hs₁.extBut _ _ Da.1 e) (hl.at fun o e => hs₁.extBut _ _ Dl.1 e) hx fun h₂ e hs₂ he => ?_)
    obtain ⟨oe, hoe, hce⟩ := he
    have hz₂ : h₂.get? z = some (zO TI TO .ellipsis f1) := hs₂ _ _ (Ne.symm Da.1) hz₁
    have hez : e ≠ z := fun x => by subst x; rw [hz₂] at hoe; cases hoe; simp at hce
    exact wpAny_setField_rec hz₂ (by simp) fun h₃ _ hs₃ => hE h₃ e (fun c o c1 _ c3 x => hs₃.extBut _ _ c1 (hs₂ _ _ (fun z => c3 (z ▸ List.mem_cons_self ..)) (hs₁.extBut _ _ c1 x))) ⟨oe, hs₃.extBut _ _ hez hoe, hce⟩
  · simp only [Bool.false_eq_true, if_false]
    rw [List.forIn_toArray]
    refine wpAny_bind ?_
    simp only [List.map_cons, List.forIn_cons]
    refine wpAny_bind (wpAny_bind (wpAny_holding ?_))
    show wpAny _ _ (Builtin.SmallTypes.nextOf (.ref a) >>= _) _ _ _
    exact wpAny_bind (wpAny_nextOf_list_end hh (hia.at fun o e => hs₁.extBut _ _ Da.1 e) (hl.at fun o e => hs₁.extBut _ _ Dl.1 e) hx fun h₂ e hs₂ he => hE h₂ e (fun c o c1 _ c3 x => hs₂ _ _ (fun z => c3 (z ▸ List.mem_cons_self ..)) (hs₁.extBut _ _ c1 x)) he)
theorem Sts.ty {z TI TO : Addr} {its ls : List Addr} {i : Nat} (S : Sts s.heap z TI TO its ls i) : s.TypeIs (.ref z) "zip" := by
  obtain ⟨f0, f1, olds, hz, _⟩ := S
  exact ⟨_, hz, rfl⟩
theorem pyNext_item {z TI TO : Addr} {its ls : List Addr} {i : Nat} {news : List Value} {Q : Option Value → Shared → Prop} (D : Apart z TI TO its ls) (S : Sts s.heap z TI TO its ls i) (hx : ∀ (j : Nat) (l : Addr), ls[j]? = some l → ∃ xs x, s.heap.IsList l xs ∧ xs[i]? = some x ∧ news[j]? = some x) (hn : news.length = its.length) (hsz : news.length ≤ sizeLine)
    (hQ : ∀ h', Sts h' z TI TO its ls (i + 1) → IsTp h' s.heap.objs.size news.toArray → h'.objs.size = s.heap.objs.size + 1 → (∀ c o, c ≠ z → c ≠ TO → c ∉ its → s.heap.get? c = some o → h'.get? c = some o) → Q (some (.ref s.heap.objs.size)) { s with heap := h' }) :
    wpAny (model prog w) A (pyNext (.ref z)) Q E s := by
  have hT := S.ty
  unfold pyNext
  exact wpAny_bind (wpAny_attempt (wpAny_callSpecial?_slot (name := Str.ofString "__next__") hT F.slot_zip_next
    (wpAny_call_entry F.slot_zip_next hT F.entry_zip_next (next_item D S hx hn hsz fun h' a1 a2 a3 a4 => wpAny_pure (hQ h' a1 a2 a3 a4)) (F.args_zip_next_1 _))))
theorem pyNext_end {z TI TO a l : Addr} {its ls : List Addr} {i : Nat} {xs : Array Value} {Q : Option Value → Shared → Prop} (hh : A.handled = none) (D : Apart z TI TO (a :: its) (l :: ls)) (S : Sts s.heap z TI TO (a :: its) (l :: ls) i) (hl : s.heap.IsList l xs) (hx : xs[i]? = none)
    (hQ : ∀ h', (∀ c o, c ≠ z → c ≠ TO → c ∉ a :: its → s.heap.get? c = some o → h'.get? c = some o) → Q none { s with heap := h' }) : wpAny (model prog w) A (pyNext (.ref z)) Q E s := by
  have hT := S.ty
  unfold pyNext
  refine wpAny_bind (wpAny_attempt (wpAny_callSpecial?_slot (name := Str.ofString "__next__") hT F.slot_zip_next
    (wpAny_call_entry F.slot_zip_next hT F.entry_zip_next (next_end hh D S hl hx fun h' e hk he => ?_) (F.args_zip_next_1 _))))
  obtain ⟨o, ho, hc⟩ := he
  refine wpAny_bind (wpAny_isInstance (T := "StopIteration") (b := true) ⟨o, ho, hc⟩ isSubtype_stop ?_)
  exact wpAny_pure (hQ _ hk)
theorem pyIter_zipN {z TI TO : Addr} {its ls : List Addr} {i : Nat} {Q : Value → Shared → Prop} (S : Sts s.heap z TI TO its ls i) (h : Q (.ref z) s) : wpAny (model prog w) A (pyIter (.ref z)) Q E s := by
  have hT := S.ty
  refine wpAny_pyIter_slot hT F.slot_zip_iter (wpAny_call_entry F.slot_zip_iter hT F.entry_zip_iter ?_ (F.args_zip_iter_1 _))
  show wpAny _ _ (ret (.ref z)) _ _ s
  exact wpAny_pure ⟨_, rfl, "zip", _, hT, F.slot_zip_next.lookup, h⟩
theorem call_zipN {ls : List Addr} {Q : Value → Shared → Prop} (hne : ls ≠ []) (hl : ∀ l ∈ ls, ∃ xs, s.heap.IsList l xs) (hz : ls.length ≤ sizeLine)
    (h : ∀ h' z TI TO its, Apart z TI TO its ls → Sts h' z TI TO its ls 0 → (∀ c ∈ z :: TI :: TO :: its, s.heap.objs.size ≤ c) → (∀ c o, s.heap.get? c = some o → h'.get? c = some o) → Q (.ref z) { s with heap := h' }) :
    wpAny (model prog w) A (call (.type "zip") (ls.map Value.ref)) Q E s := by
  obtain ⟨l0, lr, rfl⟩ : ∃ l0 lr, ls = l0 :: lr := by
    cases ls with
    | nil => exact absurd rfl hne
    | cons x r => exact ⟨x, r, rfl⟩
  refine callType_new F.called_zip (by decide) (typeCall_zip _) (newCall_zip _ _) (fun obj => args_object_init obj _) F.entry_zip_new (meets_zip _) ⟨hl, hz, ?_⟩
  obtain ⟨ls, hls⟩ : ∃ ls, l0 :: lr = ls := ⟨_, rfl⟩
  rw [hls] at hl hz h ⊢
  have hn0 : 0 < ls.length := by rw [← hls]; exact Nat.succ_pos _
  obtain ⟨n, hn⟩ : ∃ n, ls.length = n := ⟨_, rfl⟩
  obtain ⟨b, hb⟩ : ∃ b, s.heap.objs.size = b := ⟨_, rfl⟩
  have z2 : (itH s.heap ls).objs.size = b + n := by rw [itH_size, hb, hn]
  have z3 : (zH3 s.heap ls).objs.size = b + n + 1 := by rw [Heap.size_push, z2]
  have z4 : (zH4 s.heap ls).objs.size = b + n + 2 := by rw [Heap.size_push, z3]
  have g5 : (zH5 s.heap ls).get? (zH4 s.heap ls).objs.size = some _ := Heap.get?_push_size _ rfl
  have g4 : (zH5 s.heap ls).get? (zH3 s.heap ls).objs.size = some _ := Heap.get?_push_of_some _ (Heap.get?_push_size _ rfl)
  have g3 : (zH5 s.heap ls).get? (itH s.heap ls).objs.size = some _ := Heap.get?_push_of_some _ (Heap.get?_push_of_some _ (Heap.get?_push_size _ rfl))
  have kp : ∀ c o, (itH s.heap ls).get? c = some o → (zH5 s.heap ls).get? c = some o := fun c o x => Heap.get?_push_of_some _ (Heap.get?_push_of_some _ (Heap.get?_push_of_some _ x))
  rw [z2, z3, z4] at g5
  rw [z3] at g4
  rw [z2] at g3
  show _ ∧ _
  rw [z4]
  have hits : itVs s.heap ls.length = ((List.range n).map fun j => b + j).map Value.ref := by
    unfold itVs
    rw [List.map_map, hb, hn]
    rfl
  rw [hits] at g3 g4
  have hat : ∀ (j : Nat) (a : Addr), ((List.range n).map fun j => b + j)[j]? = some a → j < n ∧ a = b + j := fun j a h => by
    rw [List.getElem?_map] at h
    obtain ⟨k, hk, rfl⟩ := Option.map_eq_some_iff.mp h
    obtain ⟨hk1, hk2⟩ := List.getElem?_eq_some_iff.mp hk
    rw [List.getElem_range] at hk2
    rw [List.length_range] at hk1
    exact ⟨hk1, by rw [hk2]⟩
  have hmem : ∀ a, a ∈ (List.range n).map (fun j => b + j) → b ≤ a ∧ a < b + n := fun a h => by
    obtain ⟨j, hj⟩ := List.mem_iff_getElem?.mp h
    obtain ⟨h1, rfl⟩ := hat j a hj
    omega
  have hlt : ∀ l ∈ ls, l < b := fun l h => by
    obtain ⟨xs, o, e, _⟩ := hl l h
    rw [← hb]
    exact Heap.lt_size e
  have ne : ∀ {x y : Nat}, (x = y → False) → (show Addr from x) ≠ y := fun h => h
  refine ⟨⟨_, g5, rfl⟩, h _ (b + n + 2) (b + n) (b + n + 1) ((List.range n).map fun j => b + j) ⟨ne (by omega), ne (by omega), ne (by omega), fun a ha => ?_, fun j k a h1 h2 => ?_, fun l hm => ⟨?_, ?_, fun hm2 => ?_⟩, ?_, ?_⟩ ⟨_, _, ((List.range n).map fun j => b + j).map fun _ => Value.none, g5, .inl rfl, .inr rfl, g3, by rw [List.length_map], ?_, fun j a l h1 h2 => ?_⟩ ?_ fun c o e => kp c o (itH_keep ls _ c o e)⟩
  · have := hmem a ha
    exact ⟨ne (by omega), ne (by omega), ne (by omega)⟩
  · have h3 : @Eq Nat a (b + j) := (hat j a h1).2
    have h4 : @Eq Nat a (b + k) := (hat k a h2).2
    omega
  · have h3 : @LT.lt Nat _ l b := hlt l hm
    exact ne (by omega)
  · have h3 : @LT.lt Nat _ l b := hlt l hm
    exact ne (by omega)
  · have h3 : @LT.lt Nat _ l b := hlt l hm
    have h4 : @LE.le Nat _ b l := (hmem l hm2).1
    omega
  · rw [List.length_map, List.length_range, hn]
  · intro e
    have := congrArg List.length e
    rw [List.length_map, List.length_range] at this
    simp at this
    omega
  · rw [List.map_map] at g4
    exact g4
  · obtain ⟨hj, rfl⟩ := hat j a h1
    have := kp _ _ (itH_get ls s.heap j l h2)
    rw [hb] at this
    exact ⟨_, this, rfl, rfl⟩
  · intro c hc
    rcases List.mem_cons.mp hc with rfl | hc
    · omega
    · rcases List.mem_cons.mp hc with rfl | hc
      · omega
      · rcases List.mem_cons.mp hc with rfl | hc
        · omega
        · have := hmem c hc
          omega
end
theorem callWith_typeS {M : Model} {A : Around} {E : Value → Shared → Prop} {s : Shared} {pos p : Pos} {T : String} {e : Expr} {env : Env} {Q : Value → Shared → Prop}
    (h : wpAny M A (eval e env) (fun v s₁ => PySem.W.StarOf M A E v (fun vs s₂ => wpAny M A (call (.type T) vs) Q E s₂) s₁) E s) (he : starEach [.Starred e p] env = [(true, eval e env)] := by rfl) :
    wpAny M A (callWith pos (.type T) [] (backTo pos (starEach [.Starred e p] env)) []) Q E s := by
  rw [he]
  refine PySem.W.ks_call (P := fun _ => True) rfl (fun h _ => ⟨.machine, .inr (.inl rfl), PySem.W.Looks.of_pure rfl⟩) (PySem.W.ks_lone (wpAny_mono h (fun v s₁ h₁ => ?_) fun _ _ x => x))
  unfold PySem.W.StarOf at h₁ ⊢
  exact wpAny_mono h₁ (fun b s₂ h₂ => ⟨h₂.1, wpAny_mono h₂.2 (fun vs s₃ h₃ => ⟨trivial, h₃⟩) fun _ _ x => x⟩) fun _ _ x => x
/-- the lists as they stand at each turn, their items in a new tuple -/
def ItzN (K : PySem.W.Frag) (as : List Addr) : It :=
  ⟨fun i H => ∃ vs : List V, vs.length = as.length ∧ as.length ≤ sizeLine ∧ ∀ (j : Nat) (a : Addr), as[j]? = some a → ∃ (xs : List V) (x : V), SqL K H a xs ∧ xs[i]? = some x ∧ vs[j]? = some x,
    fun i H v H' => ∃ T vs, v = .ref T ∧ H T = none ∧ H' = upd H T (.tup vs) ∧ vs.length = as.length ∧ ∀ (j : Nat) (a : Addr), as[j]? = some a → ∀ xs, SqL K H a xs → xs[i]? = vs[j]?,
    fun i H => ∃ (a : Addr) (xs : List V), as[0]? = some a ∧ SqL K H a xs ∧ xs.length ≤ i⟩
theorem vals_pick {R : Nat → Value → Prop} : ∀ (vs : List V), (∀ (j : Nat) (x : V), vs[j]? = some x → ∃ u, RelV x u ∧ R j u) → ∃ us : List Value, Vals vs us ∧ us.length = vs.length ∧ ∀ (j : Nat), j < vs.length → ∃ u, us[j]? = some u ∧ R j u
  | [], _ => ⟨[], .nil, rfl, fun j hj => absurd hj (Nat.not_lt_zero j)⟩
  | x :: vs, h => by
    obtain ⟨u, hu, hR⟩ := h 0 x rfl
    obtain ⟨us, h1, h2, h3⟩ := vals_pick (R := fun j => R (j + 1)) vs fun j y hy => h (j + 1) y hy
    refine ⟨u :: us, .cons hu h1, by rw [List.length_cons, List.length_cons, h2], fun j hj => ?_⟩
    cases j with
    | zero => exact ⟨u, rfl, hR⟩
    | succ j => exact h3 j (by rw [List.length_cons] at hj; omega)
theorem turn_zipN {P : Program} {w : World} {K : PySem.W.Frag} {x : Str} {tpos : Pos} {as its : List Addr} {z TI TO : Addr} (D : Apart z TI TO its as) :
    Turn P w K (.Name x tpos) (ItzN K as) (z :: TI :: TO :: its) z (fun i h => Sts h z TI TO its as i) where
  mem := List.mem_cons_self ..
  obj := fun i h st c hc => by
    obtain ⟨f0, f1, olds, hz, _, _, hTI, _, hTO, hit⟩ := st
    rcases List.mem_cons.mp hc with rfl | hc
    · exact ⟨_, hz, fun v q => nomatch q⟩
    · rcases List.mem_cons.mp hc with rfl | hc
      · exact ⟨_, hTI, fun v q => nomatch q⟩
      · rcases List.mem_cons.mp hc with rfl | hc
        · exact ⟨_, hTO, fun v q => nomatch q⟩
        · obtain ⟨j, hj⟩ := List.mem_iff_getElem?.mp hc
          have hjl := (List.getElem?_eq_some_iff.mp hj).1
          obtain ⟨o, e, _, d⟩ := hit j c _ hj (List.getElem?_eq_getElem (by rw [← D.len]; exact hjl))
          exact ⟨o, e, fun v q => by rw [d] at q; cases q⟩
  keep := fun i h h' st k => by
    obtain ⟨f0, f1, olds, hz, c1, c2, hTI, c3, hTO, hit⟩ := st
    exact ⟨f0, f1, olds, k z (by simp) _ hz, c1, c2, k TI (by simp) _ hTI, c3, k TO (by simp) _ hTO, fun j a l h1 h2 => (hit j a l h1 h2).at fun o e => k a (by simp [List.mem_of_getElem? h1]) o e⟩
  item := by
    intro X hP hw hK hc i pins s σ H E I hf st hg
    subst hP hw hK
    obtain ⟨vs, hvl, hasz, hv⟩ := hg
    have hz := id st
    obtain ⟨f0, f1, olds, hz, _, _, hTI, _, hTO, hit⟩ := hz
    obtain ⟨us, r, hul, hus⟩ := vals_pick (R := fun j u => ∃ a its, as[j]? = some a ∧ s.heap.IsList a its ∧ its[i]? = some u) vs fun j x hx => by
      have hj := (List.getElem?_eq_some_iff.mp hx).1
      have ha : as[j]? = some (as[j]'(by rw [← hvl]; exact hj)) := List.getElem?_eq_getElem _
      obtain ⟨xs, y, q1, q2, q3⟩ := hv j _ ha
      rw [hx] at q3
      cases q3
      obtain ⟨is, rv, p, _⟩ := I.list q1
      obtain ⟨u, hu, ru⟩ := rv.get q2
      exact ⟨u, ru, _, is.toArray, ha, p.isList, by simpa using hu⟩
    refine pyNext_item D st (news := us) (fun j l hl => ?_) (by rw [hul, hvl, D.len]) (by rw [hul, hvl]; exact hasz) fun h' S' hT hsz hk => ?_
    · obtain ⟨u, h1, a, is, h2, h3, h4⟩ := hus j (by rw [hvl]; exact (List.getElem?_eq_some_iff.mp hl).1)
      rw [hl] at h2
      cases h2
      exact ⟨is, u, h3, h4, h1⟩
    refine ⟨_, rfl, wpAny_pure ?_⟩
    have new : ObjOk X.prog X.w (upd H s.heap.objs.size (.tup vs)) h' s.heap.objs.size (.tup vs) := ⟨by rw [hvl]; exact hasz, us, r, ⟨_, hT, rfl, _, rfl⟩⟩
    have I1 : Inv X pins σ (upd H s.heap.objs.size (.tup vs)) { s with heap := h' } :=
      I.turnedNew (t' := s.toks) (ch := z :: TI :: TO :: its) (fun c o hb q => hk c o (fun q' => hb (by simp [q'])) (fun q' => hb (by simp [q'])) (fun q' => hb (by simp [q'])) q) hf (Nat.le_refl _) new
    refine ⟨.ref s.heap.objs.size, _, I1, rfl, ⟨_, vs, rfl, I.hok.fresh (Nat.le_refl _), rfl, hvl, fun j a ha xs hxs => ?_⟩, S', fun c hcm => ?_⟩
    · obtain ⟨ys, y, q1, q2, q3⟩ := hv j a ha
      rw [I.list_inj hxs q1, q2, q3]
    · have hlt : @LT.lt Nat _ c s.heap.objs.size := by
        rcases List.mem_cons.mp hcm with rfl | hcm
        · exact Heap.lt_size hz
        · rcases List.mem_cons.mp hcm with rfl | hcm
          · exact Heap.lt_size hTI
          · rcases List.mem_cons.mp hcm with rfl | hcm
            · exact Heap.lt_size hTO
            · obtain ⟨j, hj⟩ := List.mem_iff_getElem?.mp hcm
              have hjl := (List.getElem?_eq_some_iff.mp hj).1
              obtain ⟨o, e, _, d⟩ := hit j c _ hj (List.getElem?_eq_getElem (by rw [← D.len]; exact hjl))
              exact Heap.lt_size e
      rw [upd_ne (Nat.ne_of_lt hlt)]
      exact (hf c hcm).1
  done := by
    intro X hP hw hK hc i pins s σ H E I hf st hg
    subst hP hw hK
    obtain ⟨a, xs, ha, hq, hl⟩ := hg
    obtain ⟨is, rv, p, _⟩ := I.list hq
    have l1 := rv.length
    obtain ⟨i0, ir, rfl⟩ : ∃ i0 ir, its = i0 :: ir := by
      cases its with
      | nil => exact absurd rfl D.ne
      | cons x r => exact ⟨x, r, rfl⟩
    obtain ⟨ar, rfl⟩ : ∃ ar, as = a :: ar := by
      cases as with
      | nil => cases ha
      | cons x r => cases ha; exact ⟨r, rfl⟩
    exact pyNext_end (I.ok.hd hc) D st p.isList (by simp; omega) fun h' hk => ⟨rfl, I.turnedL (t' := s.toks) (ch := z :: TI :: TO :: i0 :: ir) (fun c o hb q =>
      hk c o (fun q' => hb (by simp [q'])) (fun q' => hb (by simp [q'])) (fun q' => hb (List.mem_cons_of_mem _ (List.mem_cons_of_mem _ (List.mem_cons_of_mem _ q')))) q) hf⟩
  self := fun A i s Q E st h => pyIter_zipN st h
def iZipS (K : PySem.W.Frag) (te : TE) : TI := fun σ H R => te σ H fun v H1 => ∃ (a : Addr) (as : List Addr), v = .ref a ∧ SqL K H1 a (as.map V.ref) ∧ as ≠ [] ∧ as.length ≤ sizeLine ∧ (∀ b ∈ as, ∃ xs, SqL K H1 b xs) ∧ R (ItzN K as) H1
theorem vals_refs : ∀ {as : List Addr} {us : List Value}, Vals (as.map V.ref) us → us = as.map Value.ref
  | [], _, .nil => rfl
  | a :: as, _, .cons h r => by
    cases h
    rw [vals_refs r]
    rfl
theorem pi_zipS {X : Cx} {e : Expr} {te : TE} {x : Str} {p sp pos tpos : Pos} (hg : Gl X "zip") (hm : X.mg "zip" = none) (he : PE X e te) (hst : starEach [.Starred e sp] X.env = [(true, eval e X.env)] := by rfl) :
    PI X (.Name x tpos) (.Call (.Name "zip" p) [.Starred e sp] [] pos) (iZipS X.K te) := by
  refine ⟨fun pins s σ H R I h => ?_⟩
  refine Call_ (ld_blt I hg hm PyProof.Rows.boot_zip (callWith_typeS (thn (he.run pins s σ H _ I h) fun v s1 ⟨y, H1, I1, ry, a, as, ey, hx, hne, hz, hl, q⟩ => ?_) hst))
  subst ey
  obtain rfl : v = Value.ref a := ry
  refine StX.star_lst I1 hx fun us s2 I2 rv => ?_
  obtain rfl := vals_refs rv
  refine call_zipN hne (fun b hb => ?_) hz fun h' z TI TO its D S fr hk => pyIter_zipN S ?_
  · obtain ⟨xs, hxs⟩ := hl b hb
    obtain ⟨is, _, pl, _⟩ := I2.list hxs
    exact ⟨_, pl.isList⟩
  · have I3 : Inv X pins σ H1 { s2 with heap := h' } := I2.kept (t' := s2.toks) hk
    exact ⟨z, z :: TI :: TO :: its, _, _, H1, rfl, I3, turn_zipN D, S, (fun c hc => I2.fpOk (fr c hc) (I2.hok.fresh (fr c hc))), q⟩
end ZN

set_option genInjectivity false
set_option genSizeOf false
/-- what the top has left -/
structure TX (K : PySem.W.Frag) (mg : Str → Option Value) where
  a_sample_bytes : Addr
  d_sample_bytes : FuncData
  F_sample_bytes : Fun K "sample_bytes" "sample_bytes" s_sample_bytes a_sample_bytes d_sample_bytes
  b_sample_bytes : Binds K d_sample_bytes ["channels", "depth"] []
  g_sample_bytes : mg "sample_bytes" = some (.ref a_sample_bytes)
  a_low_bytes : Addr
  d_low_bytes : FuncData
  F_low_bytes : Fun K "_low_bytes" "_low_bytes" s_low_bytes a_low_bytes d_low_bytes
  b_low_bytes : Binds K d_low_bytes ["number", "count"] []
  g_low_bytes : mg "_low_bytes" = some (.ref a_low_bytes)
  a_law_draw : Addr
  d_law_draw : FuncData
  F_law_draw : Fun K "_law_draw" "_law_draw" s_law_draw a_law_draw d_law_draw
  b_law_draw : Binds K d_law_draw ["cell", "many", "bound"] []
  g_law_draw : mg "_law_draw" = some (.ref a_law_draw)
  a_law_is_integer : Addr
  d_law_is_integer : FuncData
  F_law_is_integer : Fun K "_law_is_integer" "_law_is_integer" s_law_is_integer a_law_is_integer d_law_is_integer
  b_law_is_integer : Binds K d_law_is_integer ["actual"] []
  g_law_is_integer : mg "_law_is_integer" = some (.ref a_law_is_integer)
  a_law_same : Addr
  d_law_same : FuncData
  F_law_same : Fun K "_law_same" "_law_same" s_law_same a_law_same d_law_same
  b_law_same : Binds K d_law_same ["actual", "expected"] []
  g_law_same : mg "_law_same" = some (.ref a_law_same)
  a_law_cell : Addr
  d_law_cell : FuncData
  F_law_cell : Fun K "_law_cell" "_law_cell" s_law_cell a_law_cell d_law_cell
  b_law_cell : Binds K d_law_cell ["script", "k"] []
  g_law_cell : mg "_law_cell" = some (.ref a_law_cell)
  a_law_channel : Addr
  d_law_channel : FuncData
  F_law_channel : Fun K "_law_channel" "_law_channel" s_law_channel a_law_channel d_law_channel
  b_law_channel : Binds K d_law_channel ["cell", "many", "depth"] []
  g_law_channel : mg "_law_channel" = some (.ref a_law_channel)
  a_law_read : Addr
  d_law_read : FuncData
  F_law_read : Fun K "_law_read" "_law_read" s_law_read a_law_read d_law_read
  b_law_read : Binds K d_law_read ["data", "at", "many"] []
  g_law_read : mg "_law_read" = some (.ref a_law_read)
  a_law : Addr
  d_law : FuncData
  F_law : Fun K "law" "law" s_law a_law d_law
  b_law : Binds K d_law ["script"] []
  g_law : mg "law" = some (.ref a_law)
  m_zip : mg "zip" = none
  m_range : mg "range" = none
  m_int : mg "int" = none
  m_isinstance : mg "isinstance" = none
  m_bool : mg "bool" = none
  m_list : mg "list" = none
  m_len : mg "len" = none
section
variable {P : Program} {w : World} {K : PySem.W.Frag} {mg : Str → Option Value} {base : Heap}
/-! ### int(x), bits of a number -/
theorem Ev.is {σ : L2.St} {H : Hp} {te : TE} {x y : V} (h : Ev te σ H x) (e : x = y) : Ev te σ H y := e ▸ h
theorem ev_int1 {σ : L2.St} {H : Hp} {te : TE} {i : Int} (h : Ev te σ H (.int i)) : Ev (tCB (fun xs H Q => (∃ i, xs = [V.int i] ∧ Q (V.int i) H) ∨ ∃ k, xs = [V.bl k] ∧ Q (V.int (if k = true then 1 else 0)) H) (tCons te tNil)) σ H (.int i) :=
  ev_cb (ea_cons h ea_nil) fun H1 _ Q q => .inl ⟨i, rfl, q H1 (Ex.refl H1)⟩
theorem q_augR {σ : L2.St} {H : Hp} {te : TE} {D : Ends} {tz : TS} {i : Nat} {g : Int → Int → V} {a b : Int} (h1 : σ[i]? = some (some (.int a))) (h : Ev te σ H (.int b)) (k : ∀ H1, Ex H H1 → tz D (σ.set i (some (g a b))) H1) : tSeq (tAug i te (rI0 g)) tz D σ H :=
  ⟨_, h1, h H (Ex.refl H) _ fun H1 e => ⟨a, b, rfl, rfl, k H1 e⟩⟩
theorem s_augR {σ : L2.St} {H : Hp} {te : TE} {D : Ends} {i : Nat} {g : Int → Int → V} {a b : Int} (h1 : σ[i]? = some (some (.int a))) (h : Ev te σ H (.int b)) (k : ∀ H1, Ex H H1 → D.nx (σ.set i (some (g a b))) H1) : tAug i te (rI0 g) D σ H :=
  ⟨_, h1, h H (Ex.refl H) _ fun H1 e => ⟨a, b, rfl, rfl, k H1 e⟩⟩
theorem ev_atT {K : PySem.W.Frag} {σ : L2.St} {H : Hp} {tl ti : TE} {t : Addr} {xs : List V} {n : Int} {v : V} (h : Ev tl σ H (.ref t)) (hT : SqT K H t xs) (hi : Ev ti σ H (.int n)) (ha : atI xs n = some v) : Ev (tOp (rIxT K) tl ti) σ H v := fun H1 e Q q =>
  h H1 e _ fun H2 e2 => hi H2 (e.trans e2) _ fun H3 e3 => ⟨t, xs, n, v, rfl, rfl, ex_t ((e.trans e2).trans e3) hT, ha, q H3 (e2.trans e3)⟩
local macro_rules | `(tactic| walk_at "side") => `(tactic| first
  | omega
  | (show CDivW _ _; exact ⟨by omega, by decide⟩)
  | (show CDivW _ _; exact wide_div (b := 80) (by omega) (by omega) (by decide) (by decide)))
local macro_rules | `(tactic| walk_at "evown") => `(tactic| (refine' ev_int1 ?h1; (case h1 => walk_at "ev")))
/-- numbers from 0 on, as such -/
def cs (ds : List Nat) : List Int := ds.map fun d : Nat => (d : Int)
theorem cs_of {ns : List Int} {b : Int} (h : ∀ n ∈ ns, 0 ≤ n ∧ n < b) : ∃ ds : List Nat, ns = cs ds ∧ ds.length = ns.length ∧ ∀ d ∈ ds, (d : Int) < b := by
  refine ⟨ns.map Int.toNat, ?_, List.length_map .., fun d hd => ?_⟩
  · unfold cs
    rw [List.map_map]
    conv => lhs; rw [← List.map_id ns]
    refine List.map_congr_left fun n hn => ?_
    have := (h n hn).1
    show n = ((n.toNat : Nat) : Int)
    omega
  · obtain ⟨n, hn, rfl⟩ := List.mem_map.mp hd
    have := h n hn
    omega
theorem cs_len (ds : List Nat) : (cs ds).length = ds.length := List.length_map ..
theorem cs_at {ds : List Nat} {i : Nat} {d : Nat} (h : ds[i]? = some d) : (cs ds)[i]? = some (d : Int) := by unfold cs; rw [List.getElem?_map, h]; rfl
theorem cs_take (ds : List Nat) (i : Nat) : (cs ds).take i = cs (ds.take i) := by unfold cs; rw [List.map_take]
theorem cs_drop (ds : List Nat) (i : Nat) : (cs ds).drop i = cs (ds.drop i) := by unfold cs; rw [List.map_drop]
theorem cs_append (ds es : List Nat) : cs (ds ++ es) = cs ds ++ cs es := List.map_append ..

/-- numbers of the law -/
def sp_draw : Sp := fun vs H Q _ => ∃ c m b : Int, vs = [.int c, .int m, .int b] ∧ 0 ≤ m ∧ m ≤ 5000 ∧ 0 < b ∧ b ≤ 2 ^ 64 ∧ ∀ p (ns : List Int) H', H p = none → Ex H H' → H' p = some (.lst (ns.map V.int)) → (ns.length : Int) = m → (∀ n ∈ ns, 0 ≤ n ∧ n < b) → Q (.ref p) H'
theorem ok_law_draw (T : TX K mg) : FnOk P w K mg base CX0 1 T.a_law_draw T.d_law_draw ["cell", "many", "bound"] sp_draw := by
  refine T.F_law_draw.ok sc_law_draw (fun vs H Q E h => by obtain ⟨c, m, b, rfl, _⟩ := h; rfl) (fun cdv A outer s H vs Q E hr h => ?_)
  obtain ⟨c, m, b, rfl, hm0, hm, hb0, hb, k⟩ := h
  have hb' : b ≤ 18446744073709551616 := hb
  refine ⟨_, (pss_cons (ps_set (i := 3) sc_law_draw.nd rfl (Or.inl rfl) (pe_lst pa_nil))
      (pss_cons (ps_if (pt_cmpR op_ge (pv 0) (pe_op op_pow pe_int pe_int) (nomark _)) (pss_cons (ps_for PassesOwn.never rfl (pi_range1 (by rfl) T.m_range (pa_cons (pv 1) pa_nil)) (pg_name (i := 4) sc_law_draw.nd rfl (Or.inl rfl)) (pss_cons (ps_expr (pe_bm PySem.F.plainAttrs_list PySem.F.slot_list_append PySem.F.type_list_append mt_append (pv 3) (pa_cons (pe_op op_mod (pe_callTy call_int1 (by rfl) T.m_int PyProof.Rows.boot_int (pa_cons (pv 0) pa_nil)) (pv 2)) pa_nil)))
          (pss_one (ps_set (i := 0) sc_law_draw.nd rfl (Or.inl rfl) (pe_op op_fdivW (pv 0) (pv 2))))))
        (pss_one (ps_ret (pv 3)))) pss_nil)
      (pss_cons (ps_set (i := 5) sc_law_draw.nd rfl (Or.inl rfl) (pe_op op_mod (pe_callTy call_int1 (by rfl) T.m_int PyProof.Rows.boot_int (pa_cons (pv 0) pa_nil)) pe_int))
      (pss_cons (ps_for PassesOwn.never rfl (pi_range1 (by rfl) T.m_range (pa_cons (pv 1) pa_nil)) (pg_name (i := 4) sc_law_draw.nd rfl (Or.inl rfl)) (pss_cons (ps_set (i := 5) sc_law_draw.nd rfl (Or.inl rfl) (pe_op op_mod (pe_callTy call_int1 (by rfl) T.m_int PyProof.Rows.boot_int (pa_cons (pe_op op_add (pe_op op_add (pe_op op_mul (pv 5) pe_int) pe_int) (pv 4)) pa_nil)) pe_int))
        (pss_cons (ps_set (i := 6) sc_law_draw.nd rfl (Or.inl rfl) (pe_op op_mod (pe_callTy call_int1 (by rfl) T.m_int PyProof.Rows.boot_int (pa_cons (pe_op op_add (pe_op op_mul (pv 5) pe_int) (pe_op op_mul pe_int (pv 4))) pa_nil)) pe_int))
        (pss_one (ps_expr (pe_bm PySem.F.plainAttrs_list PySem.F.slot_list_append PySem.F.type_list_append mt_append (pv 3) (pa_cons (pe_op op_mod (pe_callTy call_int1 (by rfl) T.m_int PyProof.Rows.boot_int (pa_cons (pe_op op_fdivW (pv 6) pe_int) pa_nil)) (pv 2)) pa_nil)))))))
      (pss_one (ps_ret (pv 3))))))), ?_⟩
  refine q_asgL (xs := []) (el_lst ea_nil (by decide)) fun p H1 hp e1 h1 => ?_
  refine' q_when (et_test (ev_I0 ?h1 ?h2)) ?_ ?_
  case h1 => walk_at "ev"
  case h2 => exact ev_I (ev_c) (ev_c) ⟨by decide, by decide, by decide⟩
  · intro _ H2 e2
    refine q_forR1 (n := m) (ea_cons (ev_var rfl) ea_nil) ⟨hm0, by omega⟩ (fun i σ' H' => ∃ (c' : Int) (k' : Option V) (ns : List Int), σ' = [some (.int c'), some (.int m), some (.int b), some (.ref p), k', none, none] ∧ Ex H H' ∧ H' p = some (.lst (ns.map V.int)) ∧ ns.length = i ∧ ∀ n ∈ ns, 0 ≤ n ∧ n < b)
      (fun H3 e3 => ⟨c, none, [], rfl, (e1.trans e2).trans e3, e3 _ _ (e2 _ _ h1), rfl, fun n hn => by cases hn⟩) ?_ ?_
    · rintro i σ' H' hi ⟨c', k', ns, rfl, ex, hl, hn, hns⟩
      refine q_app (v := .int (c' % b)) hl (ev_var rfl) (ev_I (ev_int1 (ev_var rfl)) (ev_var rfl) hb0) (by rw [List.length_map]; omega) fun H3 e3 => ?_
      refine s_asg (v := .int (c' / b)) (ev_I (ev_var rfl) (ev_var rfl) (by walk_at "side")) fun H4 e4 => ?_
      refine ⟨c' / b, some (.int i), ns ++ [c' % b], rfl, (Ex.mut (ex.trans e3) hp).trans e4, e4 _ _ (by rw [upd_same, List.map_append]; rfl), by rw [List.length_append, hn]; rfl, fun n hn => ?_⟩
      rcases List.mem_append.mp hn with h | h
      · exact hns n h
      · cases List.mem_singleton.mp h
        exact ⟨Int.emod_nonneg _ (by omega), Int.emod_lt_of_pos _ hb0⟩
    · rintro σ' H' ⟨c', k', ns, rfl, ex, hl, hn, hns⟩
      walk_at "ret"
      intro H3 e3
      exact k p ns H3 hp (ex.trans e3) (e3 _ _ hl) (by omega) hns
  · intro _ H2 e2
    refine q_asg (v := .int (c % 2147483647)) (ev_I (ev_int1 (ev_var rfl)) ev_c (by decide)) fun H3 e3 => ?_
    refine q_forR1 (n := m) (ea_cons (ev_var rfl) ea_nil) ⟨hm0, by omega⟩ (fun i σ' H' => ∃ (k' x : Option V) (sd : Int) (ns : List Int), σ' = [some (.int c), some (.int m), some (.int b), some (.ref p), k', some (.int sd), x] ∧ Ex H H' ∧ H' p = some (.lst (ns.map V.int)) ∧ ns.length = i ∧ ∀ n ∈ ns, 0 ≤ n ∧ n < b)
      (fun H4 e4 => ⟨none, none, _, [], rfl, ((e1.trans e2).trans e3).trans e4, e4 _ _ (e3 _ _ (e2 _ _ h1)), rfl, fun n hn => by cases hn⟩) ?_ ?_
    · rintro i σ' H' hi ⟨k', x, sd, ns, rfl, ex, hl, hn, hns⟩
      refine q_asg (v := .int ((sd * 48271 + 12345 + (i : Int)) % 2147483647)) (ev_I (ev_int1 (ev_I0 (ev_I0 (ev_I (ev_var rfl) ev_c (.inr (by decide))) ev_c) (ev_var rfl))) ev_c (by decide)) fun H4 e4 => ?_
      generalize (sd * 48271 + 12345 + (i : Int)) % 2147483647 = sd2
      refine q_asg (v := .int ((sd2 * 69621 + 977 * (i : Int)) % 2147483629)) (ev_I (ev_int1 (ev_I0 (ev_I (ev_var rfl) ev_c (.inr (by decide))) (ev_I ev_c (ev_var rfl) (.inl (by decide))))) ev_c (by decide)) fun H5 e5 => ?_
      generalize (sd2 * 69621 + 977 * (i : Int)) % 2147483629 = mx
      refine s_app (v := .int (mx / 3 % b)) (e5 _ _ (e4 _ _ hl)) (ev_var rfl) (ev_I (ev_int1 (ev_I (ev_var rfl) ev_c ⟨by decide, by decide⟩)) (ev_var rfl) hb0) (by rw [List.length_map]; omega) fun H6 e6 => ?_
      refine ⟨_, _, sd2, ns ++ [mx / 3 % b], rfl, Ex.mut (((ex.trans e4).trans e5).trans e6) hp, by rw [upd_same, List.map_append]; rfl, by rw [List.length_append, hn]; rfl, fun n hn => ?_⟩
      rcases List.mem_append.mp hn with h | h
      · exact hns n h
      · cases List.mem_singleton.mp h
        exact ⟨Int.emod_nonneg _ (by omega), Int.emod_lt_of_pos _ hb0⟩
    · rintro σ' H' ⟨k', x, sd, ns, rfl, ex, hl, hn, hns⟩
      walk_at "ret"
      intro H4 e4
      exact k p ns H4 hp (ex.trans e4) (e4 _ _ hl) (by omega) hns

def sp_cell (K : PySem.W.Frag) : Sp := fun vs H Q _ => ∃ (a : Addr) (ns : List Int) (k : Int), vs = [.ref a, .int k] ∧ SqL K H a (ns.map V.int) ∧ 0 ≤ k ∧ RetV (.int (cellI ns k)) H Q
theorem ok_law_cell (T : TX K mg) : FnOk P w K mg base CX0 1 T.a_law_cell T.d_law_cell ["script", "k"] (sp_cell K) := by
  refine T.F_law_cell.ok sc_law_cell (fun vs H Q E h => by obtain ⟨a, ns, k, rfl, _⟩ := h; rfl) (fun cdv A outer s H vs Q E hr h => ?_)
  obtain ⟨a, ns, k, rfl, hS, hk, q⟩ := h
  refine ⟨_, (pss_cons (ps_if (pt_cmpR op_lt (pv 1) (pe_callB (r := rLenS K) call_len_seq (by rfl) T.m_len PySem.boot_len (pa_cons (pv 0) pa_nil)) (nomark _)) (pss_one (ps_ret (pe_ix (r := rIxL K) ix_list (pv 0) (pv 1) (fun _ _ => rfl)))) pss_nil)
      (pss_one (ps_ret pe_int))), ?_⟩
  have hl := (ev_lenS (K := K) (Ev.s (te := tVar 0) (σ := start ["script", "k"] [.ref a, .int k]) (ev_var rfl) hS))
  refine q_when (et_test (ev_I0 (ev_var rfl) hl)) ?_ ?_
  · intro hb H1 e1
    have hb : k < ns.length := by
      have := of_decide_eq_true hb
      rwa [List.length_map] at this
    refine s_ret (v := .int (cellI ns k)) (ev_ixS (i := 0) (n := k) (Ev.s (ev_var rfl) (ex_l e1 hS)) (ev_var rfl) ?_) fun H2 e2 => q H2 (e1.trans e2)
    exact at_of (j := k.toNat) (by omega) (at_int (cellI_in hk hb))
  · intro hb H1 e1
    have hb : ¬ k < ns.length := by
      have := of_decide_eq_false hb
      rwa [List.length_map] at this
    walk_at "ret"
    intro H2 e2
    exact ret_eq q (e1.trans e2) (by rw [cellI_out hb])
theorem ev_cell {σ : L2.St} {H : Hp} {ta tk : TE} {E : XK} {ns : List Int} {k : Int} {a : Addr} (ha : Ev ta σ H (.ref a)) (hS : SqL K H a (ns.map V.int)) (hk : Ev tk σ H (.int k)) (h0 : 0 ≤ k) : Ev (tCall (sp_cell K) [] E (tCons ta (tCons tk tNil))) σ H (.int (cellI ns k)) :=
  ev_call (ea_cons ha (ea_cons hk ea_nil)) fun H1 e Q q _ => ⟨a, ns, k, rfl, ex_l e hS, h0, q⟩
local macro_rules | `(tactic| walk_at "evown") => `(tactic| (refine' ev_cell ?h1 ?h2 ?h3 ?h4; (case h1 => exact ev_var rfl); (case h2 => walk_at "sq"); (case h3 => walk_at "ev"); (case h4 => walk_at "side")))

/-! ### objects: fields, methods, making -/
section
variable {K : PySem.W.Frag} {σ : L2.St} {H : Hp} {to te tv : TE} {a C : Addr} {dx : Addr} {fs : List (Str × V)} {f m : Str} {v : V} {D : Ends} {tz : TS} {sp : Sp} {dvs vs : List V} {E : XK} {t : TA}
theorem ev_fld (c : Cls K C) (hn : NoAttr K C f) (h : Ev to σ H (.ref a)) (hx : H a = some (.ins C dx fs)) (hl : fs.lookup f = some v) : Ev (tFld K to f) σ H v := fun H1 e Q q => h H1 e _ fun H2 e2 => ⟨a, C, dx, fs, v, rfl, (e.trans e2) _ _ hx, c, hn, hl, q H2 e2⟩
theorem q_fld (c : Cls K C) (hn : NoAttr K C f) (hv : Ev tv σ H v) (h : Ev to σ H (.ref a)) (hx : H a = some (.ins C dx fs)) (hl : fs.length < 1000) (k : ∀ H1, Ex H H1 → tz D σ (upd H1 a (.ins C dx (putF f v fs)))) : tSeq (sFld K to tv f) tz D σ H :=
  hv H (Ex.refl H) _ fun H1 e1 => h H1 e1 _ fun H2 e2 => ⟨a, C, dx, fs, rfl, (e1.trans e2) _ _ hx, c, hn, hl, k H2 (e1.trans e2)⟩
theorem s_fld (c : Cls K C) (hn : NoAttr K C f) (hv : Ev tv σ H v) (h : Ev to σ H (.ref a)) (hx : H a = some (.ins C dx fs)) (hl : fs.length < 1000) (k : ∀ H1, Ex H H1 → D.nx σ (upd H1 a (.ins C dx (putF f v fs)))) : sFld K to tv f D σ H :=
  hv H (Ex.refl H) _ fun H1 e1 => h H1 e1 _ fun H2 e2 => ⟨a, C, dx, fs, rfl, (e1.trans e2) _ _ hx, c, hn, hl, k H2 (e1.trans e2)⟩
theorem q_fldL {xs : List V} (c : Cls K C) (hn : NoAttr K C f) (hv : EvL tv σ H xs) (h : ∀ H1, Ex H H1 → Ev to σ H1 (.ref a)) (hx : H a = some (.ins C dx fs)) (hl : fs.length < 1000) (k : ∀ p H1, H p = none → Ex H H1 → H1 p = some (.lst xs) → tz D σ (upd H1 a (.ins C dx (putF f (.ref p) fs)))) : tSeq (sFld K to tv f) tz D σ H :=
  hv H (Ex.refl H) _ fun p H1 hp e1 g1 => h H1 e1 H1 (Ex.refl H1) _ fun H2 e2 => ⟨a, C, dx, fs, rfl, (e1.trans e2) _ _ hx, c, hn, hl, k p H2 hp (e1.trans e2) (e2 _ _ g1)⟩
/-- o.m(..), whatever m promises -/
theorem mth (h : Ev to σ H (.ref a)) (hx : H a = some (.ins C dx fs)) (hm : fs.lookup m = none) (ha : EvA t σ H vs) {Q : VK} (k : ∀ H1, Ex H H1 → sp (.ref a :: (vs ++ dvs)) H1 Q E) : tMeth C m sp dvs E to t σ H Q :=
  h H (Ex.refl H) _ fun H1 e1 => ⟨a, dx, fs, rfl, e1 _ _ hx, hm, ha H1 e1 _ fun H2 e2 => k H2 (e1.trans e2)⟩
theorem q_dropM (h : Ev to σ H (.ref a)) (hx : H a = some (.ins C dx fs)) (hm : fs.lookup m = none) (ha : EvA t σ H vs) (k : ∀ H1, Ex H H1 → sp (.ref a :: (vs ++ dvs)) H1 (fun _ H2 => tz D σ H2) E) : tSeq (tDrop (tMeth C m sp dvs E to t)) tz D σ H := mth h hx hm ha k
theorem s_dropM (h : Ev to σ H (.ref a)) (hx : H a = some (.ins C dx fs)) (hm : fs.lookup m = none) (ha : EvA t σ H vs) (k : ∀ H1, Ex H H1 → sp (.ref a :: (vs ++ dvs)) H1 (fun _ H2 => D.nx σ H2) E) : tDrop (tMeth C m sp dvs E to t) D σ H := mth h hx hm ha k
theorem q_asgM {i : Nat} (h : Ev to σ H (.ref a)) (hx : H a = some (.ins C dx fs)) (hm : fs.lookup m = none) (ha : EvA t σ H vs) (k : ∀ H1, Ex H H1 → sp (.ref a :: (vs ++ dvs)) H1 (fun x H2 => tz D (σ.set i (some x)) H2) E) : tSeq (tAsg (tMeth C m sp dvs E to t) (gName i)) tz D σ H := mth h hx hm ha k
theorem s_retM (h : Ev to σ H (.ref a)) (hx : H a = some (.ins C dx fs)) (hm : fs.lookup m = none) (ha : EvA t σ H vs) (k : ∀ H1, Ex H H1 → sp (.ref a :: (vs ++ dvs)) H1 D.rt E) : tRet (tMeth C m sp dvs E to t) D σ H := mth h hx hm ha k
/-- a method that changes nothing and gives a value -/
theorem ev_mth (h : Ev to σ H (.ref a)) (hx : H a = some (.ins C dx fs)) (hm : fs.lookup m = none) (ha : EvA t σ H vs) (k : SpV sp (.ref a :: (vs ++ dvs)) H v) : Ev (tMeth C m sp dvs E to t) σ H v := fun H1 e Q q =>
  h H1 e _ fun H2 e2 => ⟨a, dx, fs, rfl, (e.trans e2) _ _ hx, hm, ha H2 (e.trans e2) _ fun H3 e3 => k H3 ((e.trans e2).trans e3) Q (fun H4 e4 => q H4 ((e2.trans e3).trans e4)) E⟩
end
theorem fresh_ne {H : Hp} {p q : Addr} {o : HO} (hp : H p = none) (hq : H q = some o) : q ≠ p := ne_of_none hq hp
theorem bitNot_eq (x : Int) : Builtin.bitNot x = -x - 1 := rfl
theorem bitAnd_maskZ (x : Int) (k : Nat) : Builtin.bitAnd x (2 ^ k - 1) = x % 2 ^ k := by
  by_cases h : 0 ≤ x
  · exact _root_.Bits.bitAnd_mask k h
  · have hp : (1 : Int) ≤ 2 ^ k := by
      have : 0 < 2 ^ k := Nat.two_pow_pos k
      have h2 : ((2 : Int) ^ k) = ((2 ^ k : Nat) : Int) := by rw [Int.natCast_pow]; rfl
      omega
    rw [PyProof.Rows.bitAnd_np h (by omega), Nat.and_comm]
    have h2 : ((2 : Int) ^ k) = ((2 ^ k : Nat) : Int) := by rw [Int.natCast_pow]; rfl
    have h3 : ((2 : Int) ^ k - 1).toNat = 2 ^ k - 1 := by omega
    rw [h3, Nat.and_two_pow_sub_one_eq_mod, bitNot_eq]
    have h4 : ((-x - 1).toNat : Int) = -x - 1 := by omega
    rw [h2, Int.natCast_emod, h4]
    generalize 2 ^ k = m at *
    have hm : (0 : Int) < (m : Int) := by omega
    have e1 := Int.emod_add_mul_ediv x m
    have e2 := Int.emod_add_mul_ediv (-x - 1) m
    have a1 := Int.emod_nonneg x (by omega : (m : Int) ≠ 0)
    have a2 := Int.emod_lt_of_pos x hm
    have b1 := Int.emod_nonneg (-x - 1) (by omega : (m : Int) ≠ 0)
    have b2 := Int.emod_lt_of_pos (-x - 1) hm
    generalize x % (m : Int) = r at *
    generalize (-x - 1) % (m : Int) = s at *
    generalize x / (m : Int) = p at *
    generalize (-x - 1) / (m : Int) = q at *
    -- r + s + 1 is a multiple of m between 1 and 2m - 1
    have e3 : r + s + 1 = m * (-(p + q)) := by
      rw [Int.mul_neg, Int.mul_add]
      omega
    have h5 : -(p + q) = 1 := by
      have c1 : 0 < (m : Int) * (-(p + q)) := by omega
      have c2 : (m : Int) * (-(p + q)) < m * 2 := by omega
      have c3 := Int.pos_of_mul_pos_right (a := (m : Int)) (b := -(p + q)) (by exact c1) hm
      have c4 : -(p + q) < 2 := Int.lt_of_mul_lt_mul_left c2 (by omega)
      omega
    rw [h5, Int.mul_one] at e3
    omega
theorem q_fldaugI {K : PySem.W.Frag} {σ : L2.St} {H : Hp} {to tv : TE} {a C dx : Addr} {fs : List (Str × V)} {f : Str} {i j : Int} {D : Ends} {tz : TS} (c : Cls K C) (hn : NoAttr K C f) (h : Ev to σ H (.ref a)) (hx : H a = some (.ins C dx fs)) (hl : fs.lookup f = some (.int i)) (hv : Ev tv σ H (.int j)) (hz : fs.length < 1000)
    (k : ∀ H1, Ex H H1 → tz D σ (upd H1 a (.ins C dx (putF f (.int (i + j)) fs)))) : tSeq (sFldAug K to tv rAdd f) tz D σ H :=
  h H (Ex.refl H) _ fun H1 e1 => ⟨a, C, dx, fs, .int i, rfl, e1 _ _ hx, c, hn, hl, hv H1 e1 _ fun H2 e2 => ⟨i, j, rfl, rfl, dx, fs, (e1.trans e2) _ _ hx, hz, k H2 (e1.trans e2)⟩⟩
/-- [e for j in range(n)] whose element changes objects -/
theorem tlc_rngM {ta : TA} {te : TE} {vs : List Nat} {n : Int} {j : Nat} {σ : L2.St} {H : Hp} {Q : VK} (h : EvA ta σ H [.int n]) (hn : -100000 ≤ n ∧ n ≤ 100000)
    (k : ∀ H1, Ex H H1 → ∀ Dl, H1 Dl = none → ∃ Pv : Nat → Hp → Prop, Pv 0 (upd H1 Dl (.lst [])) ∧ (∀ (i : Nat) H', i < n.toNat → Pv i H' → wipe ((wipe σ vs).set j (some (.int (i : Int)))) vs = wipe σ vs ∧ te ((wipe σ vs).set j (some (.int (i : Int)))) H' fun y H4 => ∃ acc, H4 Dl = some (.lst acc) ∧ acc.length < sizeLine ∧ Pv (i + 1) (upd H4 Dl (.lst (acc ++ [y])))) ∧ (∀ H', Pv n.toNat H' → Q (.ref Dl) H')) :
    tLc (iRng1 ta) (gName j) tYes te vs σ H Q := h H (Ex.refl H) _ fun H1 e1 => ⟨n, rfl, by omega, by omega, fun Dl hD => by
  obtain ⟨Pv, h0, hs, hd⟩ := k H1 e1 Dl hD
  refine lc_range (lo := 0) (n := n.toNat) Pv h0 (fun i H' hi p => ?_) hd
  rw [Int.zero_add]
  exact hs i H' hi p⟩

theorem rs4 (n : Nat) : Builtin.Range.rangeSize 0 ((4 * n : Nat) : Int) 4 = (n : Int) := by
  unfold Builtin.Range.rangeSize
  rw [if_pos (by decide)]
  split <;> omega
theorem rg4 {n : Nat} (h : n ≤ 10000) : RgC 0 ((4 * n : Nat) : Int) 4 n := by
  refine ⟨by decide, by decide, ?_, rs4 n⟩
  unfold Builtin.Range.small
  rw [rs4]
  have f : ∀ x : Int, 0 ≤ x → x ≤ 1000000 → Builtin.Range.rangeFitsLong x = true := fun x h1 h2 => by
    unfold Builtin.Range.rangeFitsLong
    rw [Bool.and_eq_true]
    exact ⟨decide_eq_true (by omega), decide_eq_true (by omega)⟩
  rw [f 0 (by decide) (by decide), f _ (by omega) (by omega), f 4 (by decide) (by decide), f (n : Int) (by omega) (by omega), if_pos (by decide), f _ (by omega) (by omega), Bool.or_true]
  rfl
theorem rs8 (n : Nat) : Builtin.Range.rangeSize 0 ((8 * n : Nat) : Int) 8 = (n : Int) := by
  unfold Builtin.Range.rangeSize
  rw [if_pos (by decide)]
  split <;> omega
theorem rg8 {n : Nat} (h : n ≤ 10000) : RgC 0 ((8 * n : Nat) : Int) 8 n := by
  refine ⟨by decide, by decide, ?_, rs8 n⟩
  unfold Builtin.Range.small
  rw [rs8]
  have f : ∀ x : Int, 0 ≤ x → x ≤ 1000000 → Builtin.Range.rangeFitsLong x = true := fun x h1 h2 => by
    unfold Builtin.Range.rangeFitsLong
    rw [Bool.and_eq_true]
    exact ⟨decide_eq_true (by omega), decide_eq_true (by omega)⟩
  rw [f 0 (by decide) (by decide), f _ (by omega) (by omega), f 8 (by decide) (by decide), f (n : Int) (by omega) (by omega), if_pos (by decide), f _ (by omega) (by omega), Bool.or_true]
  rfl
theorem rs64 (n : Nat) : Builtin.Range.rangeSize 0 ((64 * n : Nat) : Int) 64 = (n : Int) := by
  unfold Builtin.Range.rangeSize
  rw [if_pos (by decide)]
  split <;> omega
theorem rg64 {n : Nat} (h : n ≤ 10000) : RgC 0 ((64 * n : Nat) : Int) 64 n := by
  refine ⟨by decide, by decide, ?_, rs64 n⟩
  unfold Builtin.Range.small
  rw [rs64]
  have f : ∀ x : Int, 0 ≤ x → x ≤ 1000000 → Builtin.Range.rangeFitsLong x = true := fun x h1 h2 => by
    unfold Builtin.Range.rangeFitsLong
    rw [Bool.and_eq_true]
    exact ⟨decide_eq_true (by omega), decide_eq_true (by omega)⟩
  rw [f 0 (by decide) (by decide), f _ (by omega) (by omega), f 64 (by decide) (by decide), f (n : Int) (by omega) (by omega), if_pos (by decide), f _ (by omega) (by omega), Bool.or_true]
  rfl
theorem q_forRC {σ : L2.St} {H : Hp} {D : Ends} {tu tz : TS} {ta : TA} {j n : Nat} {a b c : Int} (h : EvA ta σ H [.int a, .int b, .int c]) (hr : RgC a b c n) (Pv : Nat → L2.St → Hp → Prop) (h0 : ∀ H1, Ex H H1 → Pv 0 σ H1)
    (hs : ∀ i σ' H', i < n → Pv i σ' H' → tu { nx := Pv (i + 1), rt := D.rt, bk := tz D, ct := Pv (i + 1) } (σ'.set j (some (.int (a + (i : Nat) * c)))) H') (hd : ∀ σ' H', Pv n σ' H' → tz D σ' H') : tSeq (tFor (iRng3 ta) (gName j) tu) tz D σ H :=
  h H (Ex.refl H) _ fun H1 e1 => ⟨a, b, c, n, rfl, hr, for_rangeC Pv (h0 H1 e1) hs hd⟩
/-- a tuple that is read -/
def EvP (K : PySem.W.Frag) (te : TE) (σ : L2.St) (H : Hp) (xs : List V) : Prop := ∀ H1, Ex H H1 → ∀ Q : VK, (∀ p H2, Ex H1 H2 → SqT K H2 p xs → Q (.ref p) H2) → te σ H1 Q
theorem Ev.p {te : TE} {σ : L2.St} {H : Hp} {a : Addr} {xs : List V} (h : Ev te σ H (.ref a)) (hx : SqT K H a xs) : EvP K te σ H xs := fun H1 e Q q => h H1 e Q fun H2 e2 => q a H2 e2 (ex_t e2 (ex_t e hx))
theorem EvU.p {te : TE} {σ : L2.St} {H : Hp} {xs : List V} (h : EvU te σ H xs) : EvP K te σ H xs := fun H1 e Q q => h H1 e Q fun p H2 _ e2 g => q p H2 e2 (st_of g)
theorem eu_tupOf {te : TE} {σ : L2.St} {H : Hp} {xs : List V} (h : EvS K te σ H xs) : EvU (tCB (fun xs H Q => ∃ p ys, xs = [.ref p] ∧ ((SqL K H p ys ∧ ∀ l, H l = none → Q (.ref l) (upd H l (.tup ys))) ∨ (SqT K H p ys ∧ Q (.ref p) H))) (tCons te tNil)) σ H xs := fun H1 e Q q =>
  h H1 e _ fun p H2 e2 hp => ⟨p, xs, rfl, .inl ⟨hp, fun l hl => q l _ (by cases hh : H1 l with | none => rfl | some o => rw [e2 _ _ hh] at hl; cases hl) (e2.trans (Ex.new hl)) upd_same⟩⟩
theorem el_lcC {σ : L2.St} {H : Hp} {ta : TA} {te : TE} {vs : List Nat} {j n : Nat} {a b c : Int} (zs : List V) (h1 : EvA ta σ H [.int a, .int b, .int c]) (hr : RgC a b c n) (hz : zs.length = n) (hb : zs.length ≤ 50000) (hw : ∀ x, wipe ((wipe σ vs).set j (some x)) vs = wipe σ vs)
    (he : ∀ (i : Nat) H1, Ex H H1 → i < n → ∃ z, zs[i]? = some z ∧ Ev te ((wipe σ vs).set j (some (.int (a + (i : Nat) * c)))) H1 z) : EvL (tLc (iRng3 ta) (gName j) tYes te vs) σ H zs := fun H0 e Q q =>
  h1 H0 e _ fun H1 e1 => ⟨a, b, c, n, rfl, hr, fun D hD => lc_it walk_rangeC (fun i H' => Ex H1 H' ∧ H' D = some (.lst (zs.take i))) ⟨Ex.new hD, upd_same⟩ (fun _ _ _ _ => trivial) (by
    rintro i x H' H'' hi ⟨ex, hd⟩ ⟨rfl, rfl⟩
    obtain ⟨z, hz1, hz2⟩ := he i H'' ((e.trans e1).trans ex) hi
    refine ⟨hw _, ?_⟩
    refine hz2 _ (Ex.refl _) _ fun H4 e4 => ⟨zs.take i, e4 _ _ hd, sz_lt (by rw [List.length_take]; omega), ?_, ?_⟩
    · exact Ex.mut (ex.trans e4) hD
    · rw [upd_same, take_snoc hz1]) fun H' ⟨ex, hd⟩ => by
      rw [← hz, List.take_length] at hd
      exact q D H' (fresh_back e1 hD) (e1.trans ex) hd⟩
/-- over zip of two tuples -/
theorem el_lcZT {σ : L2.St} {H : Hp} {t1 t2 te : TE} {xs ys : List V} {vs : List Nat} {j1 j2 : Nat} (zs : List V) (h1 : EvP K t1 σ H xs) (h2 : EvP K t2 σ H ys) (hz : zs.length = min xs.length ys.length) (hb : zs.length ≤ 50000)
    (hw : ∀ x y, wipe (((wipe σ vs).set j1 (some x)).set j2 (some y)) vs = wipe σ vs)
    (he : ∀ (i : Nat) (x y : V) H1, Ex H H1 → xs[i]? = some x → ys[i]? = some y → ∃ z, zs[i]? = some z ∧ Ev te (((wipe σ vs).set j1 (some x)).set j2 (some y)) H1 z) :
    EvL (tLc (RZ.iZipA K (tCons t1 (tCons t2 tNil))) (gTup K 2 (gCons (gName j1) (gCons (gName j2) gNil))) tYes te vs) σ H zs := fun H0 e Q q =>
  h1 H0 e _ fun p H1 e1 hp => h2 H1 (e.trans e1) _ fun r H2 e2 hr => ⟨p, r, xs, ys, rfl, .inr ⟨ex_t e2 hp, hr, fun D hD =>
    ⟨fun i m H' => m = zs.length - i ∧ i ≤ zs.length ∧ Ex H2 H' ∧ H' D = some (.lst (zs.take i)), ⟨zs.length, rfl, Nat.zero_le _, Ex.new hD, upd_same⟩, by
      rintro i m H' ⟨rfl, hi, ex, hd⟩
      have qx : SqT K H' p xs := ex_t (e2.trans ex) hp
      have qy : SqT K H' r ys := ex_t ex hr
      by_cases hlt : i < zs.length
      · have hx : xs[i]? = some xs[i] := List.getElem?_eq_getElem (by omega)
        have hy : ys[i]? = some ys[i] := List.getElem?_eq_getElem (by omega)
        refine .inr ⟨⟨xs, ys, _, _, qx, qy, hx, hy⟩, fun H3 => i + 1 ≤ zs.length ∧ Ex H2 H3 ∧ H3 D = some (.lst (zs.take (i + 1))), fun H3 h3 => ⟨zs.length - (i + 1), by omega, rfl, h3⟩, fun v H3 hv => ?_⟩
        obtain ⟨T, x, y, rfl, hT, rfl, f1, f2⟩ := hv
        have ex3 : Ex H' (upd H' T (.tup [x, y])) := Ex.new hT
        obtain ⟨z, hz1, hz2⟩ := he i x y (upd H' T (.tup [x, y])) ((((e.trans e1).trans e2).trans ex).trans ex3) (f1 _ qx) (f2 _ qy)
        refine ⟨T, [x, y], rfl, st_of upd_same, rfl, x, [y], rfl, y, [], rfl, rfl, hw x y, ?_⟩
        refine hz2 _ (Ex.refl _) _ fun H4 e4 => ⟨zs.take i, e4 _ _ (ex3 _ _ hd), sz_lt (by rw [List.length_take]; omega), hlt, ?_, ?_⟩
        · exact Ex.mut ((ex.trans ex3).trans e4) hD
        · rw [upd_same, take_snoc hz1]
      · have ei : i = zs.length := by omega
        refine .inl ⟨⟨xs, ys, qx, qy, by omega⟩, ?_⟩
        rw [ei, List.take_length] at hd
        exact q D H' (fresh_back (e1.trans e2) hD) ((e1.trans e2).trans ex) hd⟩⟩⟩
theorem take_snocI {zs : List Int} {i : Nat} {z : Int} (h : zs[i]? = some z) : zs.take (i + 1) = zs.take i ++ [z] := by
  rw [List.take_add_one, h]
  rfl
theorem fresh_ne' {H : Hp} {p q : Addr} {o : HO} (hp : H p = none) (hq : H q = some o) : q ≠ p := ne_of_none hq hp
/-- [b for w in tuple for b in f(w)] -/
theorem el_lc2 {σ : L2.St} {H : Hp} {t1 t2 te : TE} {i0 i1 : Nat} {vs vs1 : List Nat} (ws : List Int) (f : Int → List Int) (h1 : EvP K t1 σ H (ws.map V.int)) (hw : ∀ x, wipe ((wipe σ vs).set i0 (some x)) vs = wipe σ vs)
    (hw1 : ∀ x y, wipe ((wipe ((wipe σ vs).set i0 (some x)) vs1).set i1 (some y)) vs1 = wipe ((wipe σ vs).set i0 (some x)) vs1) (hv : ∀ x y H1, Ev te ((wipe ((wipe σ vs).set i0 (some x)) vs1).set i1 (some y)) H1 y)
    (h2 : ∀ w H1, Ex H H1 → w ∈ ws → EvL t2 ((wipe σ vs).set i0 (some (.int w))) H1 ((f w).map V.int)) (hb : (ws.flatMap f).length ≤ 50000) :
    EvL (tLc2 (iTup K t1) (gName i0) tYes (iList K t2) (gName i1) tYes te vs vs1) σ H ((ws.flatMap f).map V.int) := fun H0 e Q q =>
  h1 H0 e _ fun p H1 e1 hp => ⟨p, rfl, ⟨_, hp⟩, fun D hD =>
    ⟨fun i m H' => m = ws.length - i ∧ i ≤ ws.length ∧ Ex H1 H' ∧ H' D = some (.lst (((ws.take i).flatMap f).map V.int)), ⟨ws.length, rfl, Nat.zero_le _, Ex.new hD, upd_same⟩, by
      rintro i m H' ⟨rfl, hi, ex, hd⟩
      have qx : SqT K H' p (ws.map V.int) := ex_t ex hp
      by_cases hlt : i < ws.length
      · have hx : ws[i]? = some ws[i] := List.getElem?_eq_getElem hlt
        have htk : (ws.take (i + 1)).flatMap f = (ws.take i).flatMap f ++ f ws[i] := by
          rw [List.take_add_one, hx]
          show ((ws.take i) ++ [ws[i]]).flatMap f = _
          rw [List.flatMap_append, List.flatMap_cons, List.flatMap_nil, List.append_nil]
        have hmem : ws[i] ∈ ws := List.getElem_mem hlt
        have hsplit : ws.flatMap f = (ws.take i).flatMap f ++ (f ws[i] ++ (ws.drop (i + 1)).flatMap f) := by
          rw [← List.append_assoc, ← htk, ← List.flatMap_append, List.take_append_drop]
        have hlen := congrArg List.length hsplit
        rw [List.length_append, List.length_append] at hlen
        refine .inr ⟨⟨_, _, qx, at_int hx⟩, fun H3 => Ex H1 H3 ∧ H3 D = some (.lst (((ws.take (i + 1)).flatMap f).map V.int)), fun H3 h3 => ⟨ws.length - (i + 1), by omega, rfl, hlt, h3⟩, fun v H3 hv1 => ?_⟩
        obtain ⟨rfl, hv1⟩ := hv1
        have hv1 := hv1 _ qx
        rw [at_int hx] at hv1
        cases hv1
        generalize ws[i] = w0 at *
        refine ⟨hw _, ?_⟩
        refine h2 w0 H3 ((e.trans e1).trans ex) hmem H3 (Ex.refl _) _ fun r H4 hrn e4 hr => ⟨r, rfl, ⟨_, sq_of hr⟩, fun j k H' => k = (f w0).length - j ∧ j ≤ (f w0).length ∧ Ex H1 H' ∧ H' r = some (.lst ((f w0).map V.int)) ∧ H' D = some (.lst (((ws.take i).flatMap f ++ (f w0).take j).map V.int)), ⟨(f w0).length, rfl, Nat.zero_le _, ex.trans e4, hr, by rw [List.take_zero, List.append_nil]; exact e4 _ _ hd⟩, ?_⟩
        have hrD : r ≠ D := (fresh_ne' hrn hd).symm
        rintro j k H' ⟨rfl, hj, ex4, hr4, hd4⟩
        by_cases hjl : j < (f w0).length
        · have hy : (f w0)[j]? = some (f w0)[j] := List.getElem?_eq_getElem hjl
          refine .inr ⟨⟨_, _, sq_of hr4, at_int hy⟩, fun H5 => Ex H1 H5 ∧ H5 r = some (.lst ((f w0).map V.int)) ∧ H5 D = some (.lst (((ws.take i).flatMap f ++ (f w0).take (j + 1)).map V.int)), fun H5 h5 => ⟨(f w0).length - (j + 1), by omega, rfl, hjl, h5⟩, fun v H5 hv5 => ?_⟩
          obtain ⟨rfl, hv5⟩ := hv5
          have hv5 := hv5 _ (sq_of hr4)
          rw [at_int hy] at hv5
          cases hv5
          refine ⟨hw1 _ _, ?_⟩
          have he := hv (.int w0) (.int (f w0)[j]) H5
          refine he H5 (Ex.refl _) _ fun H6 e6 => ⟨_, e6 _ _ hd4, sz_lt (by rw [List.length_map, List.length_append, List.length_take]; omega), Ex.mut (ex4.trans e6) hD, ?_, ?_⟩
          · rw [upd_ne hrD]
            exact e6 _ _ hr4
          · rw [upd_same, take_snocI hy, ← List.append_assoc]
            exact congrArg (fun z => some (HO.lst z)) (List.map_append (f := V.int) (l₁ := (ws.take i).flatMap f ++ (f w0).take j) (l₂ := [(f w0)[j]])).symm
        · have ej : j = (f w0).length := by omega
          rw [ej, List.take_length, ← htk] at hd4
          exact .inl ⟨⟨_, sq_of hr4, by rw [List.length_map]; omega⟩, ex4, hd4⟩
      · have ei : i = ws.length := by omega
        refine .inl ⟨⟨_, qx, by rw [List.length_map]; omega⟩, ?_⟩
        rw [ei, List.take_length] at hd
        exact q D H' (fresh_back e1 hD) (e1.trans ex) hd⟩⟩

theorem s_ext {σ : L2.St} {H : Hp} {ta te : TE} {D : Ends} {l : Addr} {xs zs : List V} (hl : H l = some (.lst xs)) (ha : Ev ta σ H (.ref l)) (he : EvR te σ H zs) (hs : xs.length + zs.length ≤ 100000) (k : ∀ H1, Ex H H1 → D.nx σ (upd H1 l (.lst (xs ++ zs)))) : tDrop (tBM K "list" rExtend ta (tCons te tNil)) D σ H :=
  ha H (Ex.refl H) _ fun H1 e1 => ⟨.inl ⟨rfl, _, sq_of (e1 _ _ hl)⟩, he H1 e1 _ fun b H2 e2 g2 => ⟨l, b, xs, zs, rfl, rfl, (e1.trans e2) _ _ hl, g2, sz_of hs, k H2 (e1.trans e2)⟩⟩
theorem q_ext {σ : L2.St} {H : Hp} {ta te : TE} {D : Ends} {tz : TS} {l : Addr} {xs zs : List V} (hl : H l = some (.lst xs)) (ha : Ev ta σ H (.ref l)) (he : EvR te σ H zs) (hs : xs.length + zs.length ≤ 100000) (k : ∀ H1, Ex H H1 → tz D σ (upd H1 l (.lst (xs ++ zs)))) : tSeq (tDrop (tBM K "list" rExtend ta (tCons te tNil))) tz D σ H := s_ext (D := { D with nx := tz D }) hl ha he hs k

namespace SH
theorem log_pow (j : Nat) (h : j ≤ 1000) : (2 ^ j : Nat).log2 < 9000 := by rw [Nat.log2_two_pow]; omega
theorem cdivw (v : Int) (j : Nat) (h : j ≤ 1000) : CDivW v (1 * 2 ^ (j : Int).toNat) := by
  have e : (1 : Int) * 2 ^ (j : Int).toNat = ((2 ^ j : Nat) : Int) := by rw [Int.toNat_natCast, Int.one_mul]; exact (Int.natCast_pow 2 j).symm
  rw [e]
  refine ⟨?_, ?_⟩
  · have := Nat.two_pow_pos j
    omega
  · rw [Int.natAbs_natCast]
    exact log_pow j h
theorem ev_shl1 {σ : L2.St} {H : Hp} {t2 : TE} {j : Nat} (h2 : Ev t2 σ H (.int (j : Int))) (hj : j ≤ 1000) : Ev (tOp (rI CPow fun i j => .int (i * 2 ^ j.toNat)) (tC (.int 1)) t2) σ H (.int (1 * 2 ^ (j : Int).toNat)) := ev_I ev_c h2 (show CPow 1 (j : Int) from ⟨by omega, by omega, by decide⟩)
theorem ev_divp {σ : L2.St} {H : Hp} {t1 t2 : TE} {v : Int} {j : Nat} (h1 : Ev t1 σ H (.int v)) (h2 : Ev t2 σ H (.int (j : Int))) (hj : j ≤ 1000) : Ev (tOp (rI CDivW fun i j => .int (i / j)) t1 (tOp (rI CPow fun i j => .int (i * 2 ^ j.toNat)) (tC (.int 1)) t2)) σ H (.int (v / 2 ^ j)) :=
  Ev.is (ev_I h1 (ev_shl1 h2 (by omega)) (cdivw v j hj)) (by rw [Int.toNat_natCast, Int.one_mul])
end SH

def sp_isint : Sp := fun vs H Q _ => ∃ n : Int, vs = [.int n] ∧ RetV (.bl true) H Q
theorem ok_law_is_integer (T : TX K mg) : FnOk P w K mg base CX0 1 T.a_law_is_integer T.d_law_is_integer ["actual"] sp_isint := by
  refine T.F_law_is_integer.ok sc_law_is_integer (fun vs H Q E h => by obtain ⟨n, rfl, _⟩ := h; rfl) (fun cdv A outer s H vs Q E hr h => ?_)
  obtain ⟨n, rfl, k⟩ := h
  refine ⟨_, (pss_one (ps_ret (pe_and (pe_callB (r := rIsi K) call_isi (by rfl) T.m_isinstance PyProof.Rows.boot_isinstance (pa_cons (pv 0) (pa_cons (pe_bltn (v := V.ty "int") (by rfl) T.m_int PyProof.Rows.boot_int rfl) pa_nil))) (pe_one (pe_not (pe_callB (r := rIsi K) call_isi (by rfl) T.m_isinstance PyProof.Rows.boot_isinstance (pa_cons (pv 0) (pa_cons (pe_bltn (v := V.ty "bool") (by rfl) T.m_bool PyProof.Rows.boot_bool rfl) pa_nil)))))))), ?_⟩
  walk_at "ret"
  intro H2 e2
  exact ret_eq k e2 rfl
theorem ev_isint {σ : L2.St} {H : Hp} {te : TE} {E : XK} {n : Int} (h : Ev te σ H (.int n)) : Ev (tCall sp_isint [] E (tCons te tNil)) σ H (.bl true) := ev_call (ea_cons h ea_nil) fun H1 _ Q q _ => ⟨n, rfl, q⟩

def sp_same : Sp := fun vs H Q _ => ∃ (a b : Addr) (ns : List Int), vs = [.ref a, .ref b] ∧ H a = some (.lst (ns.map V.int)) ∧ H b = some (.lst (ns.map V.int)) ∧ ns.length ≤ 100000 ∧ RetV (.bl true) H Q
theorem ok_law_same (T : TX K mg) : FnOk P w K mg base CX0 2 T.a_law_same T.d_law_same ["actual", "expected"] sp_same := by
  refine T.F_law_same.ok sc_law_same (fun vs H Q E h => by obtain ⟨a, b, ns, rfl, _⟩ := h; rfl) (fun cdv A outer s H vs Q E hr h => ?_)
  obtain ⟨a, b, ns, rfl, ha, hb, hlen, k⟩ := h
  refine ⟨_, (pss_cons (ps_if (PW.pt (pw_or (pt_not (pt_val (pe_callB (r := rIsi K) call_isi (by rfl) T.m_isinstance PyProof.Rows.boot_isinstance (pa_cons (pv 0) (pa_cons (pe_bltn (v := V.ty "list") (by rfl) T.m_list PyProof.Rows.boot_list rfl) pa_nil))))) (pw_or1 (pt_cmpR op_ne (pe_callB (r := rLenS K) call_len_seq (by rfl) T.m_len PySem.boot_len (pa_cons (pv 0) pa_nil)) (pe_callB (r := rLenS K) call_len_seq (by rfl) T.m_len PySem.boot_len (pa_cons (pv 1) pa_nil)) (nomark _))))) (pss_one (ps_ret pe_bl)) pss_nil)
      (pss_cons (ps_for PassesOwn.never rfl (pi_range1 (by rfl) T.m_range (pa_cons (pe_callB (r := rLenS K) call_len_seq (by rfl) T.m_len PySem.boot_len (pa_cons (pv 1) pa_nil)) pa_nil)) (pg_name (i := 2) sc_law_same.nd rfl (Or.inl rfl)) (pss_one (ps_if (PW.pt (pw_or (pt_not (pt_val (pe_call (ok_law_is_integer T) (hr.mono (by decide)) (by rfl) T.g_law_is_integer T.F_law_is_integer.kp T.b_law_is_integer .nil pass0 (pa_cons (pe_ix (r := rIxL K) ix_list (pv 0) (pv 2) (fun _ _ => rfl)) pa_nil)))) (pw_or1 (pt_cmpR op_ne (pe_ix (r := rIxL K) ix_list (pv 0) (pv 2) (fun _ _ => rfl)) (pe_ix (r := rIxL K) ix_list (pv 1) (pv 2) (fun _ _ => rfl)) (nomark _))))) (pss_one (ps_ret pe_bl)) pss_nil)))
      (pss_one (ps_ret pe_bl)))), ?_⟩
  have hl : ∀ {σ : L2.St} {H1 : Hp} {te : TE} {c : Addr}, Ev te σ H1 (.ref c) → H1 c = some (.lst (ns.map V.int)) → Ev (tCB (rLenS K) (tCons te tNil)) σ H1 (.int (ns.length : Int)) := fun h1 h2 => Ev.is (ev_lenS (Ev.s h1 (sq_of h2))) (by rw [List.length_map])
  refine q_when (b := false) (et_or (a := !true) (b := false) (et_not (et_test (ev_isiL (ev_var rfl) ha))) fun _ => et_test (Ev.is (ev_ne (hl (ev_var rfl) ha) (hl (ev_var rfl) hb) rfl) (by rw [decide_eq_true rfl]; rfl))) (fun hb => by cases hb) fun _ H1 e1 => ?_
  refine q_forR1 (n := (ns.length : Int)) (ea_cons (hl (ev_var rfl) (e1 _ _ hb)) ea_nil) (by omega) (fun i σ' H' => ∃ z, σ' = [some (.ref a), some (.ref b), z] ∧ Ex H H') (fun H2 e2 => ⟨none, rfl, e1.trans e2⟩) ?_ ?_
  · rintro i σ' H' hi ⟨z, rfl, ex⟩
    have hi : i < ns.length := by omega
    have hat : ∀ {σ : L2.St} {H1 : Hp} {tl ti : TE} {c : Addr}, Ev tl σ H1 (.ref c) → H1 c = some (.lst (ns.map V.int)) → Ev ti σ H1 (.int (i : Int)) → Ev (tOp (rIxL K) tl ti) σ H1 (.int (ns.getD i 0)) := fun h1 h2 h3 => ev_at (Ev.s h1 (sq_of h2)) h3 (at_of rfl (at_int (gl_get hi)))
    refine s_when (b := false) (et_or (a := !true) (b := false) (et_not (et_B (ev_isint (hat (ev_var rfl) (ex _ _ ha) (ev_var rfl))))) fun _ => et_test (Ev.is (ev_ne (hat (ev_var rfl) (ex _ _ ha) (ev_var rfl)) (hat (ev_var rfl) (ex _ _ hb) (ev_var rfl)) rfl) (by rw [decide_eq_true rfl]; rfl))) (fun hb => by cases hb) fun _ H2 e2 => ?_
    exact ⟨_, rfl, ex.trans e2⟩
  · rintro σ' H' ⟨z, rfl, ex⟩
    walk_at "ret"
    intro H2 e2
    exact k _ (ex.trans e2)

theorem ev_same {σ : L2.St} {H : Hp} {t1 t2 : TE} {E : XK} {ns : List Int} (h1 : EvR t1 σ H (ns.map V.int)) (h2 : EvR t2 σ H (ns.map V.int)) (hl : ns.length ≤ 100000) : Ev (tCall sp_same [] E (tCons t1 (tCons t2 tNil))) σ H (.bl true) := fun H1 e Q q =>
  h1 H1 e _ fun p H2 e2 g2 => h2 H2 (e.trans e2) _ fun r H3 e3 g3 => ⟨p, r, ns, rfl, e3 _ _ g2, g3, hl, fun H4 e4 => q H4 ((e2.trans e3).trans e4)⟩

theorem ev_go {te : TE} {σ : L2.St} {H : Hp} {v : V} {Q : VK} (h : Ev te σ H v) (k : ∀ H2, Ex H H2 → Q v H2) : te σ H Q := h H (Ex.refl H) Q k
theorem et_go {t : TT} {σ : L2.St} {H : Hp} {b : Bool} {Q : Bool → Hp → Prop} (h : EvT t σ H b) (k : ∀ H2, Ex H H2 → Q b H2) : t σ H Q := h H (Ex.refl H) Q k
theorem el_go {te : TE} {σ : L2.St} {H : Hp} {xs : List V} {Q : VK} (h : EvL te σ H xs) (k : ∀ p H2, H p = none → Ex H H2 → H2 p = some (.lst xs) → Q (.ref p) H2) : te σ H Q := h H (Ex.refl H) Q k
theorem eu_go {te : TE} {σ : L2.St} {H : Hp} {xs : List V} {Q : VK} (h : EvU te σ H xs) (k : ∀ p H2, H p = none → Ex H H2 → H2 p = some (.tup xs) → Q (.ref p) H2) : te σ H Q := h H (Ex.refl H) Q k
theorem ea_go {t : TA} {σ : L2.St} {H : Hp} {vs : List V} {Q : List V → Hp → Prop} (h : EvA t σ H vs) (k : ∀ H2, Ex H H2 → Q vs H2) : t σ H Q := h H (Ex.refl H) Q k

theorem tlc_rngE {ta : TA} {te : TE} {vs : List Nat} {n : Int} {j : Nat} {σ : L2.St} {H : Hp} {Q : VK} (h : EvA ta σ H [.int n]) (hn : -100000 ≤ n ∧ n ≤ 100000)
    (k : ∀ H1, Ex H H1 → ∀ Dl, H1 Dl = none → ∃ Pv : Nat → Hp → Prop, Pv 0 (upd H1 Dl (.lst [])) ∧ (∀ (i : Nat) H', i < n.toNat → Pv i H' → wipe ((wipe σ vs).set j (some (.int (i : Int)))) vs = wipe σ vs ∧ te ((wipe σ vs).set j (some (.int (i : Int)))) H' fun y H4 => ∃ acc, H4 Dl = some (.lst acc) ∧ acc.length < sizeLine ∧ Pv (i + 1) (upd H4 Dl (.lst (acc ++ [y])))) ∧ (∀ H', Pv n.toNat H' → Q (.ref Dl) H')) :
    tLc (iRng1 ta) (gName j) tYes te vs σ H Q := h H (Ex.refl H) _ fun H1 e1 => ⟨n, rfl, by omega, by omega, fun Dl hD => by
  obtain ⟨Pv, h0, hs, hd⟩ := k H1 e1 Dl hD
  refine lc_range (lo := 0) (n := n.toNat) Pv h0 (fun i H' hi p => ?_) hd
  rw [Int.zero_add]
  exact hs i H' hi p⟩
theorem tlc_lstM {t1 te : TE} {vs : List Nat} {xs : List V} {j : Nat} {σ : L2.St} {H : Hp} {Q : VK} (h : EvS K t1 σ H xs)
    (k : ∀ p H1, Ex H H1 → SqL K H1 p xs → ∀ Dl, H1 Dl = none → ∃ Pv : Nat → Hp → Prop, Pv 0 (upd H1 Dl (.lst [])) ∧ (∀ (i : Nat) H', Pv i H' → SqL K H' p xs) ∧ (∀ (i : Nat) (x : V) H', xs[i]? = some x → Pv i H' → wipe ((wipe σ vs).set j (some x)) vs = wipe σ vs ∧ te ((wipe σ vs).set j (some x)) H' fun y H4 => ∃ acc, H4 Dl = some (.lst acc) ∧ acc.length < sizeLine ∧ Pv (i + 1) (upd H4 Dl (.lst (acc ++ [y])))) ∧ (∀ H', Pv xs.length H' → Q (.ref Dl) H')) :
    tLc (iList K t1) (gName j) tYes te vs σ H Q := h H (Ex.refl H) _ fun p H1 e1 hp => ⟨p, rfl, ⟨xs, hp⟩, fun Dl hD => by
  obtain ⟨Pv, h0, hl, hs, hd⟩ := k p H1 e1 hp Dl hD
  exact lc_list (xs := xs) Pv h0 (fun i H' _ p => hl i H' p) (fun i x H' hi p => hs i x H' hi p) hd⟩

-- K09A
/-! ### a loop over zip(*xs), xs a list of lists of one length -/
theorem for_zipN {as : List Addr} {rs : List (List V)} {n : Nat} {g : TG} {tb : TS} {D : Ends} {σ : L2.St} {H : Hp} (hlen : ∀ r ∈ rs, r.length = n) (hal : as.length = rs.length) (hne : as ≠ []) (hsz : as.length ≤ sizeLine) (Pv : Nat → L2.St → Hp → Prop) (h0 : Pv 0 σ H)
    (hq : ∀ i σ H, i ≤ n → Pv i σ H → ∀ (j : Nat) (a : Addr) (r : List V), as[j]? = some a → rs[j]? = some r → SqL K H a r)
    (hs : ∀ (i : Nat) (vs : List V) (T : Addr) (σ : L2.St) (H : Hp), i < n → vs.length = as.length → (∀ (j : Nat) (r : List V), rs[j]? = some r → r[i]? = vs[j]?) → Pv i σ H → H T = none → g (.ref T) σ (upd H T (.tup vs)) fun σ2 H2 => tb { D with nx := Pv (i + 1), ct := Pv (i + 1), bk := D.nx } σ2 H2) (hd : ∀ σ H, Pv n σ H → D.nx σ H) :
    ∃ W : Nat → Nat → L2.St → Hp → Prop, (∃ m, W 0 m σ H) ∧ ∀ i m σ H, W i m σ H →
      ((ZN.ItzN K as).stop i H ∧ D.nx σ H) ∨ ((ZN.ItzN K as).go i H ∧ ∃ N : L2.St → Hp → Prop, (∀ σ' H', N σ' H' → ∃ m', m' < m ∧ W (i + 1) m' σ' H') ∧ ∀ v H', (ZN.ItzN K as).yld i H v H' → g v σ H' fun σ2 H2 => tb { D with nx := N, ct := N, bk := D.nx } σ2 H2) := by
  have hr : ∀ (j : Nat) (a : Addr), as[j]? = some a → ∃ r, rs[j]? = some r ∧ r.length = n := fun j a h => by
    have hj := (List.getElem?_eq_some_iff.mp h).1
    have hr : rs[j]? = some (rs[j]'(by omega)) := List.getElem?_eq_getElem _
    exact ⟨_, hr, hlen _ (List.mem_of_getElem? hr)⟩
  have ha : ∀ (j : Nat) (r : List V), rs[j]? = some r → ∃ a, as[j]? = some a := fun j r h => by
    have hj := (List.getElem?_eq_some_iff.mp h).1
    exact ⟨as[j]'(by omega), List.getElem?_eq_getElem _⟩
  refine ⟨fun i m σ H => m = n - i ∧ i ≤ n ∧ Pv i σ H, ⟨n, rfl, Nat.zero_le _, h0⟩, ?_⟩
  rintro i m σ H ⟨rfl, hi, p⟩
  have q := hq i σ H hi p
  by_cases hlt : i < n
  · refine .inr ⟨⟨rs.map fun r => r.getD i .non, by rw [List.length_map, hal], hsz, fun j a h => ?_⟩, Pv (i + 1), fun σ' H' p' => ⟨n - (i + 1), by omega, rfl, hlt, p'⟩, fun v H' y => ?_⟩
    · obtain ⟨r, h1, h2⟩ := hr j a h
      have h3 : r[i]? = some (r[i]'(by omega)) := List.getElem?_eq_getElem _
      exact ⟨r, _, q j a r h h1, h3, by rw [List.getElem?_map, h1]; show some (r.getD i .non) = _; rw [List.getD_eq_getElem?_getD, h3]; rfl⟩
    · obtain ⟨T, vs, rfl, hT, rfl, hvl, hv⟩ := y
      refine hs i vs T σ H hlt hvl (fun j r h => ?_) p hT
      obtain ⟨a, h1⟩ := ha j r h
      exact hv j a h1 r (q j a r h1 h)
  · have e : i = n := by omega
    subst e
    obtain ⟨a0, h0⟩ : ∃ a, as[0]? = some a := by
      cases as with
      | nil => exact absurd rfl hne
      | cons x r => exact ⟨x, rfl⟩
    obtain ⟨r, h1, h2⟩ := hr 0 a0 h0
    exact .inl ⟨⟨a0, r, h0, q 0 a0 r h0 h1, by omega⟩, hd σ H p⟩
theorem q_forZS {σ : L2.St} {H : Hp} {te : TE} {L : Addr} {as : List Addr} {rs : List (List V)} {n j : Nat} {tu tz : TS} {D : Ends} (h : Ev te σ H (.ref L)) (hL : H L = some (.lst (as.map V.ref))) (hR : ∀ (j : Nat) (a : Addr) (r : List V), as[j]? = some a → rs[j]? = some r → SqL K H a r) (hlen : ∀ r ∈ rs, r.length = n) (hal : as.length = rs.length) (hne : as ≠ []) (hsz : as.length ≤ sizeLine)
    (Pv : Nat → L2.St → Hp → Prop) (h0 : ∀ H1, Ex H H1 → Pv 0 σ H1) (hq : ∀ i σ H, i ≤ n → Pv i σ H → ∀ (j : Nat) (a : Addr) (r : List V), as[j]? = some a → rs[j]? = some r → SqL K H a r)
    (hs : ∀ (i : Nat) (vs : List V) (T : Addr) (σ : L2.St) (H : Hp), i < n → vs.length = as.length → (∀ (j : Nat) (r : List V), rs[j]? = some r → r[i]? = vs[j]?) → Pv i σ H → H T = none → tu { D with nx := Pv (i + 1), ct := Pv (i + 1), bk := tz D } (σ.set j (some (.ref T))) (upd H T (.tup vs))) (hd : ∀ σ H, Pv n σ H → tz D σ H) :
    tSeq (tFor (ZN.iZipS K te) (gName j) tu) tz D σ H := h H (Ex.refl H) _ fun H1 e1 => ⟨L, as, rfl, sq_of (e1 _ _ hL), hne, hsz, fun b hb => (by
      obtain ⟨i, hi⟩ := List.mem_iff_getElem?.mp hb
      have hil := (List.getElem?_eq_some_iff.mp hi).1
      have hr : rs[i]? = some (rs[i]'(by omega)) := List.getElem?_eq_getElem _
      exact ⟨_, ex_l e1 (hR i b _ hi hr)⟩), for_zipN (D := { D with nx := tz D }) hlen hal hne hsz Pv (h0 H1 e1) hq (fun i vs T σ H a1 a2 a3 a4 a5 => hs i vs T σ H a1 a2 a3 a4 a5) hd⟩

def lowB (n : Int) (c : Nat) : List Int := (List.range c).map fun i => n / 2 ^ (8 * i) % 256
theorem lowB_len (n : Int) (c : Nat) : (lowB n c).length = c := by unfold lowB; rw [List.length_map, List.length_range]
def sp_low : Sp := fun vs H Q _ => ∃ (n : Int) (c : Nat), vs = [.int n, .int (c : Int)] ∧ c ≤ 1000 ∧ RetL ((lowB n c).map V.int) H Q
theorem ok_low_bytes (T : TX K mg) : FnOk P w K mg base CX0 1 T.a_low_bytes T.d_low_bytes ["number", "count"] sp_low := by
  refine T.F_low_bytes.ok sc_low_bytes (fun vs H Q E h => by obtain ⟨n, c, rfl, _⟩ := h; rfl) (fun cdv A outer s H vs Q E hr h => ?_)
  obtain ⟨n, c, rfl, hc, k⟩ := h
  refine ⟨_, (pss_one (ps_ret (pe_lc (own := [("shift", 2)]) (g := gName 2) (tt := tYes) rfl sc_low_bytes.nd (pi_range3 (by rfl) T.m_range (pa_cons pe_int (pa_cons (pe_op op_mul pe_int (pv 1)) (pa_cons pe_int pa_nil)))) (blkOk_by (N := ["number", "count", "shift"]) (sc := defScope s_low_bytes) (by decide +kernel)) (fun _ _ _ _ _ => pg_name (i := 2) sc_low_bytes.nd rfl (Or.inl rfl)) (fun _ _ _ _ _ => pts_nil) (fun _ _ _ _ _ => (pe_op op_and (pe_op op_shr (pv 0) (pv 2)) pe_int))))), ?_⟩
  refine s_retL (xs := (lowB n c).map V.int) (el_lcC (n := c) _ (ea_cons ev_c (ea_cons (Ev.is (ev_I ev_c (ev_var rfl) (.inl (by decide))) (congrArg V.int (a₂ := ((8 * c : Nat) : Int)) (by omega))) (ea_cons ev_c ea_nil))) (rg8 (by omega)) (by rw [List.length_map, lowB_len]) (by rw [List.length_map, lowB_len]; omega) (fun _ => rfl) fun i H1 e1 hi => ?_) k
  refine ⟨_, at_int (n := n / 2 ^ (8 * i) % 256) (by unfold lowB; rw [List.getElem?_map, List.getElem?_range hi]; rfl), Ev.is (ev_I0 (ev_I (j := ((8 * i : Nat) : Int)) (ev_var rfl) (Ev.is (ev_var rfl) (congrArg V.int (by omega))) (by show (0 : Int) ≤ _; omega)) ev_c) (congrArg V.int ?_)⟩
  rw [Int.toNat_natCast]
  exact bitAnd_maskZ _ 8

/-! ### the bytes of samples -/
def gx0 (xs : List Int) (i : Nat) : Int := xs.getD i 0
def col (rs : List (List Int)) (i : Nat) : List Int := rs.map fun r => gx0 r i
def outB (rs : List (List Int)) (m n : Nat) : List Int := (List.range n).flatMap fun i => (col rs i).flatMap fun x => lowB x m
def RwAt (H : Hp) (as : List Addr) (rs : List (List Int)) : Prop := as.length = rs.length ∧ ∀ (j : Nat) (a : Addr) (r : List Int), as[j]? = some a → rs[j]? = some r → H a = some (.lst (r.map V.int))
theorem RwAt.ex {H H1 : Hp} {as : List Addr} {rs : List (List Int)} (h : RwAt H as rs) (e : Ex H H1) : RwAt H1 as rs := ⟨h.1, fun j a r h1 h2 => e _ _ (h.2 j a r h1 h2)⟩
theorem flat_snocI {α β : Type} {f : α → List β} {l : List α} {i : Nat} {x : α} (h : l[i]? = some x) : (l.take (i + 1)).flatMap f = (l.take i).flatMap f ++ f x := by
  rw [List.take_add_one, h, List.flatMap_append]
  show _ ++ (f x ++ []) = _
  rw [List.append_nil]
theorem flat_lenI {α β : Type} {f : α → List β} {m : Nat} (hf : ∀ x, (f x).length = m) : ∀ l : List α, (l.flatMap f).length = l.length * m
  | [] => by simp
  | x :: l => by rw [List.flatMap_cons, List.length_append, hf, flat_lenI hf l, List.length_cons, Nat.succ_mul, Nat.add_comm]
theorem col_len (rs : List (List Int)) (i : Nat) : (col rs i).length = rs.length := List.length_map ..
theorem outB_len (rs : List (List Int)) (m n : Nat) : (outB rs m n).length = n * (rs.length * m) := by
  unfold outB
  rw [flat_lenI (m := rs.length * m) (fun i => by rw [flat_lenI (m := m) (fun x => lowB_len x m), col_len]), List.length_range]
theorem outB_succ (rs : List (List Int)) (m i : Nat) : outB rs m (i + 1) = outB rs m i ++ (col rs i).flatMap fun x => lowB x m := by
  unfold outB
  rw [List.range_succ, List.flatMap_append]
  show _ ++ (_ ++ []) = _
  rw [List.append_nil]
def sp_sb : Sp := fun vs H Q _ => ∃ (L : Addr) (as : List Addr) (rs : List (List Int)) (D n : Nat), vs = [.ref L, .int (D : Int)] ∧ H L = some (.lst (as.map V.ref)) ∧ RwAt H as rs ∧ (∀ r ∈ rs, r.length = n) ∧ as ≠ [] ∧ as.length ≤ 8 ∧ n ≤ 8 ∧ D ≤ 32 ∧ ∀ p H', H p = none → Ex H H' → H' p = some (.lst ((outB rs ((D + 7) / 8) n).map V.int)) → Q (.ref p) H'
theorem ok_sample_bytes (T : TX K mg) : FnOk P w K mg base CX0 2 T.a_sample_bytes T.d_sample_bytes ["channels", "depth"] sp_sb := by
  refine T.F_sample_bytes.ok sc_sample_bytes (fun vs H Q E h => by obtain ⟨L, as, rs, D, n, rfl, _⟩ := h; rfl) (fun cdv A outer s H vs Q E hr h => ?_)
  obtain ⟨L, as, rs, D, n, rfl, hL, hR, hn, hne, h8, hn8, hD, k⟩ := h
  refine ⟨_, (pss_cons (ps_set (i := 2) sc_sample_bytes.nd rfl (Or.inl rfl) (pe_op op_fdiv (pe_op op_add (pv 1) pe_int) pe_int))
      (pss_cons (ps_set (i := 3) sc_sample_bytes.nd rfl (Or.inl rfl) (pe_lst pa_nil))
      (pss_cons (ps_for PassesOwn.never rfl (ZN.pi_zipS (by rfl) T.m_zip (pv 0)) (pg_name (i := 4) sc_sample_bytes.nd rfl (Or.inl rfl)) (pss_one (ps_for PassesOwn.never rfl (pi_tup (pv 4)) (pg_name (i := 5) sc_sample_bytes.nd rfl (Or.inl rfl)) (pss_one (ps_expr (pe_bm PySem.F.plainAttrs_list PySem.F.slot_list_extend PySem.F.type_list_extend mt_extend (pv 3) (pa_cons (pe_call (ok_low_bytes T) (hr.mono (by decide)) (by rfl) T.g_low_bytes T.F_low_bytes.kp T.b_low_bytes .nil pass0 (pa_cons (pv 5) (pa_cons (pv 2) pa_nil))) pa_nil)))))))
      (pss_one (ps_ret (pv 3)))))), ?_⟩
  obtain ⟨m, hm⟩ : ∃ m, (D + 7) / 8 = m := ⟨_, rfl⟩
  have hm4 : m ≤ 4 := by omega
  rw [hm] at k
  have hrl : rs.length ≤ 8 := by rw [← hR.1]; exact h8
  refine q_asg (v := .int (m : Int)) (Ev.is (ev_I (ev_I0 (g := fun i j => .int (i + j)) (ev_var rfl) ev_c) ev_c ⟨by decide, by decide⟩) (congrArg V.int (by omega))) fun H1 e1 => ?_
  refine q_asgL (xs := []) (el_lst ea_nil (by decide)) fun p H2 hp e2 g2 => ?_
  have hpH : H p = none := fresh_back e1 hp
  have e12 := e1.trans e2
  show tSeq _ _ _ [some (.ref L), some (.int (D : Int)), some (.int (m : Int)), some (.ref p), none, none] _
  have hbd : ∀ i, i ≤ 8 → (outB rs m i).length ≤ 256 := fun i hi => by
    rw [outB_len]
    have h1 : rs.length * m ≤ 8 * 4 := Nat.mul_le_mul hrl hm4
    exact Nat.le_trans (Nat.mul_le_mul hi h1) (by decide)
  refine q_forZS (as := as) (rs := rs.map fun r => r.map V.int) (n := n) (ev_var rfl) (e12 _ _ hL) (fun j a r h1 h2 => by
    rw [List.getElem?_map] at h2
    obtain ⟨r', h3, rfl⟩ := Option.map_eq_some_iff.mp h2
    exact sq_of (e12 _ _ (hR.2 j a r' h1 h3))) (fun r hr => by obtain ⟨r', h1, rfl⟩ := List.mem_map.mp hr; rw [List.length_map]; exact hn r' h1) (by rw [List.length_map]; exact hR.1) hne (Nat.le_trans h8 (by decide)) (fun i σ' H' => ∃ z4 z5 : Option V, σ' = [some (.ref L), some (.int (D : Int)), some (.int (m : Int)), some (.ref p), z4, z5] ∧ Ex H1 H' ∧ H' p = some (.lst ((outB rs m i).map V.int))) (fun H3 e3 => ⟨none, none, rfl, e2.trans e3, e3 _ _ g2⟩) (fun i σ' H' _ h j a r h1 h2 => by
    obtain ⟨_, _, _, ex, _⟩ := h
    rw [List.getElem?_map] at h2
    obtain ⟨r', h3, rfl⟩ := Option.map_eq_some_iff.mp h2
    exact sq_of ((e1.trans ex) _ _ (hR.2 j a r' h1 h3))) ?_ ?_
  · rintro i vs T0 σ' H3 hi hvl hv ⟨z4, z5, rfl, ex, gp⟩ hT
    have hvs : vs = (col rs i).map V.int := by
      refine List.ext_getElem? fun j => ?_
      cases hj : rs[j]? with
      | none =>
        have h1 := List.getElem?_eq_none_iff.mp hj
        rw [List.getElem?_eq_none (by rw [hvl, hR.1]; exact h1), List.getElem?_eq_none (by rw [List.length_map, col_len]; exact h1)]
      | some r =>
        have h1 := hv j (r.map V.int) (by rw [List.getElem?_map, hj]; rfl)
        have hrn := hn r (List.mem_of_getElem? hj)
        rw [← h1, List.getElem?_map, List.getElem?_map, List.getElem?_eq_getElem (by rw [hrn]; exact hi)]
        unfold col
        rw [List.getElem?_map, hj]
        show some (V.int _) = some (V.int (gx0 r i))
        unfold gx0
        rw [List.getD_eq_getElem?_getD, List.getElem?_eq_getElem (by rw [hrn]; exact hi)]
        rfl
    subst hvs
    have xT := Ex.new (o := .tup ((col rs i).map V.int)) hT
    have e3 := ex.trans xT
    have gp3 := xT _ _ gp
    have gT : upd H3 T0 (.tup ((col rs i).map V.int)) T0 = some (.tup ((col rs i).map V.int)) := upd_same
    generalize upd H3 T0 (.tup ((col rs i).map V.int)) = G3 at *
    have hb := hbd i (by omega)
    refine s_forT (a := T0) (xs := (col rs i).map V.int) (ev_var rfl) (st_of gT) (fun j σ' H' => ∃ z5 : Option V, σ' = [some (.ref L), some (.int (D : Int)), some (.int (m : Int)), some (.ref p), some (.ref T0), z5] ∧ Ex H1 H' ∧ H' T0 = some (.tup ((col rs i).map V.int)) ∧ H' p = some (.lst ((outB rs m i ++ ((col rs i).take j).flatMap fun x => lowB x m).map V.int))) (fun H4 e4 => ⟨z5, rfl, e3.trans e4, e4 _ _ gT, by rw [List.take_zero, List.flatMap_nil, List.append_nil]; exact e4 _ _ gp3⟩) (fun j σ' H' _ h => by obtain ⟨_, _, _, g, _⟩ := h; exact st_of g) ?_ ?_
    · rintro j x σ' H4 hx ⟨z, rfl, e4, gT4, gp4⟩
      obtain ⟨v, hvj, hj, rfl⟩ := int_at hx
      have hfl := flat_snocI (f := fun x => lowB x m) hvj
      have hlt : (((col rs i).take j).flatMap fun x => lowB x m).length ≤ 32 := by
        rw [flat_lenI (m := m) (fun x => lowB_len x m), List.length_take, col_len]
        exact Nat.le_trans (Nat.mul_le_mul (show min j rs.length ≤ 8 by omega) hm4) (by decide)
      have npT : T0 ≠ p := by rintro rfl; rw [gT4] at gp4; cases gp4
      refine s_ext (zs := (lowB v m).map V.int) gp4 (ev_var rfl) (EvL.r (el_call (ea_cons (ev_var rfl) (ea_cons (ev_var rfl) ea_nil)) fun G e Q2 q2 _ => ⟨v, m, rfl, (by omega), q2⟩)) (by rw [List.length_map, List.length_map, List.length_append, lowB_len]; omega) fun H5 e5 => ⟨_, rfl, Ex.mut (e4.trans e5) hp, ?_, ?_⟩
      · rw [upd_ne npT]
        exact e5 _ _ gT4
      · rw [upd_same, ← List.map_append, List.append_assoc, ← hfl]
    · rintro σ' H4 ⟨z, rfl, e4, gT4, gp4⟩
      refine ⟨_, _, rfl, e4, ?_⟩
      rw [List.length_map, List.take_length] at gp4
      rw [outB_succ]
      exact gp4
  · rintro σ' H3 ⟨z4, z5, rfl, ex, gp⟩
    exact s_ret (ev_var rfl) fun H4 e4 => k p H4 hpH (e1.trans (ex.trans e4)) (e4 _ _ gp)

-- K09B
/-! ### the law's parts -/
def sp_lch : Sp := fun vs H Q _ => ∃ (c : Int) (n D : Nat), vs = [.int c, .int (n : Int), .int (D : Int)] ∧ n ≤ 8 ∧ 4 ≤ D ∧ D ≤ 32 ∧ ∀ p (r : List Int) H', H p = none → Ex H H' → H' p = some (.lst (r.map V.int)) → r.length = n → (∀ x ∈ r, -(2 ^ (D - 1)) ≤ x ∧ x < 2 ^ (D - 1)) → Q (.ref p) H'
theorem ok_law_channel (T : TX K mg) : FnOk P w K mg base CX0 2 T.a_law_channel T.d_law_channel ["cell", "many", "depth"] sp_lch := by
  refine T.F_law_channel.ok sc_law_channel (fun vs H Q E h => by obtain ⟨c, n, D, rfl, _⟩ := h; rfl) (fun cdv A outer s H vs Q E hr h => ?_)
  obtain ⟨c, n, D, rfl, hn, hD4, hD, k⟩ := h
  refine ⟨_, (pss_cons (ps_set (i := 3) sc_law_channel.nd rfl (Or.inl rfl) (pe_call (ok_law_draw T) (hr.mono (by decide)) (by rfl) T.g_law_draw T.F_law_draw.kp T.b_law_draw .nil pass0 (pa_cons (pv 0) (pa_cons (pv 1) (pa_cons (pe_op op_shl pe_int pe_int) pa_nil)))))
      (pss_cons (ps_set (i := 4) sc_law_channel.nd rfl (Or.inl rfl) (pe_lst pa_nil))
      (pss_cons (ps_for PassesOwn.never rfl (pi_list (pv 3)) (pg_name (i := 5) sc_law_channel.nd rfl (Or.inl rfl)) (pss_cons (ps_set (i := 6) sc_law_channel.nd rfl (Or.inl rfl) (pe_op op_sub (pe_op op_mod (pe_callTy call_int1 (by rfl) T.m_int PyProof.Rows.boot_int (pa_cons (pe_op op_fdiv (pv 5) pe_int) pa_nil)) (pe_op op_shl pe_int (pv 2))) (pe_op op_shl pe_int (pe_op op_sub (pv 2) pe_int))))
        (pss_cons (ps_if (pt_cmpR op_eq (pe_op op_mod (pe_callTy call_int1 (by rfl) T.m_int PyProof.Rows.boot_int (pa_cons (pv 5) pa_nil)) pe_int) pe_int (nomark _)) (pss_one (ps_set (i := 6) sc_law_channel.nd rfl (Or.inl rfl) (pe_un un_neg (pe_op op_shl pe_int (pe_op op_sub (pv 2) pe_int))))) pss_nil)
        (pss_cons (ps_if (pt_cmpR op_eq (pe_op op_mod (pe_callTy call_int1 (by rfl) T.m_int PyProof.Rows.boot_int (pa_cons (pv 5) pa_nil)) pe_int) pe_int (nomark _)) (pss_one (ps_set (i := 6) sc_law_channel.nd rfl (Or.inl rfl) (pe_op op_sub (pe_op op_shl pe_int (pe_op op_sub (pv 2) pe_int)) pe_int))) pss_nil)
        (pss_one (ps_expr (pe_bm PySem.F.plainAttrs_list PySem.F.slot_list_append PySem.F.type_list_append mt_append (pv 4) (pa_cons (pv 6) pa_nil))))))))
      (pss_one (ps_ret (pv 4)))))), ?_⟩
  have sh : ∀ {σ : L2.St} {G : Hp} {t : TE} {j : Nat}, Ev t σ G (.int (j : Int)) → j ≤ 1000 → Ev (tOp (rI CPow fun i j => .int (i * 2 ^ j.toNat)) (tC (.int 1)) t) σ G (.int (2 ^ j)) := fun h hj => Ev.is (SH.ev_shl1 h hj) (by rw [Int.toNat_natCast, Int.one_mul])
  obtain ⟨hf, hhf⟩ : ∃ hf : Int, (2 : Int) ^ (D - 1) = hf := ⟨_, rfl⟩
  have hfull : (2 : Int) ^ D = 2 * hf := by rw [← hhf, show D = D - 1 + 1 by omega, Int.pow_succ, Nat.add_sub_cancel, Int.mul_comm]
  have hf0 : 0 < hf := by rw [← hhf]; exact Int.pow_pos (by decide)
  rw [hhf] at k
  refine q_asgC (vs := [.int c, .int (n : Int), .int (2 ^ 36)]) (ea_cons (ev_var rfl) (ea_cons (ev_var rfl) (ea_cons (sh (j := 36) ev_c (by decide)) ea_nil))) fun H1 e1 => ⟨c, (n : Int), 2 ^ 36, rfl, by omega, by omega, by decide, by decide, fun pn ns H2 hpn e2 gn hnl hnb => ?_⟩
  refine q_asgL (xs := []) (el_lst ea_nil (by decide)) fun p H3 hp e3 g3 => ?_
  have e12 := e1.trans e2
  show tSeq _ _ _ [some (.int c), some (.int (n : Int)), some (.int (D : Int)), some (.ref pn), some (.ref p), none, none] _
  have hmax : ∀ {σ : L2.St} {G : Hp}, σ[2]? = some (some (.int (D : Int))) → Ev (tOp (rI CPow fun i j => .int (i * 2 ^ j.toNat)) (tC (.int 1)) (tOp (rI0 fun i j => .int (i - j)) (tVar 2) (tC (.int 1)))) σ G (.int hf) := fun h => Ev.is (sh (j := D - 1) (Ev.is (ev_I0 (g := fun i j => .int (i - j)) (ev_var h) ev_c) (congrArg V.int (by omega))) (by omega)) (congrArg V.int hhf)
  refine q_forLn (K := K) (a := pn) (ev_var rfl) (sq_of (e3 _ _ gn)) (fun i σ' H' => ∃ (r : List Int) (z5 z6 : Option V), σ' = [some (.int c), some (.int (n : Int)), some (.int (D : Int)), some (.ref pn), some (.ref p), z5, z6] ∧ Ex H2 H' ∧ H' p = some (.lst (r.map V.int)) ∧ r.length = i ∧ ∀ x ∈ r, -hf ≤ x ∧ x < hf) (fun H4 e4 => ⟨[], none, none, rfl, e3.trans e4, e4 _ _ g3, rfl, fun x hx => by cases hx⟩) (fun i σ' H' _ h => by obtain ⟨_, _, _, _, ex, _⟩ := h; exact sq_of (ex _ _ gn)) ?_ ?_
  · rintro i x σ' H4 hx ⟨r, z5, z6, rfl, ex, gp, hrl, hrb⟩
    obtain ⟨v, hv, hi, rfl⟩ := int_at hx
    have hvb := hnb v (List.mem_of_getElem? hv)
    have fin : ∀ {y : Int} {G : Hp}, -hf ≤ y ∧ y < hf → Ex H4 G → tDrop (tBM K "list" rAppend (tVar 4) (tCons (tVar 6) tNil)) { nx := fun σ' H' => ∃ (r : List Int) (z5 z6 : Option V), σ' = [some (.int c), some (.int (n : Int)), some (.int (D : Int)), some (.ref pn), some (.ref p), z5, z6] ∧ Ex H2 H' ∧ H' p = some (.lst (r.map V.int)) ∧ r.length = i + 1 ∧ ∀ x ∈ r, -hf ≤ x ∧ x < hf, rt := Q } [some (.int c), some (.int (n : Int)), some (.int (D : Int)), some (.ref pn), some (.ref p), some (.int v), some (.int y)] G := fun hy eG => by
      refine s_app (eG _ _ gp) (ev_var rfl) (ev_var rfl) (by rw [List.length_map]; omega) fun H5 e5 => ⟨r ++ [_], _, _, rfl, Ex.mut (ex.trans (eG.trans e5)) hp, by rw [upd_same, List.map_append]; rfl, by rw [List.length_append, hrl]; rfl, fun x hx => ?_⟩
      rcases List.mem_append.mp hx with hx | hx
      · exact hrb x hx
      · rw [List.mem_singleton.mp hx]
        exact hy
    have hm8 : ∀ {σ : L2.St} {G : Hp}, σ[5]? = some (some (.int v)) → ∀ z : Int, EvT (tTest (tOp rEq (tOp (rI (fun _ j => 0 < j) fun i j => .int (i % j)) (tCB (fun xs H Q => (∃ i, xs = [V.int i] ∧ Q (V.int i) H) ∨ ∃ k, xs = [V.bl k] ∧ Q (V.int (if k = true then 1 else 0)) H) (tCons (tVar 5) tNil)) (tC (.int 8))) (tC (.int z)))) σ G (decide (V.int (v % 8) = V.int z)) := fun h z => et_test (ev_eq (ev_I (ev_int1 (ev_var h)) ev_c (by decide)) ev_c rfl)
    refine q_asg (v := .int (v / 8 % 2 ^ D - hf)) (ev_I0 (g := fun i j => .int (i - j)) (ev_I (ev_int1 (ev_I (ev_var rfl) ev_c ⟨by decide, by decide⟩)) (sh (j := D) (ev_var rfl) (by omega)) (by show (0 : Int) < 2 ^ D; omega)) (hmax rfl)) fun H5 e5 => ?_
    have hb1 : -hf ≤ v / 8 % 2 ^ D - hf ∧ v / 8 % 2 ^ D - hf < hf := by
      have h1 := Int.emod_nonneg (v / 8) (show (2 : Int) ^ D ≠ 0 by omega)
      have h2 := Int.emod_lt_of_pos (v / 8) (show (0 : Int) < 2 ^ D by omega)
      omega
    generalize v / 8 % 2 ^ D - hf = y0 at *
    have nxt : ∀ {y : Int} {G : Hp}, -hf ≤ y ∧ y < hf → Ex H4 G → tSeq (tIfS (tTest (tOp rEq (tOp (rI (fun _ j => 0 < j) fun i j => .int (i % j)) (tCB (fun xs H Q => (∃ i, xs = [V.int i] ∧ Q (V.int i) H) ∨ ∃ k, xs = [V.bl k] ∧ Q (V.int (if k = true then 1 else 0)) H) (tCons (tVar 5) tNil)) (tC (.int 8))) (tC (.int 1)))) (tAsg (tOp (rI0 fun i j => V.int (i - j)) (tOp (rI CPow fun i j => V.int (i * 2 ^ j.toNat)) (tC (.int 1)) (tOp (rI0 fun i j => V.int (i - j)) (tVar 2) (tC (.int 1)))) (tC (.int 1))) (gName 6)) tNext) (tDrop (tBM K "list" rAppend (tVar 4) (tCons (tVar 6) tNil))) { nx := fun σ' H' => ∃ (r : List Int) (z5 z6 : Option V), σ' = [some (.int c), some (.int (n : Int)), some (.int (D : Int)), some (.ref pn), some (.ref p), z5, z6] ∧ Ex H2 H' ∧ H' p = some (.lst (r.map V.int)) ∧ r.length = i + 1 ∧ ∀ x ∈ r, -hf ≤ x ∧ x < hf, rt := Q } [some (.int c), some (.int (n : Int)), some (.int (D : Int)), some (.ref pn), some (.ref p), some (.int v), some (.int y)] G := fun hy eG => by
      refine q_when (hm8 rfl 1) (fun hb H6 e6 => ?_) (fun hb H6 e6 => fin hy (eG.trans e6))
      exact s_asg (v := .int (hf - 1)) (ev_I0 (g := fun i j => .int (i - j)) (hmax rfl) ev_c) fun H7 e7 => fin (by omega) (eG.trans (e6.trans e7))
    refine q_when (hm8 rfl 0) (fun hb H6 e6 => ?_) (fun hb H6 e6 => nxt hb1 (e5.trans e6))
    exact s_asg (v := .int (-hf)) (ev_negI (hmax rfl)) fun H7 e7 => nxt (by omega) (e5.trans (e6.trans e7))
  · rintro σ' H4 ⟨r, z5, z6, rfl, ex, gp, hrl, hrb⟩
    rw [List.length_map] at hrl
    exact s_ret (ev_var rfl) fun H5 e5 => k p r H5 (fresh_back e12 hp) (e12.trans (ex.trans e5)) (e5 _ _ gp) (by omega) hrb
theorem mod_step (x : Int) (i : Nat) : x % 2 ^ (8 * (i + 1)) = x % 2 ^ (8 * i) + x / 2 ^ (8 * i) % 256 * 2 ^ (8 * i) := by
  obtain ⟨a, ha⟩ : ∃ a : Int, 2 ^ (8 * i) = a := ⟨_, rfl⟩
  have ha0 : 0 < a := by rw [← ha]; exact Int.pow_pos (by decide)
  rw [show 8 * (i + 1) = 8 * i + 8 by omega, Int.pow_add, ha, show (2 : Int) ^ 8 = 256 by decide]
  have h1 := Int.emod_add_mul_ediv x a
  have h2 := Int.emod_add_mul_ediv (x / a) 256
  have h3 := Int.emod_nonneg x (show a ≠ 0 by omega)
  have h4 := Int.emod_lt_of_pos x ha0
  have h5 := Int.emod_nonneg (x / a) (show (256 : Int) ≠ 0 by decide)
  have h6 := Int.emod_lt_of_pos (x / a) (show (0 : Int) < 256 by decide)
  have e : x = (x % a + x / a % 256 * a) + a * 256 * (x / a / 256) := by
    have : a * (x / a) = x / a % 256 * a + a * 256 * (x / a / 256) := by
      rw [Int.mul_assoc, ← Int.mul_comm a, ← Int.mul_add, h2]
    omega
  have h7 : x / a % 256 * a ≤ 255 * a := Int.mul_le_mul_of_nonneg_right (by omega) (by omega)
  have h8 : 0 ≤ x / a % 256 * a := Int.mul_nonneg h5 (by omega)
  generalize x / a % 256 * a = u at *
  generalize x % a = r at *
  rw [e, Int.add_mul_emod_self_left]
  exact Int.emod_eq_of_lt (by omega) (by omega)
def sp_lread : Sp := fun vs H Q _ => ∃ (p : Addr) (ds : List Int) (pos m : Nat) (x : Int), vs = [.ref p, .int (pos : Int), .int (m : Int)] ∧ H p = some (.lst (ds.map V.int)) ∧ 1 ≤ m ∧ m ≤ 4 ∧ pos ≤ 1000 ∧ (∀ j, j < m → ds[pos + j]? = some (x / 2 ^ (8 * j) % 256)) ∧ -(2 ^ (8 * m - 1)) ≤ x ∧ x < 2 ^ (8 * m - 1) ∧ RetV (.int x) H Q
theorem ok_law_read (T : TX K mg) : FnOk P w K mg base CX0 1 T.a_law_read T.d_law_read ["data", "at", "many"] sp_lread := by
  refine T.F_law_read.ok sc_law_read (fun vs H Q E h => by obtain ⟨p, ds, pos, m, x, rfl, _⟩ := h; rfl) (fun cdv A outer s H vs Q E hr h => ?_)
  obtain ⟨p, ds, pos, m, x, rfl, gp, hm1, hm4, hps, hds, hx1, hx2, k⟩ := h
  refine ⟨_, (pss_cons (ps_set (i := 3) sc_law_read.nd rfl (Or.inl rfl) pe_int)
      (pss_cons (ps_for PassesOwn.never rfl (pi_range1 (by rfl) T.m_range (pa_cons (pv 2) pa_nil)) (pg_name (i := 4) sc_law_read.nd rfl (Or.inl rfl)) (pss_one (ps_set (i := 3) sc_law_read.nd rfl (Or.inl rfl) (pe_op op_add (pv 3) (pe_op op_shl (pe_ix (r := rIxL K) ix_list (pv 0) (pe_op op_add (pv 1) (pv 4)) (fun _ _ => rfl)) (pe_op op_mul pe_int (pv 4)))))))
      (pss_cons (ps_if (pt_cmpR op_ge (pe_ix (r := rIxL K) ix_list (pv 0) (pe_op op_sub (pe_op op_add (pv 1) (pv 2)) pe_int) (fun _ _ => rfl)) pe_int (nomark _)) (pss_one (ps_set (i := 3) sc_law_read.nd rfl (Or.inl rfl) (pe_op op_sub (pv 3) (pe_op op_shl pe_int (pe_op op_mul pe_int (pv 2)))))) pss_nil)
      (pss_one (ps_ret (pv 3)))))), ?_⟩
  obtain ⟨c, hc⟩ : ∃ c : Int, 2 ^ (8 * (m - 1)) = c := ⟨_, rfl⟩
  have hc0 : 0 < c := by rw [← hc]; exact Int.pow_pos (by decide)
  have hM : (2 : Int) ^ (8 * m) = 256 * c := by rw [← hc, show 8 * m = 8 * (m - 1) + 8 by omega, Int.pow_add, Int.mul_comm]; rfl
  have hH : (2 : Int) ^ (8 * m - 1) = 128 * c := by rw [← hc, show 8 * m - 1 = 8 * (m - 1) + 7 by omega, Int.pow_add, Int.mul_comm]; rfl
  rw [hH] at hx1 hx2
  refine q_asg (v := .int 0) ev_c fun H1 e1 => ?_
  refine q_forR1 (n := (m : Int)) (ea_cons (ev_var rfl) ea_nil) (by omega) (fun i σ' H' => ∃ z4 : Option V, σ' = [some (.ref p), some (.int (pos : Int)), some (.int (m : Int)), some (.int (x % 2 ^ (8 * i))), z4] ∧ Ex H H') (fun H2 e2 => ⟨none, by rw [show x % 2 ^ (8 * 0) = 0 from Int.emod_one x]; rfl, e1.trans e2⟩) ?_ ?_
  · rintro i σ' H' hi ⟨z4, rfl, ex⟩
    have hd := hds i (by omega)
    have hu1 := Int.emod_nonneg (x / 2 ^ (8 * i)) (show (256 : Int) ≠ 0 by decide)
    have hu2 := Int.emod_lt_of_pos (x / 2 ^ (8 * i)) (show (0 : Int) < 256 by decide)
    have hst := mod_step x i
    generalize x / 2 ^ (8 * i) % 256 = u at *
    refine s_asg (v := .int (x % 2 ^ (8 * (i + 1)))) (Ev.is (ev_I0 (g := fun i j => .int (i + j)) (ev_var rfl) (ev_I (j := ((8 * i : Nat) : Int)) (ev_at (K := K) (n := ((pos + i : Nat) : Int)) (Ev.s (ev_var rfl) (sq_of (ex _ _ gp))) (Ev.is (ev_I0 (g := fun i j => .int (i + j)) (ev_var rfl) (ev_var rfl)) (congrArg V.int (by omega))) (at_of (j := pos + i) rfl (at_int hd))) (Ev.is (ev_I ev_c (ev_var rfl) (.inl (by decide))) (congrArg V.int (by omega))) (show CPow _ _ from ⟨by omega, by omega, by omega⟩))) (congrArg V.int (by rw [Int.toNat_natCast]; exact hst.symm))) fun H3 e3 => ⟨_, rfl, ex.trans e3⟩
  · rintro σ' H' ⟨z4, rfl, ex⟩
    rw [Int.toNat_natCast]
    have hd := hds (m - 1) (by omega)
    rw [hc] at hd
    have t1 : -128 ≤ x / c := (Int.le_ediv_iff_mul_le hc0).mpr (by omega)
    have t2 : x / c < 128 := Int.ediv_lt_of_lt_mul hc0 (by omega)
    have t3 : 0 ≤ x ↔ 0 ≤ x / c := ⟨fun h => Int.ediv_nonneg h (by omega), fun h => by
      have := (Int.le_ediv_iff_mul_le hc0).mp h
      omega⟩
    have hmod : x % (256 * c) = if 0 ≤ x then x else x + 256 * c := by
      split
      · exact Int.emod_eq_of_lt (by omega) (by omega)
      · rw [← Int.add_mul_emod_self_left x (256 * c) 1, Int.mul_one]
        exact Int.emod_eq_of_lt (by omega) (by omega)
    rw [hM, hmod]
    refine q_when (b := decide (128 ≤ x / c % 256)) (et_test (ev_I0 (g := fun i j => .bl (decide (j ≤ i))) (ev_at (K := K) (n := ((pos + (m - 1) : Nat) : Int)) (Ev.s (ev_var rfl) (sq_of (ex _ _ gp))) (Ev.is (ev_I0 (g := fun i j => .int (i - j)) (ev_I0 (g := fun i j => .int (i + j)) (ev_var rfl) (ev_var rfl)) ev_c) (congrArg V.int (by omega))) (at_of (j := pos + (m - 1)) rfl (at_int hd))) ev_c)) (fun hb H2 e2 => ?_) (fun hb H2 e2 => ?_)
    · have hb := of_decide_eq_true hb
      have hneg : ¬ 0 ≤ x := fun h => by have := t3.mp h; omega
      refine s_asg (v := .int x) (Ev.is (ev_I0 (g := fun i j => .int (i - j)) (ev_var rfl) (Ev.is (SH.ev_shl1 (j := 8 * m) (Ev.is (ev_I ev_c (ev_var rfl) (.inl (by decide))) (congrArg V.int (by omega))) (by omega)) (congrArg V.int (show (1 : Int) * 2 ^ ((8 * m : Nat) : Int).toNat = 256 * c by rw [Int.toNat_natCast, Int.one_mul, hM])))) (congrArg V.int (by rw [if_neg hneg]; omega))) fun H3 e3 => ?_
      exact s_ret (ev_var rfl) fun H4 e4 => k H4 (ex.trans (e2.trans (e3.trans e4)))
    · have hb := of_decide_eq_false hb
      have hpos : 0 ≤ x := t3.mpr (by omega)
      exact s_ret (Ev.is (ev_var rfl) (congrArg V.int (if_pos hpos))) fun H4 e4 => k H4 (ex.trans (e2.trans e4))
theorem flat_atI {α β : Type} {f : α → List β} {w : Nat} (hf : ∀ x, (f x).length = w) : ∀ (l : List α) (i j : Nat) (x : α), l[i]? = some x → j < w → (l.flatMap f)[i * w + j]? = (f x)[j]?
  | y :: l, 0, j, x, h, hj => by
    cases h
    rw [List.flatMap_cons, Nat.zero_mul, Nat.zero_add, List.getElem?_append_left (by rw [hf]; exact hj)]
  | y :: l, i + 1, j, x, h, hj => by
    rw [List.flatMap_cons, List.getElem?_append_right (by rw [hf, Nat.succ_mul]; omega), hf, show (i + 1) * w + j - w = i * w + j by rw [Nat.succ_mul]; omega]
    exact flat_atI hf l i j x h hj
theorem outB_at {rs : List (List Int)} {m n i k j : Nat} {r : List Int} (hi : i < n) (hk : rs[k]? = some r) (hj : j < m) : (outB rs m n)[(i * rs.length + k) * m + j]? = some (gx0 r i / 2 ^ (8 * j) % 256) := by
  have hkl := (List.getElem?_eq_some_iff.mp hk).1
  have hlt : k * m + j < rs.length * m := by
    have := Nat.mul_le_mul_right m (show k + 1 ≤ rs.length by omega)
    rw [Nat.succ_mul] at this
    omega
  unfold outB
  rw [show (i * rs.length + k) * m + j = i * (rs.length * m) + (k * m + j) by rw [Nat.add_mul, Nat.mul_assoc, Nat.add_assoc], flat_atI (w := rs.length * m) (fun i => by rw [flat_lenI (m := m) (fun x => lowB_len x m), col_len]) (List.range n) i _ i (List.getElem?_range hi) hlt, flat_atI (w := m) (fun x => lowB_len x m) (col rs i) k j (gx0 r i) (by unfold col; rw [List.getElem?_map, hk]; rfl) hj]
  unfold lowB
  rw [List.getElem?_map, List.getElem?_range hj]
  rfl

-- K09C
/-! ### the law -/
theorem q_goT {te : TE} {i : Nat} {tz : TS} {D : Ends} {σ : L2.St} {H : Hp} (h : te σ H fun v H1 => tz D (σ.set i (some v)) H1) : tSeq (tAsg te (gName i)) tz D σ H := h
theorem RwAt.mut {H H1 : Hp} {as : List Addr} {rs : List (List Int)} {c : Addr} {o : HO} (h : RwAt H as rs) (e : Ex H H1) (hc : ∀ a ∈ as, a ≠ c) : RwAt (upd H1 c o) as rs := ⟨h.1, fun j a r h1 h2 => by rw [upd_ne (hc a (List.mem_of_getElem? h1))]; exact e _ _ (h.2 j a r h1 h2)⟩
theorem RwAt.snoc {H : Hp} {as : List Addr} {rs : List (List Int)} {a : Addr} {r : List Int} (h : RwAt H as rs) (ha : H a = some (.lst (r.map V.int))) : RwAt H (as ++ [a]) (rs ++ [r]) := ⟨by rw [List.length_append, List.length_append, h.1]; rfl, fun j b q h1 h2 => by
  by_cases hj : j < as.length
  · rw [List.getElem?_append_left hj] at h1
    rw [List.getElem?_append_left (by rw [← h.1]; exact hj)] at h2
    exact h.2 j b q h1 h2
  · rw [List.getElem?_append_right (by omega)] at h1
    rw [List.getElem?_append_right (by rw [← h.1]; omega), ← h.1] at h2
    have hj0 := (List.getElem?_eq_some_iff.mp h1).1
    have : j - as.length = 0 := by simp at hj0; omega
    rw [this] at h1 h2
    cases h1
    cases h2
    exact ha⟩
theorem dp_rws {H : Hp} : ∀ {as : List Addr} {rs : List (List Int)}, RwAt H as rs → DpAll K H (as.map V.ref) (rs.map fun r => PyData.list (r.map PyData.int))
  | [], [], _ => .nil
  | a :: as, r :: rs, h => .cons (.lst (sq_of (h.2 0 a r rfl rfl)) (dp_ints _)) (dp_rws ⟨by have := h.1; simpa using this, fun j b q h1 h2 => h.2 (j + 1) b q h1 h2⟩)
  | [], _ :: _, h => by have := h.1; simp at this
  | _ :: _, [], h => by have := h.1; simp at this
def rwsD (rs : List (List Int)) : PyData := .list (rs.map fun r => PyData.list (r.map PyData.int))
theorem lay_rws : ∀ rs : List (List Int), PyData.canLayAll0 (rs.map fun r => PyData.list (r.map PyData.int)) = true ∧ PyData.depthAll (rs.map fun r => PyData.list (r.map PyData.int)) ≤ 2
  | [] => ⟨rfl, by simp [PyData.depthAll]⟩
  | r :: rs => by
    obtain ⟨h1, h2⟩ := lay_rws rs
    have h3 := canLay_ints r
    have h4 := depth_ints r
    refine ⟨by simp only [List.map_cons, PyData.canLayAll0, PyData.canLay0, h1, h3, Bool.and_self], ?_⟩
    simp only [List.map_cons, PyData.depthAll, PyData.depth]
    omega
theorem shaped_rws (rs : List (List Int)) : SeqAt.shaped (rwsD rs) = true := by
  obtain ⟨h1, h2⟩ := lay_rws rs
  unfold SeqAt.shaped rwsD
  rw [Bool.and_eq_true, decide_eq_true_iff]
  refine ⟨by simp only [PyData.canLay0, h1], ?_⟩
  simp only [PyData.depth]
  omega
theorem ref_at {as : List Addr} {i : Nat} {x : V} (h : (as.map V.ref)[i]? = some x) : ∃ a, as[i]? = some a ∧ x = .ref a := by
  rw [List.getElem?_map] at h
  obtain ⟨a, h1, rfl⟩ := Option.map_eq_some_iff.mp h
  exact ⟨a, h1, rfl⟩
def sp_law (K : PySem.W.Frag) : Sp := fun vs H Q _ => ∃ (a : Addr) (ns : List Int), vs = [.ref a] ∧ SqL K H a (ns.map V.int) ∧ ns.length ≤ 63 ∧ ∀ H', Q (.bl true) H'
theorem ok_law (T : TX K mg) : FnOk P w K mg base CX0 3 T.a_law T.d_law ["script"] (sp_law K) := by
  refine T.F_law.ok sc_law (fun vs H Q E h => by obtain ⟨a, ns, rfl, _⟩ := h; rfl) (fun cdv A outer s0 H vs Q E hr h => ?_)
  obtain ⟨a, ns, rfl, hS, hlen, k⟩ := h
  refine ⟨_, (pss_cons (ps_set (i := 1) sc_law.nd rfl (Or.inl rfl) (pe_call (ok_law_draw T) (hr.mono (by decide)) (by rfl) T.g_law_draw T.F_law_draw.kp T.b_law_draw .nil pass0 (pa_cons (pe_call (ok_law_cell T) (hr.mono (by decide)) (by rfl) T.g_law_cell T.F_law_cell.kp T.b_law_cell .nil pass0 (pa_cons (pv 0) (pa_cons pe_int pa_nil))) (pa_cons pe_int (pa_cons (pe_op op_shl pe_int pe_int) pa_nil)))))
      (pss_cons (ps_set (i := 2) sc_law.nd rfl (Or.inl rfl) (pe_op op_add pe_int (pe_op op_mod (pe_ix (r := rIxL K) ix_list (pv 1) pe_int (fun _ _ => rfl)) pe_int)))
      (pss_cons (ps_set (i := 3) sc_law.nd rfl (Or.inr rfl) (pe_op op_mod (pe_ix (r := rIxL K) ix_list (pv 1) pe_int (fun _ _ => rfl)) pe_int))
      (pss_cons (ps_set (i := 4) sc_law.nd rfl (Or.inr rfl) (pe_op op_add pe_int (pe_op op_mod (pe_ix (r := rIxL K) ix_list (pv 1) pe_int (fun _ _ => rfl)) pe_int)))
      (pss_cons (ps_setLc (i := 6) (own := [("k", 5)]) (g := gName 5) (tt := tYes) rfl sc_law.nd rfl rfl (sw_true rfl rfl rfl (by decide +kernel)) (pi_range1 (by rfl) T.m_range (pa_cons (pv 2) pa_nil)) (blkOk_by (N := ["script", "sizes", "count", "size", "depth", "k", "channels", "row", "handed", "data", "many", "expected", "at"]) (sc := defScope s_law) (by decide +kernel)) (fun _ _ _ _ _ => pg_name (i := 5) sc_law.nd rfl (Or.inl rfl)) (fun _ _ _ _ _ => pts_nil) (fun _ _ _ _ _ => (pe_call (ok_law_channel T) (hr.mono (by decide)) (by rfl) T.g_law_channel T.F_law_channel.kp T.b_law_channel .nil pass0 (pa_cons (pe_call (ok_law_cell T) (hr.mono (by decide)) (by rfl) T.g_law_cell T.F_law_cell.kp T.b_law_cell .nil pass0 (pa_cons (pv 0) (pa_cons (pe_op op_add pe_int (pv 5)) pa_nil))) (pa_cons (pv 3) (pa_cons (pv 4) pa_nil))))))
      (pss_cons (ps_setLc (i := 8) (own := [("row", 7)]) (g := gName 7) (tt := tYes) rfl sc_law.nd rfl rfl (sw_true rfl rfl rfl (by decide +kernel)) (pi_list (pv 6)) (blkOk_by (N := ["script", "sizes", "count", "size", "depth", "k", "channels", "row", "handed", "data", "many", "expected", "at"]) (sc := defScope s_law) (by decide +kernel)) (fun _ _ _ _ _ => pg_name (i := 7) sc_law.nd rfl (Or.inl rfl)) (fun _ _ _ _ _ => pts_nil) (fun _ _ _ _ _ => (pe_callTy (r := rListS K) call_list_of (by rfl) T.m_list PyProof.Rows.boot_list (pa_cons (pv 7) pa_nil))))
      (pss_cons (ps_set (i := 9) sc_law.nd rfl (Or.inl rfl) (pe_call (ok_sample_bytes T) (hr.mono (by decide)) (by rfl) T.g_sample_bytes T.F_sample_bytes.kp T.b_sample_bytes .nil pass0 (pa_cons (pv 8) (pa_cons (pv 4) pa_nil))))
      (pss_cons (ps_set (i := 10) sc_law.nd rfl (Or.inl rfl) (pe_op op_fdiv (pe_op op_add (pv 4) pe_int) pe_int))
      (pss_cons (ps_if (PW.pt (pw_or (pt_not (pt_val (pe_callB (r := rIsi K) call_isi (by rfl) T.m_isinstance PyProof.Rows.boot_isinstance (pa_cons (pv 9) (pa_cons (pe_bltn (v := V.ty "list") (by rfl) T.m_list PyProof.Rows.boot_list rfl) pa_nil))))) (pw_or (pt_cmpR op_ne (pe_callB (r := rLenS K) call_len_seq (by rfl) T.m_len PySem.boot_len (pa_cons (pv 9) pa_nil)) (pe_op op_mul (pe_op op_mul (pv 2) (pv 3)) (pv 10)) (nomark _)) (pw_or1 (pt_cmpR (op_neD (hu64 hr)) (pv 8) (pv 6) (nomark _)))))) (pss_one (ps_ret pe_bl)) pss_nil)
      (pss_cons (ps_set (i := 11) sc_law.nd rfl (Or.inl rfl) (pe_lst pa_nil))
      (pss_cons (ps_for PassesOwn.never rfl (pi_range1 (by rfl) T.m_range (pa_cons (pv 3) pa_nil)) (pg_name (i := 12) sc_law.nd rfl (Or.inr rfl)) (pss_one (ps_for PassesOwn.never rfl (pi_list (pv 6)) (pg_name (i := 7) sc_law.nd rfl (Or.inr rfl)) (pss_one (ps_set (i := 11) sc_law.nd rfl (Or.inl rfl) (pe_op op_cat (pv 11) (pe_lc (own := [("k", 5)]) (g := gName 5) (tt := tYes) rfl sc_law.nd (pi_range1 (by rfl) T.m_range (pa_cons (pv 10) pa_nil)) (blkOk_by (N := ["script", "sizes", "count", "size", "depth", "k", "channels", "row", "handed", "data", "many", "expected", "at"]) (sc := defScope s_law) (by decide +kernel)) (fun _ _ _ _ _ => pg_name (i := 5) sc_law.nd rfl (Or.inl rfl)) (fun _ _ _ _ _ => pts_nil) (fun _ _ _ _ _ => (pe_op op_and (pe_op op_shr (pe_ix (r := rIxL K) ix_list (pv 7) (pv 12) (fun _ _ => rfl)) (pe_op op_mul pe_int (pv 5))) pe_int)))))))))
      (pss_cons (ps_if (pt_not (pt_val (pe_call (ok_law_same T) (hr.mono (by decide)) (by rfl) T.g_law_same T.F_law_same.kp T.b_law_same .nil pass0 (pa_cons (pv 9) (pa_cons (pv 11) pa_nil))))) (pss_one (ps_ret pe_bl)) pss_nil)
      (pss_cons (ps_for PassesOwn.never rfl (pi_range1 (by rfl) T.m_range (pa_cons (pv 3) pa_nil)) (pg_name (i := 12) sc_law.nd rfl (Or.inr rfl)) (pss_one (ps_for PassesOwn.never rfl (pi_range1 (by rfl) T.m_range (pa_cons (pv 2) pa_nil)) (pg_name (i := 5) sc_law.nd rfl (Or.inl rfl)) (pss_one (ps_if (pt_cmpR op_ne (pe_call (ok_law_read T) (hr.mono (by decide)) (by rfl) T.g_law_read T.F_law_read.kp T.b_law_read .nil pass0 (pa_cons (pv 9) (pa_cons (pe_op op_mul (pe_op op_add (pe_op op_mul (pv 12) (pv 2)) (pv 5)) (pv 10)) (pa_cons (pv 10) pa_nil)))) (pe_ix (r := rIxL K) ix_list (pe_ix (r := rIxL K) ix_list (pv 6) (pv 5) (fun _ _ => rfl)) (pv 12) (fun _ _ => rfl)) (nomark _)) (pss_one (ps_ret pe_bl)) pss_nil)))))
      (pss_one (ps_ret pe_bl))))))))))))))), ?_⟩
  have cell : ∀ (H' : Hp) (σ : L2.St) (E : XK) (i : Int), σ[0]? = some (some (.ref a)) → Ex H H' → 0 ≤ i → Ev (tCall (sp_cell K) [] E (tCons (tVar 0) (tCons (tC (.int i)) tNil))) σ H' (.int (cellI ns i)) := fun H' σ E i hσ e hi => ev_cell (ev_var hσ) (ex_l e hS) ev_c hi
  have sh : ∀ {σ : L2.St} {G : Hp} {t : TE} {j : Nat}, Ev t σ G (.int (j : Int)) → j ≤ 1000 → Ev (tOp (rI CPow fun i j => .int (i * 2 ^ j.toNat)) (tC (.int 1)) t) σ G (.int (2 ^ j)) := fun h hj => Ev.is (SH.ev_shl1 h hj) (by rw [Int.toNat_natCast, Int.one_mul])
  refine q_asgC (vs := [.int (cellI ns 0), .int 3, .int (2 ^ 20)]) (ea_cons (cell H _ _ 0 rfl (Ex.refl _) (by decide)) (ea_cons ev_c (ea_cons (sh (j := 20) ev_c (by decide)) ea_nil))) fun H1 e1 => ⟨_, 3, 2 ^ 20, rfl, by decide, by decide, by decide, by decide, fun ps sz H2 hps e2 gs hsl hsb => ?_⟩
  obtain ⟨s1, s2, s3, rfl⟩ : ∃ s1 s2 s3, sz = [s1, s2, s3] := by
    match sz, hsl with
    | [x, y, z], _ => exact ⟨x, y, z, rfl⟩
  have six : ∀ {σ : L2.St} {G : Hp} {i : Int} {v : V}, Ex H2 G → σ[1]? = some (some (.ref ps)) → atI ([s1, s2, s3].map V.int) i = some v → Ev (tOp (rIxL K) (tVar 1) (tC (.int i))) σ G v := fun e h ha => ev_at (Ev.s (ev_var h) (sq_of (e _ _ gs))) ev_c ha
  obtain ⟨cn, hcn⟩ : ∃ cn : Nat, 1 + s1 % 8 = (cn : Int) := ⟨(1 + s1 % 8).toNat, by omega⟩
  obtain ⟨n, hn⟩ : ∃ n : Nat, s2 % 9 = (n : Int) := ⟨(s2 % 9).toNat, by omega⟩
  obtain ⟨D, hD⟩ : ∃ D : Nat, 4 + s3 % 29 = (D : Int) := ⟨(4 + s3 % 29).toNat, by omega⟩
  have md : ∀ {σ : L2.St} {G : Hp} {t : TE} {x m : Int}, 0 < m → Ev t σ G (.int x) → Ev (tOp (rI (fun _ j => 0 < j) fun i j => .int (i % j)) t (tC (.int m))) σ G (.int (x % m)) := fun hm h => ev_I h ev_c hm
  refine q_asg (v := .int (cn : Int)) (Ev.is (ev_I0 (g := fun i j => .int (i + j)) ev_c (md (by decide) (six (Ex.refl _) rfl (at_of (j := 0) rfl rfl)))) (congrArg V.int hcn)) fun H3 e3 => ?_
  refine q_asg (v := .int (n : Int)) (Ev.is (md (by decide) (six e3 rfl (at_of (j := 1) rfl rfl))) (congrArg V.int hn)) fun H4 e4 => ?_
  refine q_asg (v := .int (D : Int)) (Ev.is (ev_I0 (g := fun i j => .int (i + j)) ev_c (md (by decide) (six (e3.trans e4) rfl (at_of (j := 2) rfl rfl)))) (congrArg V.int hD)) fun H5 e5 => ?_
  have e15 := e1.trans (e2.trans (e3.trans (e4.trans e5)))
  show tSeq _ _ _ [some (.ref a), some (.ref ps), some (.int (cn : Int)), some (.int (n : Int)), some (.int (D : Int)), none, none, none, none, none, none, none, none] _
  refine q_goT (tlc_rngE (n := (cn : Int)) (ea_cons (ev_var rfl) ea_nil) (by omega) fun H6 e6 L hL => ⟨fun i H' => ∃ (as : List Addr) (rs : List (List Int)), Ex H6 H' ∧ H' L = some (.lst (as.map V.ref)) ∧ as.length = i ∧ RwAt H' as rs ∧ (∀ b ∈ as, b ≠ L) ∧ (∀ r ∈ rs, r.length = n ∧ ∀ x ∈ r, -(2 ^ (D - 1)) ≤ x ∧ x < 2 ^ (D - 1)), ⟨[], [], Ex.new hL, upd_same, rfl, ⟨rfl, (fun j b r h _ => by cases h)⟩, (fun b hb => by cases hb), (fun r hr => by cases hr)⟩, fun i H' hi h => ⟨rfl, ?_⟩, fun H7 h => ?_⟩)
  · obtain ⟨as, rs, ex, gL, hal, hR, hne, hrs⟩ := h
    refine ea_go (vs := [.int (cellI ns (1 + (i : Int))), .int (n : Int), .int (D : Int)]) (ea_cons (ev_cell (ev_var rfl) (ex_l (e15.trans (e6.trans ex)) hS) (ev_I0 (g := fun i j => .int (i + j)) ev_c (ev_var rfl)) (by omega)) (ea_cons (ev_var rfl) (ea_cons (ev_var rfl) ea_nil))) fun G eG => ⟨_, n, D, rfl, by omega, by omega, by omega, fun p r H7 hp e7 gp hrl hrb => ?_⟩
    have e07 := eG.trans e7
    have gL7 := e07 _ _ gL
    have hpL : p ≠ L := by rintro rfl; rw [eG _ _ gL] at hp; cases hp
    refine ⟨_, gL7, sz_lt (by rw [List.length_map, hal]; omega), as ++ [p], rs ++ [r], Ex.mut (ex.trans e07) hL, by rw [upd_same, List.map_append]; rfl, by rw [List.length_append, hal]; rfl, ?_, fun b hb => ?_, fun q hq => ?_⟩
    · exact ((hR.mut e07 hne).snoc (by rw [upd_ne hpL]; exact gp))
    · rcases List.mem_append.mp hb with hb | hb
      · exact hne b hb
      · rw [List.mem_singleton.mp hb]; exact hpL
    · rcases List.mem_append.mp hq with hq | hq
      · exact hrs q hq
      · rw [List.mem_singleton.mp hq]; exact ⟨hrl, hrb⟩
  obtain ⟨as, rs, e7, gL, hal, hR, _, hrs⟩ := h
  rw [Int.toNat_natCast] at hal
  have hrl : rs.length = cn := by rw [← hR.1, hal]
  show tSeq _ _ _ [some (.ref a), some (.ref ps), some (.int (cn : Int)), some (.int (n : Int)), some (.int (D : Int)), none, some (.ref L), none, none, none, none, none, none] _
  refine q_goT (tlc_lstM (K := K) (Ev.s (ev_var rfl) (sq_of gL)) fun p H8 e8 hp L2 hL2 => ⟨fun i H' => ∃ as2 : List Addr, Ex H8 H' ∧ SqL K H' p (as.map V.ref) ∧ H' L2 = some (.lst (as2.map V.ref)) ∧ RwAt H' as2 (rs.take i) ∧ ∀ b ∈ as2, b ≠ L2, ⟨[], Ex.new hL2, ex_l (Ex.new hL2) hp, upd_same, ⟨by rw [List.take_zero]; rfl, (fun j b r h _ => by cases h)⟩, (fun b hb => by cases hb)⟩, fun i H' h => by obtain ⟨_, _, h, _⟩ := h; exact h, fun i x H' hx h => ⟨rfl, ?_⟩, fun H9 h => ?_⟩)
  · obtain ⟨as2, ex, hp', gL2, hR2, hne2⟩ := h
    obtain ⟨b, hb, rfl⟩ := ref_at hx
    have hbi := (List.getElem?_eq_some_iff.mp hb).1
    have hri : rs[i]? = some (rs[i]'(by omega)) := List.getElem?_eq_getElem _
    have gb := hR.2 i b _ hb hri
    refine el_go (el_of (K := K) (Ev.s (ev_var rfl) (sq_of ((e8.trans ex) _ _ gb)))) fun p2 H9 hp2 e9 gp2 => ?_
    have hpL : p2 ≠ L2 := by rintro rfl; rw [gL2] at hp2; cases hp2
    have hl2 : as2.length ≤ 8 := by have := hR2.1; rw [List.length_take] at this; omega
    refine ⟨_, e9 _ _ gL2, sz_lt (by rw [List.length_map]; omega), as2 ++ [p2], Ex.mut (ex.trans e9) hL2, ex_l (Ex.mut (ex.trans e9) hL2) hp, by rw [upd_same, List.map_append]; rfl, ?_, fun q hq => ?_⟩
    · rw [List.take_add_one, hri]
      exact (hR2.mut e9 hne2).snoc (by rw [upd_ne hpL]; exact gp2)
    · rcases List.mem_append.mp hq with hq | hq
      · exact hne2 q hq
      · rw [List.mem_singleton.mp hq]; exact hpL
  obtain ⟨as2, ex9, _, gL2, hR2, _⟩ := h
  rw [List.length_map, hR.1, List.take_length] at hR2
  have e79 := e8.trans ex9
  have gL9 := e79 _ _ gL
  have hR9 := hR.ex e79
  have hcn8 : 1 ≤ cn ∧ cn ≤ 8 := by omega
  have hn8 : n ≤ 8 := by omega
  have hD32 : 4 ≤ D ∧ D ≤ 32 := by omega
  have hal2 : as2.length = cn := by rw [hR2.1, hrl]
  obtain ⟨m, hm⟩ : ∃ m, (D + 7) / 8 = m := ⟨_, rfl⟩
  have hm4 : 1 ≤ m ∧ m ≤ 4 := by omega
  show tSeq _ _ _ [some (.ref a), some (.ref ps), some (.int (cn : Int)), some (.int (n : Int)), some (.int (D : Int)), none, some (.ref L), none, some (.ref L2), none, none, none, none] _
  refine q_asgC (vs := [.ref L2, .int (D : Int)]) (ea_cons (ev_var rfl) (ea_cons (ev_var rfl) ea_nil)) fun H10 e10 => ⟨L2, as2, rs, D, n, rfl, e10 _ _ gL2, hR2.ex e10, (fun r hr => (hrs r hr).1), (by intro h; rw [h] at hal2; simp at hal2; omega), by omega, hn8, hD32.2, fun pd H11 hpd e11 gd => ?_⟩
  rw [hm] at gd
  have hdl : (outB rs m n).length = n * (cn * m) := by rw [outB_len, hrl]
  have hdl2 : (outB rs m n).length ≤ 256 := by
    rw [hdl]
    exact Nat.le_trans (Nat.mul_le_mul hn8 (Nat.mul_le_mul hcn8.2 hm4.2)) (by decide)
  have e911 := e10.trans e11
  refine q_asg (v := .int (m : Int)) (Ev.is (ev_I (ev_I0 (g := fun i j => .int (i + j)) (ev_var rfl) ev_c) ev_c ⟨by decide, by decide⟩) (congrArg V.int (by omega))) fun H12 e12 => ?_
  have e912 := e911.trans e12
  have gd12 := e12 _ _ gd
  have dpL : ∀ {G : Hp} {b : Addr} {bs : List Addr}, G b = some (.lst (bs.map V.ref)) → RwAt G bs rs → Dp K G (.ref b) (rwsD rs) := fun g h => .lst (sq_of g) (dp_rws h)
  refine q_when (b := false) (et_is (et_or (a := false) (b := false) (et_is (et_not (et_B (ev_isiL (ev_var rfl) gd12))) rfl) fun _ => et_or (a := false) (b := false) (et_is (et_test (ev_ne (x := .int ((n * (cn * m) : Nat) : Int)) (y := .int ((n * (cn * m) : Nat) : Int)) (Ev.is (ev_lenS (K := K) (Ev.s (ev_var rfl) (sq_of gd12))) (by rw [List.length_map, hdl])) (Ev.is (ev_I (ev_I (ev_var rfl) (ev_var rfl) (.inl (by omega))) (ev_var rfl) (.inr (by omega))) (congrArg V.int (by rw [Int.natCast_mul, Int.natCast_mul, ← Int.mul_assoc, Int.mul_comm (cn : Int) (n : Int)]))) rfl)) (by rw [decide_eq_true rfl]; rfl)) fun _ => et_is (et_test (ev_neDD (K := K) (d := rwsD rs) (EvD.of (ev_var rfl) (dpL (e912 _ _ gL2) (hR2.ex e912))) (EvD.of (ev_var rfl) (dpL (e912 _ _ gL9) (hR9.ex e912))) (shaped_rws rs))) rfl) rfl) (fun hb => by cases hb) fun _ H13 e13 => ?_
  refine q_asgL (xs := []) (el_lst ea_nil (by decide)) fun pe H14 hpe e14 ge => ?_
  have e914 := e912.trans (e13.trans e14)
  have gL14 := e914 _ _ gL9
  have hR14 := hR9.ex e914
  have gd14 := (e13.trans e14) _ _ gd12
  clear e1 e2 e3 e4 e5 e6 e7 e8 e10 e11 e12 e13 e14 e79 e911 e912 e914 gd gd12 gL9 gL hR hR9 hR2 gL2
  show tSeq _ _ _ [some (.ref a), some (.ref ps), some (.int (cn : Int)), some (.int (n : Int)), some (.int (D : Int)), none, some (.ref L), none, some (.ref L2), some (.ref pd), some (.int (m : Int)), some (.ref pe), none] _
  refine q_forR1 (n := (n : Int)) (ea_cons (ev_var rfl) ea_nil) (by omega) (fun i σ' H' => ∃ (pe : Addr) (z5 z7 z12 : Option V), σ' = [some (.ref a), some (.ref ps), some (.int (cn : Int)), some (.int (n : Int)), some (.int (D : Int)), z5, some (.ref L), z7, some (.ref L2), some (.ref pd), some (.int (m : Int)), some (.ref pe), z12] ∧ Ex H14 H' ∧ H' pe = some (.lst ((outB rs m i).map V.int))) (fun H15 e15 => ⟨pe, none, none, none, rfl, e15, e15 _ _ ge⟩) ?_ ?_
  · rintro i σ' H15 hi ⟨pe, z5, z7, z12, rfl, e15, ge⟩
    have hil : (outB rs m i).length ≤ 256 := by
      rw [outB_len, hrl]
      exact Nat.le_trans (Nat.mul_le_mul (show i ≤ 8 by omega) (Nat.mul_le_mul hcn8.2 hm4.2)) (by decide)
    refine s_forLn (K := K) (a := L) (xs := as.map V.ref) (ev_var rfl) (sq_of (e15 _ _ gL14)) (fun j σ' H' => ∃ (pe : Addr) (z5 z7 : Option V), σ' = [some (.ref a), some (.ref ps), some (.int (cn : Int)), some (.int (n : Int)), some (.int (D : Int)), z5, some (.ref L), z7, some (.ref L2), some (.ref pd), some (.int (m : Int)), some (.ref pe), some (.int (i : Int))] ∧ Ex H14 H' ∧ H' pe = some (.lst ((outB rs m i ++ ((col rs i).take j).flatMap fun x => lowB x m).map V.int))) (fun H16 e16 => ⟨pe, z5, z7, rfl, e15.trans e16, by rw [List.take_zero, List.flatMap_nil, List.append_nil]; exact e16 _ _ ge⟩) (fun j σ' H' _ h => by obtain ⟨_, _, _, _, ex, _⟩ := h; exact sq_of (ex _ _ gL14)) ?_ ?_
    · rintro j x σ' H16 hx ⟨pe, z5, z7, rfl, e16, ge⟩
      obtain ⟨b, hb, rfl⟩ := ref_at hx
      have hbi := (List.getElem?_eq_some_iff.mp hb).1
      have hri : rs[j]? = some (rs[j]'(by omega)) := List.getElem?_eq_getElem _
      have gb := e16 _ _ (hR14.2 j b _ hb hri)
      have hrn := (hrs _ (List.mem_of_getElem? hri)).1
      generalize rs[j]'(by omega) = r at *
      have hc : (col rs i)[j]? = some (gx0 r i) := by unfold col; rw [List.getElem?_map, hri]; rfl
      have hri2 : r[i]? = some (gx0 r i) := by unfold gx0; rw [List.getD_eq_getElem?_getD, List.getElem?_eq_getElem (show i < r.length by omega)]; rfl
      have hlt : (((col rs i).take j).flatMap fun x => lowB x m).length ≤ 32 := by
        rw [flat_lenI (m := m) (fun x => lowB_len x m), List.length_take, col_len]
        exact Nat.le_trans (Nat.mul_le_mul (show min j rs.length ≤ 8 by omega) hm4.2) (by decide)
      refine s_asgL (xs := (outB rs m i ++ ((col rs i).take (j + 1)).flatMap fun x => lowB x m).map V.int) (EvL.is (el_cat (xs := (outB rs m i ++ ((col rs i).take j).flatMap fun x => lowB x m).map V.int) (Ev.r (ev_var rfl) ge) (EvL.r (el_lcR (n := (m : Int)) ((lowB (gx0 r i) m).map V.int) (ea_cons (ev_var rfl) ea_nil) (by omega) (by rw [List.length_map, lowB_len]; omega) (by rw [List.length_map, lowB_len]; omega) (fun _ => rfl) fun q G eG hq => ?_)) (by rw [List.length_map, List.length_map, List.length_append, lowB_len]; omega)) (by rw [flat_snocI (f := fun x => lowB x m) hc, ← List.append_assoc, List.map_append (l₂ := lowB (gx0 r i) m)])) fun pe2 H17 hpe2 e17 g17 => ⟨pe2, _, _, rfl, e16.trans e17, g17⟩
      rw [List.length_map, lowB_len] at hq
      refine ⟨_, at_int (n := gx0 r i / 2 ^ (8 * q) % 256) (by unfold lowB; rw [List.getElem?_map, List.getElem?_range hq]; rfl), Ev.is (ev_I0 (ev_I (j := ((8 * q : Nat) : Int)) (ev_at (K := K) (n := (i : Int)) (Ev.s (ev_var rfl) (sq_of (eG _ _ gb))) (ev_var rfl) (at_of (j := i) rfl (at_int hri2))) (Ev.is (ev_I ev_c (ev_var rfl) (.inl (by decide))) (congrArg V.int (by omega))) (by show (0 : Int) ≤ _; omega)) ev_c) (congrArg V.int ?_)⟩
      rw [Int.toNat_natCast]
      exact bitAnd_maskZ _ 8
    · rintro σ' H16 ⟨pe, z5, z7, rfl, e16, ge⟩
      refine ⟨pe, _, _, _, rfl, e16, ?_⟩
      rw [List.length_map, hR14.1, ← col_len rs i, List.take_length] at ge
      rw [outB_succ]
      exact ge
  · rintro σ' H15 ⟨pe, z5, z7, z12, rfl, e15, ge⟩
    rw [Int.toNat_natCast] at ge
    refine q_when (b := false) (et_is (et_not (et_B (ev_same (Ev.r (ev_var rfl) (e15 _ _ gd14)) (Ev.r (ev_var rfl) ge) (by omega)))) rfl) (fun hb => by cases hb) fun _ H16 e16 => ?_
    have e1416 := e15.trans e16
    refine q_forR1 (n := (n : Int)) (ea_cons (ev_var rfl) ea_nil) (by omega) (fun i σ' H' => ∃ (z5 z7 z12 : Option V), σ' = [some (.ref a), some (.ref ps), some (.int (cn : Int)), some (.int (n : Int)), some (.int (D : Int)), z5, some (.ref L), z7, some (.ref L2), some (.ref pd), some (.int (m : Int)), some (.ref pe), z12] ∧ Ex H14 H') (fun H17 e17 => ⟨z5, z7, z12, rfl, e1416.trans e17⟩) ?_ ?_
    · rintro i σ' H17 hi ⟨z5, z7, z12, rfl, e17⟩
      refine s_forR1 (n := (cn : Int)) (ea_cons (ev_var rfl) ea_nil) (by omega) (fun j σ' H' => ∃ z5 : Option V, σ' = [some (.ref a), some (.ref ps), some (.int (cn : Int)), some (.int (n : Int)), some (.int (D : Int)), z5, some (.ref L), z7, some (.ref L2), some (.ref pd), some (.int (m : Int)), some (.ref pe), some (.int (i : Int))] ∧ Ex H14 H') (fun H18 e18 => ⟨z5, rfl, e17.trans e18⟩) ?_ ?_
      · rintro j σ' H18 hj ⟨z5, rfl, e18⟩
        have hri : rs[j]? = some (rs[j]'(by omega)) := List.getElem?_eq_getElem _
        have hai : as[j]? = some (as[j]'(by omega)) := List.getElem?_eq_getElem _
        have gb := e18 _ _ (hR14.2 j _ _ hai hri)
        obtain ⟨hrn, hrb⟩ := hrs _ (List.mem_of_getElem? hri)
        generalize rs[j]'(by omega) = r at *
        generalize as[j]'(by omega) = b at *
        have hri2 : r[i]? = some (gx0 r i) := by unfold gx0; rw [List.getD_eq_getElem?_getD, List.getElem?_eq_getElem (show i < r.length by omega)]; rfl
        have hxb := hrb _ (List.mem_of_getElem? hri2)
        have hpw : (2 : Int) ^ (D - 1) ≤ 2 ^ (8 * m - 1) := by
          have := Int.ofNat_le.mpr (Nat.pow_le_pow_right (n := 2) (by decide) (show D - 1 ≤ 8 * m - 1 by omega))
          rwa [Int.natCast_pow, Int.natCast_pow] at this
        have hps : (i * cn + j) * m ≤ 1000 := Nat.le_trans (Nat.mul_le_mul (show i * cn + j ≤ 72 by have := Nat.mul_le_mul (show i ≤ 8 by omega) hcn8.2; omega) hm4.2) (by decide)
        refine s_when (b := false) (et_is (et_test (ev_ne (x := .int (gx0 r i)) (y := .int (gx0 r i)) (ev_call (vs := [.ref pd, .int (((i * cn + j) * m : Nat) : Int), .int (m : Int)]) (ea_cons (ev_var rfl) (ea_cons (Ev.is (ev_I (ev_I0 (g := fun i j => .int (i + j)) (ev_I (ev_var rfl) (ev_var rfl) (.inl (by omega))) (ev_var rfl)) (ev_var rfl) (.inr (by omega))) (congrArg V.int (by rw [Int.natCast_mul, Int.natCast_add, Int.natCast_mul]))) (ea_cons (ev_var rfl) ea_nil))) fun G e Q2 q2 _ => ⟨pd, outB rs m n, (i * cn + j) * m, m, gx0 r i, rfl, (e18.trans e) _ _ gd14, hm4.1, hm4.2, hps, (fun q hq => by rw [← hrl]; exact outB_at (by omega) hri hq), by omega, by omega, q2⟩) (ev_at (K := K) (n := (i : Int)) (xs := r.map V.int) (Ev.s (ev_at (K := K) (n := (j : Int)) (xs := as.map V.ref) (v := .ref b) (Ev.s (ev_var rfl) (sq_of (e18 _ _ gL14))) (ev_var rfl) (at_of (j := j) rfl (by rw [List.getElem?_map, hai]; rfl))) (sq_of gb)) (ev_var rfl) (at_of (j := i) rfl (at_int hri2))) rfl)) (by rw [decide_eq_true rfl]; rfl)) (fun hb => by cases hb) fun _ H19 e19 => ⟨_, rfl, e18.trans e19⟩
      · rintro σ' H18 ⟨z5, rfl, e18⟩
        exact ⟨_, _, _, rfl, e18⟩
    · rintro σ' H17 ⟨z5, z7, z12, rfl, e17⟩
      exact s_ret (v := .bl true) ev_c fun H18 _ => k _

end
set_option maxHeartbeats 0 in
theorem all_mk {l : PySem.W.OpenLaw} {w : World} {K : PySem.W.Frag} {h : Heap} {mg : Str → Option Value} {fa : Addr} {f1 f2 f3 f4 f5 f6 f7 f8 f9 : Addr} (X : K.In h) (G : h.Ns mainGlobals mg) (hfa : mg "law" = some (.ref fa))
    {od1 an1 : Option Addr} {sl1 : Array (Option Value)} {oc1 dc1 pm1 cd1 ct1 : Value} {kV1 : Value} {od2 an2 : Option Addr} {sl2 : Array (Option Value)} {oc2 dc2 pm2 cd2 ct2 : Value} {kV2 : Value} {od3 an3 : Option Addr} {sl3 : Array (Option Value)} {oc3 dc3 pm3 cd3 ct3 : Value} {kV3 : Value} {od4 an4 : Option Addr} {sl4 : Array (Option Value)} {oc4 dc4 pm4 cd4 ct4 : Value} {kV4 : Value} {od5 an5 : Option Addr} {sl5 : Array (Option Value)} {oc5 dc5 pm5 cd5 ct5 : Value} {kV5 : Value} {od6 an6 : Option Addr} {sl6 : Array (Option Value)} {oc6 dc6 pm6 cd6 ct6 : Value} {kV6 : Value} {od7 an7 : Option Addr} {sl7 : Array (Option Value)} {oc7 dc7 pm7 cd7 ct7 : Value} {kV7 : Value} {od8 an8 : Option Addr} {sl8 : Array (Option Value)} {oc8 dc8 pm8 cd8 ct8 : Value} {kV8 : Value} {od9 an9 : Option Addr} {sl9 : Array (Option Value)} {oc9 dc9 pm9 cd9 ct9 : Value} {kV9 : Value}
    (a1 : PySem.W.nsIn K mainGlobals "sample_bytes" = some (some (.ref f1)))
    (l1 : K.lookup f1 = some ⟨oc1, od1, .func (PySem.W.fnOf "sample_bytes" "sample_bytes" (defArgs s_sample_bytes) (defBody s_sample_bytes) (defScope s_sample_bytes) .none kV1 dc1 pm1 an1 cd1 ct1), sl1⟩) (c1 : PySem.W.codeIn K cd1 "sample_bytes" = true) (k1 : PySem.W.keepIn K (.ref f1) = true)
    (a2 : PySem.W.nsIn K mainGlobals "_low_bytes" = some (some (.ref f2)))
    (l2 : K.lookup f2 = some ⟨oc2, od2, .func (PySem.W.fnOf "_low_bytes" "_low_bytes" (defArgs s_low_bytes) (defBody s_low_bytes) (defScope s_low_bytes) .none kV2 dc2 pm2 an2 cd2 ct2), sl2⟩) (c2 : PySem.W.codeIn K cd2 "_low_bytes" = true) (k2 : PySem.W.keepIn K (.ref f2) = true)
    (a3 : PySem.W.nsIn K mainGlobals "_law_draw" = some (some (.ref f3)))
    (l3 : K.lookup f3 = some ⟨oc3, od3, .func (PySem.W.fnOf "_law_draw" "_law_draw" (defArgs s_law_draw) (defBody s_law_draw) (defScope s_law_draw) .none kV3 dc3 pm3 an3 cd3 ct3), sl3⟩) (c3 : PySem.W.codeIn K cd3 "_law_draw" = true) (k3 : PySem.W.keepIn K (.ref f3) = true)
    (a4 : PySem.W.nsIn K mainGlobals "_law_is_integer" = some (some (.ref f4)))
    (l4 : K.lookup f4 = some ⟨oc4, od4, .func (PySem.W.fnOf "_law_is_integer" "_law_is_integer" (defArgs s_law_is_integer) (defBody s_law_is_integer) (defScope s_law_is_integer) .none kV4 dc4 pm4 an4 cd4 ct4), sl4⟩) (c4 : PySem.W.codeIn K cd4 "_law_is_integer" = true) (k4 : PySem.W.keepIn K (.ref f4) = true)
    (a5 : PySem.W.nsIn K mainGlobals "_law_same" = some (some (.ref f5)))
    (l5 : K.lookup f5 = some ⟨oc5, od5, .func (PySem.W.fnOf "_law_same" "_law_same" (defArgs s_law_same) (defBody s_law_same) (defScope s_law_same) .none kV5 dc5 pm5 an5 cd5 ct5), sl5⟩) (c5 : PySem.W.codeIn K cd5 "_law_same" = true) (k5 : PySem.W.keepIn K (.ref f5) = true)
    (a6 : PySem.W.nsIn K mainGlobals "_law_cell" = some (some (.ref f6)))
    (l6 : K.lookup f6 = some ⟨oc6, od6, .func (PySem.W.fnOf "_law_cell" "_law_cell" (defArgs s_law_cell) (defBody s_law_cell) (defScope s_law_cell) .none kV6 dc6 pm6 an6 cd6 ct6), sl6⟩) (c6 : PySem.W.codeIn K cd6 "_law_cell" = true) (k6 : PySem.W.keepIn K (.ref f6) = true)
    (a7 : PySem.W.nsIn K mainGlobals "_law_channel" = some (some (.ref f7)))
    (l7 : K.lookup f7 = some ⟨oc7, od7, .func (PySem.W.fnOf "_law_channel" "_law_channel" (defArgs s_law_channel) (defBody s_law_channel) (defScope s_law_channel) .none kV7 dc7 pm7 an7 cd7 ct7), sl7⟩) (c7 : PySem.W.codeIn K cd7 "_law_channel" = true) (k7 : PySem.W.keepIn K (.ref f7) = true)
    (a8 : PySem.W.nsIn K mainGlobals "_law_read" = some (some (.ref f8)))
    (l8 : K.lookup f8 = some ⟨oc8, od8, .func (PySem.W.fnOf "_law_read" "_law_read" (defArgs s_law_read) (defBody s_law_read) (defScope s_law_read) .none kV8 dc8 pm8 an8 cd8 ct8), sl8⟩) (c8 : PySem.W.codeIn K cd8 "_law_read" = true) (k8 : PySem.W.keepIn K (.ref f8) = true)
    (a9 : PySem.W.nsIn K mainGlobals "law" = some (some (.ref f9)))
    (l9 : K.lookup f9 = some ⟨oc9, od9, .func (PySem.W.fnOf "law" "law" (defArgs s_law) (defBody s_law) (defScope s_law) .none kV9 dc9 pm9 an9 cd9 ct9), sl9⟩) (c9 : PySem.W.codeIn K cd9 "law" = true) (k9 : PySem.W.keepIn K (.ref f9) = true)
    (z_zip : PySem.W.nsIn K mainGlobals "zip" = some none)
    (z_range : PySem.W.nsIn K mainGlobals "range" = some none)
    (z_int : PySem.W.nsIn K mainGlobals "int" = some none)
    (z_isinstance : PySem.W.nsIn K mainGlobals "isinstance" = some none)
    (z_bool : PySem.W.nsIn K mainGlobals "bool" = some none)
    (z_list : PySem.W.nsIn K mainGlobals "list" = some none)
    (z_len : PySem.W.nsIn K mainGlobals "len" = some none)
    : ∃ fd : FuncData, (∀ (s : Shared) (v : Value), BindsTo s fd ⟨[v], []⟩ [("script", v)]) ∧ ∀ base : Heap, K.In base → base.Ns mainGlobals mg → FnOk l.prog w K mg base CX0 3 fa fd ["script"] (sp_law K) := by
  have e := hfa.symm.trans (PySem.W.mg_of X G a9)
  cases e
  have F1 := fun_mk (st := s_sample_bytes) l1 c1 k1
  have b1 := F1.binds (ps := ["channels", "depth"]) fun _ _ _ _ _ _ us hl => match us, hl with | [_, _], _ => rfl
  have F2 := fun_mk (st := s_low_bytes) l2 c2 k2
  have b2 := F2.binds (ps := ["number", "count"]) fun _ _ _ _ _ _ us hl => match us, hl with | [_, _], _ => rfl
  have F3 := fun_mk (st := s_law_draw) l3 c3 k3
  have b3 := F3.binds (ps := ["cell", "many", "bound"]) fun _ _ _ _ _ _ us hl => match us, hl with | [_, _, _], _ => rfl
  have F4 := fun_mk (st := s_law_is_integer) l4 c4 k4
  have b4 := F4.binds (ps := ["actual"]) fun _ _ _ _ _ _ us hl => match us, hl with | [_], _ => rfl
  have F5 := fun_mk (st := s_law_same) l5 c5 k5
  have b5 := F5.binds (ps := ["actual", "expected"]) fun _ _ _ _ _ _ us hl => match us, hl with | [_, _], _ => rfl
  have F6 := fun_mk (st := s_law_cell) l6 c6 k6
  have b6 := F6.binds (ps := ["script", "k"]) fun _ _ _ _ _ _ us hl => match us, hl with | [_, _], _ => rfl
  have F7 := fun_mk (st := s_law_channel) l7 c7 k7
  have b7 := F7.binds (ps := ["cell", "many", "depth"]) fun _ _ _ _ _ _ us hl => match us, hl with | [_, _, _], _ => rfl
  have F8 := fun_mk (st := s_law_read) l8 c8 k8
  have b8 := F8.binds (ps := ["data", "at", "many"]) fun _ _ _ _ _ _ us hl => match us, hl with | [_, _, _], _ => rfl
  have F9 := fun_mk (st := s_law) l9 c9 k9
  have b9 := F9.binds (ps := ["script"]) fun _ _ _ _ _ _ us hl => match us, hl with | [_], _ => rfl
  let T : TX K mg := ⟨f1, _, F1, b1, (PySem.W.mg_of X G a1), f2, _, F2, b2, (PySem.W.mg_of X G a2), f3, _, F3, b3, (PySem.W.mg_of X G a3), f4, _, F4, b4, (PySem.W.mg_of X G a4), f5, _, F5, b5, (PySem.W.mg_of X G a5), f6, _, F6, b6, (PySem.W.mg_of X G a6), f7, _, F7, b7, (PySem.W.mg_of X G a7), f8, _, F8, b8, (PySem.W.mg_of X G a8), fa, _, F9, b9, (PySem.W.mg_of X G a9), (PySem.W.mg_none_of X G z_zip), (PySem.W.mg_none_of X G z_range), (PySem.W.mg_none_of X G z_int), (PySem.W.mg_none_of X G z_isinstance), (PySem.W.mg_none_of X G z_bool), (PySem.W.mg_none_of X G z_list), (PySem.W.mg_none_of X G z_len)⟩
  exact ⟨_, fun s v => .of_eq rfl, fun base _ _ => ok_law T⟩
end K09
open PySem PySem.W PyProof.Rows
set_option maxRecDepth 100000 in
set_option maxHeartbeats 0 in
theorem PySem.Challenge.cw_monochord_k09_bytes_of_samples_holds : PySem.Challenge.rw_monochord_k09_bytes_of_samples.Holds := by
  w_on; o_law; k_head; (case hw => w_witness2)
  k_fill
  refine L2.walk_of (l := PySem.Challenge.rw_monochord_k09_bytes_of_samples) (n := 63) (k := 3) (x := "script") (CX := fun _ => L2.CX0) (sp := fun w => K09.sp_law _) rfl (by decide) rfl ⟨rfl, by decide, by decide⟩ (fun w h Y => PySem.W.kIn_of Y) ?F (fun _ _ a ns hl _ hS => ⟨a, ns, rfl, hS, hl, fun _ => rfl⟩) (fun _ _ _ _ _ h => h)
  case F =>
    intro w mg fa h KX G hmg
    refine' K09.all_mk KX G hmg ?a1 ?l1 ?c1 ?k1 ?a2 ?l2 ?c2 ?k2 ?a3 ?l3 ?c3 ?k3 ?a4 ?l4 ?c4 ?k4 ?a5 ?l5 ?c5 ?k5 ?a6 ?l6 ?c6 ?k6 ?a7 ?l7 ?c7 ?k7 ?a8 ?l8 ?c8 ?k8 ?a9 ?l9 ?c9 ?k9 ?z_zip ?z_range ?z_int ?z_isinstance ?z_bool ?z_list ?z_len
    (case a1 => k_is)
    (case l1 => k_is)
    (case c1 => k_is)
    (case k1 => k_is)
    (case a2 => k_is)
    (case l2 => k_is)
    (case c2 => k_is)
    (case k2 => k_is)
    (case a3 => k_is)
    (case l3 => k_is)
    (case c3 => k_is)
    (case k3 => k_is)
    (case a4 => k_is)
    (case l4 => k_is)
    (case c4 => k_is)
    (case k4 => k_is)
    (case a5 => k_is)
    (case l5 => k_is)
    (case c5 => k_is)
    (case k5 => k_is)
    (case a6 => k_is)
    (case l6 => k_is)
    (case c6 => k_is)
    (case k6 => k_is)
    (case a7 => k_is)
    (case l7 => k_is)
    (case c7 => k_is)
    (case k7 => k_is)
    (case a8 => k_is)
    (case l8 => k_is)
    (case c8 => k_is)
    (case k8 => k_is)
    (case a9 => k_is)
    (case l9 => k_is)
    (case c9 => k_is)
    (case k9 => k_is)
    (case z_zip => k_is)
    (case z_range => k_is)
    (case z_int => k_is)
    (case z_isinstance => k_is)
    (case z_bool => k_is)
    (case z_list => k_is)
    (case z_len => k_is)
