import PyProof.Rows.All
import Wide.All
import OpenK.AllK
import Wide.FinOn
import HandS.ForMost
import HandS.Steps
import HandS.Evl
import HandS.IsInst
import HandS.Wide
import HandS.Defaults
import HandS.MakeKwOnly
import PyProof.P3Eq
import PySem.Challenge.RW_monochord_k72_blocks_of_audio
set_option Elab.async false
set_option linter.all false
set_option maxRecDepth 100000
set_option maxHeartbeats 4000000
namespace K72
open PySem PySem.Spec PyProof.Rows L2 Evl
def topS (i : Nat) : Stmt := PySem.Challenge.pw_monochord_k72_blocks_of_audio.main.body.getD i (.Pass ⟨0, 0, 0, 0⟩)
abbrev s_block_sizes : Stmt := topS 1
theorem sc_block_sizes : FnScope ["length", "settings", "pattern", "sizes", "left", "size"] ["length", "settings"] (defScope s_block_sizes) := ⟨rfl, rfl, rfl, by decide +kernel, rfl, by decide +kernel, by decide +kernel⟩
abbrev s_block_starts : Stmt := topS 2
theorem sc_block_starts : FnScope ["sizes", "starts", "start", "size"] ["sizes"] (defScope s_block_starts) := ⟨rfl, rfl, rfl, by decide +kernel, rfl, by decide +kernel, by decide +kernel⟩
abbrev s_size_range : Stmt := topS 3
theorem sc_size_range : FnScope ["length", "settings", "sizes"] ["length", "settings"] (defScope s_size_range) := ⟨rfl, rfl, rfl, by decide +kernel, rfl, by decide +kernel, by decide +kernel⟩
abbrev s_Settings_init : Stmt := inClass (topS 5) 0
theorem sc_Settings_init : FnScope ["self", "block_size", "block_sizes", "fixed_order", "linear_order", "search", "precision", "partition_order", "wide", "stereo", "wasted", "seek_interval", "vendor"] ["self", "block_size", "block_sizes", "fixed_order", "linear_order", "search", "precision", "partition_order", "wide", "stereo", "wasted", "seek_interval", "vendor"] (defScope s_Settings_init) := ⟨rfl, rfl, rfl, by decide +kernel, rfl, by decide +kernel, by decide +kernel⟩
abbrev s_law_cell : Stmt := topS 7
theorem sc_law_cell : FnScope ["script", "k"] ["script", "k"] (defScope s_law_cell) := ⟨rfl, rfl, rfl, by decide +kernel, rfl, by decide +kernel, by decide +kernel⟩
abbrev s_law_integer : Stmt := topS 8
theorem sc_law_integer : FnScope ["value"] ["value"] (defScope s_law_integer) := ⟨rfl, rfl, rfl, by decide +kernel, rfl, by decide +kernel, by decide +kernel⟩
abbrev s_law_integers : Stmt := topS 9
theorem sc_law_integers : FnScope ["values", "value"] ["values"] (defScope s_law_integers) := ⟨rfl, rfl, rfl, by decide +kernel, rfl, by decide +kernel, by decide +kernel⟩
abbrev s_law_row : Stmt := topS 10
theorem sc_law_row : FnScope ["cell", "count", "bound", "rest", "mixed", "row", "k"] ["cell", "count", "bound"] (defScope s_law_row) := ⟨rfl, rfl, rfl, by decide +kernel, rfl, by decide +kernel, by decide +kernel⟩
abbrev s_law_sizes : Stmt := topS 11
theorem sc_law_sizes : FnScope ["length", "told", "sizes", "left", "k", "size"] ["length", "told"] (defScope s_law_sizes) := ⟨rfl, rfl, rfl, by decide +kernel, rfl, by decide +kernel, by decide +kernel⟩
abbrev s_law : Stmt := topS 12
theorem sc_law : FnScope ["script", "first", "length", "both_methods", "size", "told", "listed", "bound", "settings", "expected", "sizes", "given", "starts", "limits", "actual", "x", "k"] ["script"] (defScope s_law) := ⟨rfl, rfl, rfl, by decide +kernel, rfl, by decide +kernel, by decide +kernel⟩
theorem hu64 {A : Around} {k : Nat} (hr : Room k A) : A.units + 64 < cLine := hr.units
/-! ### short words for readings -/
theorem ret_eq {v w : V} {H H' : Hp} {Q : VK} (k : RetV v H Q) (ex : Ex H H') (e : w = v) : Q w H' := e ▸ k H' ex
/-- isinstance(x, T), T a built-in class -/
theorem ev_isi {K : PySem.W.Frag} {σ : L2.St} {H : Hp} {ta : TE} {x : V} {t : String} {T : String} {b : Bool} (ha : Ev ta σ H x) (ht : ∀ H1, Ex H H1 → TyX K H1 x (.type t)) (hk : kitB t T = some b) :
    Ev (tCB (rIsi K) (tCons ta (tCons (tC (.ty T)) tNil))) σ H (.bl b) :=
  ev_cb (ea_cons ha (ea_cons ev_c ea_nil)) fun H1 e Q q => ⟨x, .ty T, _, _, b, rfl, .ty T, ht H1 e, kit_ty hk, q H1 (Ex.refl H1)⟩
theorem isi_int {K : PySem.W.Frag} {H : Hp} {i : Int} : ∀ H1, Ex H H1 → TyX K H1 (V.int i) (.type "int") := fun _ _ => .base (.int _)
theorem isi_bl {K : PySem.W.Frag} {H : Hp} {b : Bool} : ∀ H1, Ex H H1 → TyX K H1 (V.bl b) (.type "bool") := fun _ _ => .base (.bl _)
theorem isi_non {K : PySem.W.Frag} {H : Hp} : ∀ H1, Ex H H1 → TyX K H1 V.non (.type "NoneType") := fun _ _ => .base .non
theorem isi_lst {K : PySem.W.Frag} {H : Hp} {a : Addr} {xs : List V} (h : H a = some (.lst xs)) : ∀ H1, Ex H H1 → TyX K H1 (V.ref a) (.type "list") := fun _ e => .base (.lst (e _ _ h))
theorem isi_tup {K : PySem.W.Frag} {H : Hp} {a : Addr} {xs : List V} (h : H a = some (.tup xs)) : ∀ H1, Ex H H1 → TyX K H1 (V.ref a) (.type "tuple") := fun _ e => .base (.tup (e _ _ h))
theorem kit_ii : kitB "int" "int" = some true := by decide +kernel
theorem kit_ib : kitB "int" "bool" = some false := by decide +kernel
theorem kit_bb : kitB "bool" "bool" = some true := by decide +kernel
theorem kit_bi : kitB "bool" "int" = some true := by decide +kernel
theorem kit_ll : kitB "list" "list" = some true := by decide +kernel
theorem kit_tt : kitB "tuple" "tuple" = some true := by decide +kernel
theorem ev_isiI {K : PySem.W.Frag} {σ : L2.St} {H : Hp} {ta : TE} {i : Int} (ha : Ev ta σ H (.int i)) : Ev (tCB (rIsi K) (tCons ta (tCons (tC (.ty "int")) tNil))) σ H (.bl true) := ev_isi ha isi_int kit_ii
theorem ev_isiB {K : PySem.W.Frag} {σ : L2.St} {H : Hp} {ta : TE} {i : Int} (ha : Ev ta σ H (.int i)) : Ev (tCB (rIsi K) (tCons ta (tCons (tC (.ty "bool")) tNil))) σ H (.bl false) := ev_isi ha isi_int kit_ib
theorem ev_isiL {K : PySem.W.Frag} {σ : L2.St} {H : Hp} {ta : TE} {a : Addr} {xs : List V} (ha : Ev ta σ H (.ref a)) (h : H a = some (.lst xs)) : Ev (tCB (rIsi K) (tCons ta (tCons (tC (.ty "list")) tNil))) σ H (.bl true) := ev_isi ha (isi_lst h) kit_ll
theorem ev_isiBB {K : PySem.W.Frag} {σ : L2.St} {H : Hp} {ta : TE} {b : Bool} (ha : Ev ta σ H (.bl b)) : Ev (tCB (rIsi K) (tCons ta (tCons (tC (.ty "bool")) tNil))) σ H (.bl true) := ev_isi ha isi_bl kit_bb
theorem ev_chain {σ : L2.St} {H : Hp} {ta tb tc : TE} {g g' : Int → Int → Bool} {a b c : Int} (ha : Ev ta σ H (.int a)) (hb : Ev tb σ H (.int b)) (hc : Ev tc σ H (.int c)) :
    Ev (tChain (rI0 fun i j => .bl (g i j)) (rI0 fun i j => .bl (g' i j)) ta tb tc) σ H (.bl (g a b && g' b c)) := fun H1 e Q q =>
  ha H1 e _ fun H2 e2 => hb H2 (e.trans e2) _ fun H3 e3 => ⟨a, b, rfl, rfl, g a b, rfl, by
    cases hg : g a b with
    | true =>
      rw [if_pos rfl]
      rw [hg, Bool.true_and] at q
      exact hc H3 ((e.trans e2).trans e3) _ fun H4 e4 => ⟨b, c, rfl, rfl, q H4 ((e2.trans e3).trans e4)⟩
    | false =>
      rw [if_neg (by decide)]
      rw [hg, Bool.false_and] at q
      exact q H3 (e2.trans e3)⟩
theorem ev_isN {σ : L2.St} {H : Hp} {ta : TE} {x : V} (ha : Ev ta σ H x) : Ev (tOp rIsN ta (tC .non)) σ H (.bl (decide (x = .non))) := fun H1 e Q q => ha H1 e _ fun H2 e2 => ⟨rfl, q H2 e2⟩
theorem ev_notN {σ : L2.St} {H : Hp} {ta : TE} {x : V} (ha : Ev ta σ H x) : Ev (tOp rNotN ta (tC .non)) σ H (.bl (!decide (x = .non))) := fun H1 e Q q => ha H1 e _ fun H2 e2 => ⟨rfl, q H2 e2⟩
theorem ev_min2 {σ : L2.St} {H : Hp} {ta tb : TE} {i j : Int} (ha : Ev ta σ H (.int i)) (hb : Ev tb σ H (.int j)) :
    Ev (tCB (fun xs H Q => ∃ i j, xs = [.int i, .int j] ∧ Q (.int (if j < i then j else i)) H) (tCons ta (tCons tb tNil))) σ H (.int (if j < i then j else i)) :=
  ev_cb (ea_cons ha (ea_cons hb ea_nil)) fun H1 _ _ q => ⟨i, j, rfl, q H1 (Ex.refl H1)⟩
theorem ev_negI {σ : L2.St} {H : Hp} {ta : TE} {i : Int} (ha : Ev ta σ H (.int i)) : Ev (tUn (rU fun i => .int (-i)) ta) σ H (.int (-i)) := ev_un ha ru_neg
theorem ev_I0 {σ : L2.St} {H : Hp} {ta tb : TE} {g : Int → Int → V} {i j : Int} (ha : Ev ta σ H (.int i)) (hb : Ev tb σ H (.int j)) : Ev (tOp (rI0 g) ta tb) σ H (g i j) := ev_op ha hb rv_I0
theorem ev_I {σ : L2.St} {H : Hp} {ta tb : TE} {C : Int → Int → Prop} {g : Int → Int → V} {i j : Int} (ha : Ev ta σ H (.int i)) (hb : Ev tb σ H (.int j)) (hc : C i j) : Ev (tOp (rI C g) ta tb) σ H (g i j) := ev_op ha hb (rv_I hc)
theorem ev_eq {σ : L2.St} {H : Hp} {ta tb : TE} {x y : V} (ha : Ev ta σ H x) (hb : Ev tb σ H y) (hs : scal x y = true) : Ev (tOp rEq ta tb) σ H (.bl (decide (x = y))) := ev_op ha hb (rv_eq hs)
theorem ev_ne {σ : L2.St} {H : Hp} {ta tb : TE} {x y : V} (ha : Ev ta σ H x) (hb : Ev tb σ H y) (hs : scal x y = true) : Ev (tOp rNe ta tb) σ H (.bl (!decide (x = y))) := ev_op ha hb (rv_ne hs)
theorem et_B' {σ : L2.St} {H : Hp} {te : TE} {x : V} {b : Bool} (h : Ev te σ H x) (e : x = .bl b) : EvT (tB te) σ H b := et_B (e ▸ h)
theorem dec_lt {a b : Nat} : decide ((a : Int) < (b : Int)) = decide (a < b) := by
  by_cases h : a < b
  · rw [decide_eq_true h, decide_eq_true (by omega)]
  · rw [decide_eq_false h, decide_eq_false (by omega)]
theorem int_at {ns : List Int} {i : Nat} {x : V} (hx : (ns.map V.int)[i]? = some x) : ∃ n, ns[i]? = some n ∧ i < ns.length ∧ x = V.int n := by
  rw [List.getElem?_map] at hx
  cases en : ns[i]? with
  | none => rw [en] at hx; cases hx
  | some n => rw [en] at hx; exact ⟨n, rfl, (List.getElem?_eq_some_iff.mp en).1, (Option.some.inj hx).symm⟩
theorem at_int {ns : List Int} {i : Nat} {n : Int} (h : ns[i]? = some n) : (ns.map V.int)[i]? = some (V.int n) := by rw [List.getElem?_map, h]; rfl
local macro_rules | `(tactic| walk_at "side") => `(tactic| first
  | omega | (show CMul _ _; unfold CMul; omega) | (show CDiv _ _; unfold CDiv; omega) | (show CPow _ _; unfold CPow; omega) | (show (_ : Int) < _; omega) | (show (_ : Int) ≤ _; omega) | decide)
local macro_rules | `(tactic| walk_at "ev") => `(tactic| first
  | exact ev_var rfl
  | exact ev_c
  | (refine' ev_I0 ?h1 ?h2; (case h1 => walk_at "ev"); (case h2 => walk_at "ev"))
  | (refine' ev_negI ?h1; (case h1 => walk_at "ev"))
  | (refine' ev_I ?h1 ?h2 ?hc; (case h1 => walk_at "ev"); (case h2 => walk_at "ev"); (case hc => walk_at "side"))
  | (refine' ev_eq ?h1 ?h2 ?hc; (case h1 => walk_at "ev"); (case h2 => walk_at "ev"); (case hc => rfl))
  | (refine' ev_ne ?h1 ?h2 ?hc; (case h1 => walk_at "ev"); (case h2 => walk_at "ev"); (case hc => rfl))
  | (refine' ev_max2 ?h1 ?h2; (case h1 => walk_at "ev"); (case h2 => walk_at "ev"))
  | (refine' ev_min2 ?h1 ?h2; (case h1 => walk_at "ev"); (case h2 => walk_at "ev"))
  | (refine' ev_chain ?h1 ?h2 ?h3; (case h1 => walk_at "ev"); (case h2 => walk_at "ev"); (case h3 => walk_at "ev"))
  | (refine' ev_isN ?h1; (case h1 => walk_at "ev"))
  | (refine' ev_notN ?h1; (case h1 => walk_at "ev"))
  | (refine' ev_isiI ?h1; (case h1 => walk_at "ev"))
  | (refine' ev_isiB ?h1; (case h1 => walk_at "ev"))
  | (refine' ev_isiBB ?h1; (case h1 => walk_at "ev"))
  | (refine' ev_andV ?h1 (fun _ => ?h2); (case h1 => walk_at "ev"); (case h2 => walk_at "ev"))
  | (refine' ev_orV ?h1 (fun _ => ?h2); (case h1 => walk_at "ev"); (case h2 => walk_at "ev"))
  | (refine' ev_notV ?h1; (case h1 => walk_at "ev"))
  | walk_at "evmore")
local macro_rules | `(tactic| walk_at "et") => `(tactic| first
  | (refine' et_test ?h1; (case h1 => walk_at "ev"))
  | (refine' et_B ?h1; (case h1 => walk_at "ev"))
  | (refine' et_not ?h1; (case h1 => walk_at "et"))
  | (refine' et_and ?h1 (fun _ => ?h2); (case h1 => walk_at "et"); (case h2 => walk_at "et"))
  | (refine' et_or ?h1 (fun _ => ?h2); (case h1 => walk_at "et"); (case h2 => walk_at "et")))
local macro_rules | `(tactic| walk_at "ea") => `(tactic| first
  | exact ea_nil
  | (refine' ea_cons ?h1 ?h2; (case h1 => walk_at "ev"); (case h2 => walk_at "ea")))
local macro_rules | `(tactic| walk_at "when") => `(tactic| (refine' q_when ?h ?h1 ?h2; (case h => walk_at "et")))
local macro_rules | `(tactic| walk_at "whenS") => `(tactic| (refine' s_when ?h ?h1 ?h2; (case h => walk_at "et")))
local macro_rules | `(tactic| walk_at "if") => `(tactic| (refine' q_if ?h ?h1 ?h2; (case h => walk_at "et")))
local macro_rules | `(tactic| walk_at "ifS") => `(tactic| (refine' s_if ?h ?h1 ?h2; (case h => walk_at "et")))
local macro_rules | `(tactic| walk_at "ret") => `(tactic| (refine' s_ret ?h ?h1; (case h => walk_at "ev")))
local macro_rules | `(tactic| walk_at "asg") => `(tactic| (refine' q_asg ?h ?h1; (case h => walk_at "ev")))
local macro_rules | `(tactic| walk_at "asgS") => `(tactic| (refine' s_asg ?h ?h1; (case h => walk_at "ev")))

/-! ### lists, existing or new -/
def EvR (te : TE) (σ : L2.St) (H : Hp) (xs : List V) : Prop := ∀ H1, Ex H H1 → ∀ Q : VK, (∀ p H2, Ex H1 H2 → H2 p = some (.lst xs) → Q (.ref p) H2) → te σ H1 Q
def EvS (K : PySem.W.Frag) (te : TE) (σ : L2.St) (H : Hp) (xs : List V) : Prop := ∀ H1, Ex H H1 → ∀ Q : VK, (∀ p H2, Ex H1 H2 → SqL K H2 p xs → Q (.ref p) H2) → te σ H1 Q
section
variable {K : PySem.W.Frag} {σ : L2.St} {H H' : Hp} {ta tb te : TE} {xs ys : List V} {a : Addr}
theorem EvL.r (h : EvL te σ H xs) : EvR te σ H xs := fun H1 e Q q => h H1 e Q fun p H2 _ e2 h2 => q p H2 e2 h2
theorem Ev.r (h : Ev te σ H (.ref a)) (hx : H a = some (.lst xs)) : EvR te σ H xs := fun H1 e Q q => h H1 e Q fun H2 e2 => q a H2 e2 (e2 _ _ (e _ _ hx))
theorem EvR.s (h : EvR te σ H xs) : EvS K te σ H xs := fun H1 e Q q => h H1 e Q fun p H2 e2 h2 => q p H2 e2 (sq_of h2)
theorem Ev.s (h : Ev te σ H (.ref a)) (hx : SqL K H a xs) : EvS K te σ H xs := fun H1 e Q q => h H1 e Q fun H2 e2 => q a H2 e2 (ex_l e2 (ex_l e hx))
theorem EvR.mono (e : Ex H H') (h : EvR te σ H xs) : EvR te σ H' xs := fun H1 a Q q => h H1 (e.trans a) Q q
theorem EvS.mono (e : Ex H H') (h : EvS K te σ H xs) : EvS K te σ H' xs := fun H1 a Q q => h H1 (e.trans a) Q q
theorem EvL.is (h : EvL te σ H xs) (e : xs = ys) : EvL te σ H ys := e ▸ h
theorem EvR.is (h : EvR te σ H xs) (e : xs = ys) : EvR te σ H ys := e ▸ h
theorem el_cat (ha : EvR ta σ H xs) (hb : EvR tb σ H ys) (hl : xs.length + ys.length ≤ 100000) : EvL (tOp rCat ta tb) σ H (xs ++ ys) := fun H1 e Q q =>
  ha H1 e _ fun p H2 e2 h2 => hb H2 (e.trans e2) _ fun r H3 e3 h3 => ⟨p, r, xs, ys, rfl, rfl, e3 _ _ h2, h3, sz_of hl, fun l hl => q l _ (fresh_back (e2.trans e3) hl) ((e2.trans e3).trans (Ex.new hl)) upd_same⟩
theorem el_rep {k : Int} (ha : EvR ta σ H xs) (hb : Ev tb σ H (.int k)) (hk : -(2 ^ 63) ≤ k ∧ k < 2 ^ 63) (hl : xs.length * k.toNat ≤ 100000) : EvL (tOp rRep ta tb) σ H (List.replicate k.toNat xs).flatten := fun H1 e Q q =>
  ha H1 e _ fun p H2 e2 h2 => hb H2 (e.trans e2) _ fun H3 e3 => ⟨p, k, xs, rfl, rfl, e3 _ _ h2, hk.1, hk.2, sz_of hl, fun l hl => q l _ (fresh_back (e2.trans e3) hl) ((e2.trans e3).trans (Ex.new hl)) upd_same⟩
theorem rep_one {x : V} (n : Nat) : (List.replicate n [x]).flatten = List.replicate n x := by
  induction n with
  | zero => rfl
  | succ n ih => rw [List.replicate_succ, List.replicate_succ, List.flatten_cons, ih]; rfl
theorem el_of {te : TE} (h : EvS K te σ H xs) : EvL (tCB (rListS K) (tCons te tNil)) σ H xs := fun H1 e Q q =>
  h H1 e _ fun p H2 e2 h2 => ⟨p, xs, rfl, .inl h2, fun l hl => q l _ (fresh_back e2 hl) (e2.trans (Ex.new hl)) upd_same⟩
theorem ev_lenS (h : EvS K te σ H xs) : Ev (tCB (rLenS K) (tCons te tNil)) σ H (.int (xs.length : Int)) := fun H1 e Q q =>
  h H1 e _ fun p H2 e2 h2 => ⟨p, xs, rfl, .inl h2, q H2 e2⟩
theorem ev_sum {ns : List Int} (h : EvS K te σ H (ns.map V.int)) : Ev (tCB (rSum K) (tCons te tNil)) σ H (.int ns.sum) := fun H1 e Q q =>
  h H1 e _ fun p H2 e2 h2 => ⟨p, ns, rfl, h2, q H2 e2⟩
theorem dp_ints {K : PySem.W.Frag} {H : Hp} : ∀ ns : List Int, DpAll K H (ns.map V.int) (ns.map PyData.int)
  | [] => .nil
  | n :: r => .cons (.int n) (dp_ints r)
theorem eqv_ints : ∀ ns ms : List Int, PyData.eqvAll (ns.map PyData.int) (ms.map PyData.int) = decide (ns = ms)
  | [], [] => by simp [PyData.eqvAll]
  | [], _ :: _ => by simp [PyData.eqvAll]
  | _ :: _, [] => by simp [PyData.eqvAll]
  | n :: r, m :: t => by
    show (PyData.eqv (.int n) (.int m) && PyData.eqvAll (r.map PyData.int) (t.map PyData.int)) = _
    rw [eqv_ints r t]
    show ((n == m) && decide (r = t)) = _
    by_cases h1 : n = m <;> by_cases h2 : r = t <;> simp [h1, h2]
theorem canLay_ints : ∀ ns : List Int, PyData.canLayAll0 (ns.map PyData.int) = true
  | [] => by simp [PyData.canLayAll0]
  | n :: r => by
    show PyData.canLayAll0 (PyData.int n :: r.map PyData.int) = true
    rw [PyData.canLayAll0, canLay_ints r]
    simp [PyData.canLay0]
theorem depth_ints : ∀ ns : List Int, PyData.depthAll (ns.map PyData.int) ≤ 1
  | [] => by simp [PyData.depthAll]
  | n :: r => by
    show PyData.depthAll (PyData.int n :: r.map PyData.int) ≤ 1
    have := depth_ints r
    simp only [PyData.depthAll, PyData.depth]
    omega
theorem shaped_ints (ns : List Int) : SeqAt.shaped (.list (ns.map PyData.int)) = true := by
  unfold SeqAt.shaped
  have h1 := canLay_ints ns
  have h2 := depth_ints ns
  have h3 : PyData.depth (.list (ns.map PyData.int)) ≤ 64 := by
    rw [PyData.depth]
    omega
  rw [decide_eq_true h3, Bool.and_true]
  simpa only [PyData.canLay0] using h1
theorem ev_eqI {ns ms : List Int} (ha : EvS K ta σ H (ns.map V.int)) (hb : EvS K tb σ H (ms.map V.int)) : Ev (tOp (rEqD K) ta tb) σ H (.bl (decide (ns = ms))) := fun H1 e Q q =>
  ha H1 e _ fun p H2 e2 h2 => hb H2 (e.trans e2) _ fun r H3 e3 h3 => ⟨.list (ns.map PyData.int), .list (ms.map PyData.int), .lst (ex_l e3 h2) (dp_ints ns), .lst h3 (dp_ints ms), shaped_ints ns, shaped_ints ms, by
    show Q (.bl (PyData.eqvAll (ns.map PyData.int) (ms.map PyData.int))) H3
    rw [eqv_ints]
    exact q H3 (e2.trans e3)⟩
theorem ev_neI {ns ms : List Int} (ha : EvS K ta σ H (ns.map V.int)) (hb : EvS K tb σ H (ms.map V.int)) : Ev (tOp (rNeD K) ta tb) σ H (.bl (!decide (ns = ms))) := fun H1 e Q q =>
  ha H1 e _ fun p H2 e2 h2 => hb H2 (e.trans e2) _ fun r H3 e3 h3 => ⟨.list (ns.map PyData.int), .list (ms.map PyData.int), .lst (ex_l e3 h2) (dp_ints ns), .lst h3 (dp_ints ms), shaped_ints ns, shaped_ints ms, by
    show Q (.bl (!PyData.eqvAll (ns.map PyData.int) (ms.map PyData.int))) H3
    rw [eqv_ints]
    exact q H3 (e2.trans e3)⟩
theorem ev_ixS {i : Nat} {n : Int} {tl ti : TE} {v : V} (h : EvS K tl σ H xs) (hi : Ev ti σ H (.int n)) (ha : atI xs n = some v) : Ev (tOp (rIxL K) tl ti) σ H v := fun H1 e Q q =>
  h H1 e _ fun p H2 e2 h2 => hi H2 (e.trans e2) _ fun H3 e3 => ⟨p, xs, n, v, rfl, rfl, ex_l e3 h2, ha, q H3 (e2.trans e3)⟩
theorem el_slS {tl th : TO} {lo hi : Option Int} (h : EvS K te σ H xs) (h1 : EvO tl σ H lo) (h2 : EvO th σ H hi) : EvL (tSl (rSlL K) te tl th) σ H (cutV xs lo hi) := fun H1 e _ q =>
  h H1 e _ fun a H2 e2 hs => h1 H2 (e.trans e2) _ fun H3 e3 => h2 H3 ((e.trans e2).trans e3) _ fun H4 e4 =>
    ⟨a, xs, rfl, ex_l (e3.trans e4) hs, fun p hp => q p _ (fresh_back ((e2.trans e3).trans e4) hp) (((e2.trans e3).trans e4).trans (Ex.new hp)) upd_same⟩
theorem ev_at {n : Int} {tl ti : TE} {v : V} (h : EvS K tl σ H xs) (hi : Ev ti σ H (.int n)) (ha : atI xs n = some v) : Ev (tOp (rIxL K) tl ti) σ H v := ev_ixS (i := 0) h hi ha
theorem cut_to (xs : List V) (i : Nat) : cutV xs none (some (i : Int)) = xs.take i := by
  unfold cutV
  rw [HT.sIx_none, HT.sIx_nat, List.drop_zero, Nat.sub_zero]
  by_cases h : i ≤ xs.length
  · rw [Nat.min_eq_left h]
  · rw [Nat.min_eq_right (by omega), List.take_of_length_le (Nat.le_refl _), List.take_of_length_le (by omega)]
theorem cut_from (xs : List V) (i : Nat) : cutV xs (some (i : Int)) none = xs.drop i := by
  unfold cutV
  rw [HT.sIx_none, HT.sIx_nat]
  by_cases h : i ≤ xs.length
  · rw [Nat.min_eq_left h, List.take_of_length_le (by rw [List.length_drop]; omega)]
  · rw [Nat.min_eq_right (by omega), List.drop_of_length_le (Nat.le_refl _), List.drop_of_length_le (show xs.length ≤ i by omega), List.take_nil]
theorem cut_mid (xs : List V) (i j : Nat) : cutV xs (some (i : Int)) (some (j : Int)) = (xs.drop i).take (j - i) := by
  unfold cutV
  rw [HT.sIx_nat, HT.sIx_nat]
  by_cases h : i ≤ xs.length
  · rw [Nat.min_eq_left h]
    by_cases h2 : j ≤ xs.length
    · rw [Nat.min_eq_left h2]
    · rw [Nat.min_eq_right (by omega), List.take_of_length_le (by rw [List.length_drop]; omega), List.take_of_length_le (by rw [List.length_drop]; omega)]
  · rw [Nat.min_eq_right (by omega : xs.length ≤ i), List.drop_of_length_le (Nat.le_refl _), List.drop_of_length_le (show xs.length ≤ i by omega)]
    simp
theorem el_to {th : TE} {ns : List Int} {i : Nat} (h : EvS K te σ H (ns.map V.int)) (h2 : Ev th σ H (.int i)) : EvL (tSl (rSlL K) te tNoPart (tPart th)) σ H ((ns.take i).map V.int) :=
  EvL.is (el_slS h eo_none (eo_some h2)) (by rw [List.map_take]; exact cut_to _ i)
theorem el_from {th : TE} {ns : List Int} {i : Nat} (h : EvS K te σ H (ns.map V.int)) (h2 : Ev th σ H (.int i)) : EvL (tSl (rSlL K) te (tPart th) tNoPart) σ H ((ns.drop i).map V.int) :=
  EvL.is (el_slS h (eo_some h2) eo_none) (by rw [List.map_drop]; exact cut_from _ i)
theorem el_mid {t1 t2 : TE} {ns : List Int} {i j : Nat} (h : EvS K te σ H (ns.map V.int)) (h1 : Ev t1 σ H (.int i)) (h2 : Ev t2 σ H (.int j)) : EvL (tSl (rSlL K) te (tPart t1) (tPart t2)) σ H (((ns.drop i).take (j - i)).map V.int) :=
  EvL.is (el_slS h (eo_some h1) (eo_some h2)) (by rw [List.map_take, List.map_drop]; exact cut_mid _ i j)
section
variable {D : Ends} {tz : TS} {sp : Sp} {dvs vs : List V} {E : XK} {tA : TA}
/-- x = f(..), whatever f promises -/
theorem q_asgC {i : Nat} (h : EvA tA σ H vs) (k : ∀ H1, Ex H H1 → sp (vs ++ dvs) H1 (fun x H2 => tz D (σ.set i (some x)) H2) E) : tSeq (tAsg (tCall sp dvs E tA) (gName i)) tz D σ H := h H (Ex.refl H) _ fun H1 e => k H1 e
theorem s_asgC {i : Nat} (h : EvA tA σ H vs) (k : ∀ H1, Ex H H1 → sp (vs ++ dvs) H1 (fun x H2 => D.nx (σ.set i (some x)) H2) E) : tAsg (tCall sp dvs E tA) (gName i) D σ H := h H (Ex.refl H) _ fun H1 e => k H1 e
theorem q_dropC (h : EvA tA σ H vs) (k : ∀ H1, Ex H H1 → sp (vs ++ dvs) H1 (fun _ H2 => tz D σ H2) E) : tSeq (tDrop (tCall sp dvs E tA)) tz D σ H := h H (Ex.refl H) _ fun H1 e => k H1 e
theorem s_retC (h : EvA tA σ H vs) (k : ∀ H1, Ex H H1 → sp (vs ++ dvs) H1 D.rt E) : tRet (tCall sp dvs E tA) D σ H := h H (Ex.refl H) _ fun H1 e => k H1 e
end
theorem gl_get {ns : List Int} {i : Nat} (h : i < ns.length) : ns[i]? = some (ns.getD i 0) := by
  rw [List.getD_eq_getElem?_getD, List.getElem?_eq_getElem h]
  rfl
theorem q_asgRaw {te : TE} {i : Nat} {D : Ends} {tz : TS} (P : V → Hp → Prop) (h : ∀ Q : VK, (∀ x H2, P x H2 → Q x H2) → te σ H Q) (k : ∀ x H2, P x H2 → tz D (σ.set i (some x)) H2) : tSeq (tAsg te (gName i)) tz D σ H := h _ k
/-- a, b = a pair -/
theorem q_asgT {te : TE} {i j : Nat} {D : Ends} {tz : TS} (P : V → V → Hp → Prop) (h : ∀ Q : VK, (∀ t x y H2, P x y H2 → SqT K H2 t [x, y] → Q (.ref t) H2) → te σ H Q) (k : ∀ x y H2, P x y H2 → tz D ((σ.set i (some x)).set j (some y)) H2) :
    tSeq (tAsg te (gTup K 2 (gCons (gName i) (gCons (gName j) gNil)))) tz D σ H := h _ fun t x y H2 hP hT => ⟨t, [x, y], rfl, hT, rfl, x, [y], rfl, y, [], rfl, rfl, k x y H2 hP⟩
/-- the law's cell -/
def cellI (ns : List Int) (k : Int) : Int := ns.getD k.toNat 0
theorem cellI_in {ns : List Int} {k : Int} (h0 : 0 ≤ k) (h : k < ns.length) : ns[k.toNat]? = some (cellI ns k) := by
  unfold cellI
  rw [List.getD_eq_getElem?_getD, List.getElem?_eq_getElem (by omega)]
  rfl
theorem cellI_out {ns : List Int} {k : Int} (h : ¬ k < ns.length) : cellI ns k = 0 := by
  unfold cellI
  rw [List.getD_eq_getElem?_getD, List.getElem?_eq_none (by omega)]
  rfl
end
theorem Ex.get {H H' : Hp} {a : Addr} {o : HO} (e : Ex H H') (h : H a = some o) : H' a = some o := e a o h
local macro_rules | `(tactic| walk_at "hp") => `(tactic| first
  | assumption
  | exact upd_same
  | (refine' Ex.get (by assumption) ?h1; (case h1 => walk_at "hp")))
local macro_rules | `(tactic| walk_at "ex") => `(tactic| first
  | assumption
  | exact Ex.refl _
  | (refine' Ex.trans ?h1 (by assumption); (case h1 => walk_at "ex")))
local macro_rules | `(tactic| walk_at "sq") => `(tactic| first
  | assumption
  | (refine' sq_of ?h1; (case h1 => walk_at "hp"))
  | (refine' ex_l (by assumption) ?h1; (case h1 => walk_at "sq")))
local macro_rules | `(tactic| walk_at "evs") => `(tactic| first
  | (refine' Ev.s ?h1 ?h2; (case h1 => exact ev_var rfl); (case h2 => walk_at "sq"))
  | (refine' EvR.s ?h1; (case h1 => walk_at "evr")))
local macro_rules | `(tactic| walk_at "evr") => `(tactic| first
  | (refine' Ev.r ?h1 ?h2; (case h1 => exact ev_var rfl); (case h2 => walk_at "hp"))
  | (refine' EvL.r ?h1; (case h1 => walk_at "el")))
local macro_rules | `(tactic| walk_at "eo") => `(tactic| first
  | exact eo_none
  | (refine' eo_some ?h1; (case h1 => walk_at "ev")))
local macro_rules | `(tactic| walk_at "el") => `(tactic| first
  | (refine' el_lst ?h1 ?h2; (case h1 => walk_at "ea"); (case h2 => exact Nat.le_of_ble_eq_true rfl))
  | (refine' el_cat ?h1 ?h2 ?h3; (case h1 => walk_at "evr"); (case h2 => walk_at "evr"); (case h3 => walk_at "len"))
  | (refine' el_rep ?h1 ?h2 ?h3 ?h4; (case h1 => walk_at "evr"); (case h2 => walk_at "ev"); (case h3 => walk_at "side2"); (case h4 => walk_at "len"))
  | (refine' el_of ?h1; (case h1 => walk_at "evs"))
  | (refine' el_to ?h1 ?h2; (case h1 => walk_at "evs"); (case h2 => walk_at "ev"))
  | (refine' el_from ?h1 ?h2; (case h1 => walk_at "evs"); (case h2 => walk_at "ev"))
  | (refine' el_mid ?h1 ?h2 ?h3; (case h1 => walk_at "evs"); (case h2 => walk_at "ev"); (case h3 => walk_at "ev"))
  | (refine' el_slS ?h1 ?h2 ?h3; (case h1 => walk_at "evs"); (case h2 => walk_at "eo"); (case h3 => walk_at "eo"))
  | walk_at "elmore")
local macro_rules | `(tactic| walk_at "evmore") => `(tactic| first
  | (refine' ev_lenS ?h1; (case h1 => walk_at "evs"))
  | (refine' ev_sum ?h1; (case h1 => walk_at "evs"))
  | (refine' ev_eqI ?h1 ?h2; (case h1 => walk_at "evs"); (case h2 => walk_at "evs"))
  | (refine' ev_neI ?h1 ?h2; (case h1 => walk_at "evs"); (case h2 => walk_at "evs"))
  | (refine' ev_at ?h1 ?h2 ?h3; (case h1 => walk_at "evs"); (case h2 => walk_at "ev"); (case h3 => walk_at "at"))
  | (refine' ev_isiL ?h1 ?h2; (case h1 => walk_at "ev"); (case h2 => walk_at "hp"))
  | walk_at "evown")
local macro_rules | `(tactic| walk_at "at") => `(tactic| first
  | exact at_of rfl (at_int (by assumption))
  | exact at_of rfl (by assumption))
local macro_rules | `(tactic| walk_at "asgL") => `(tactic| (refine' q_asgL ?h ?h1; (case h => walk_at "el")))
local macro_rules | `(tactic| walk_at "retL") => `(tactic| (refine' s_retL ?h ?h1; (case h => walk_at "el")))

/-- a walk's reading said in other words -/
theorem PI.k {X : Cx} {tg e : Expr} {wi wi' : TI} (h : PI X tg e wi) (q : wi = wi') : PI X tg e wi' := q ▸ h
/-! ### comprehensions whose items are said in a list -/
theorem et_yes {σ : L2.St} {H : Hp} : EvT tYes σ H true := fun H1 _ _ q => q H1 (Ex.refl H1)
section
variable {K : PySem.W.Frag} {σ : L2.St} {H : Hp} {t1 t2 te : TE} {xs ys zs : List V} {vs : List Nat}
theorem take_snoc {zs : List V} {i : Nat} {z : V} (h : zs[i]? = some z) : zs.take (i + 1) = zs.take i ++ [z] := by
  rw [List.take_add_one, h]
  rfl
theorem el_lcZ {j1 j2 : Nat} (zs : List V) (h1 : EvS K t1 σ H xs) (h2 : EvS K t2 σ H ys) (hz : zs.length = min xs.length ys.length) (hb : zs.length ≤ 50000)
    (hw : ∀ x y, wipe (((wipe σ vs).set j1 (some x)).set j2 (some y)) vs = wipe σ vs)
    (he : ∀ (i : Nat) (x y : V) H1, Ex H H1 → xs[i]? = some x → ys[i]? = some y → ∃ z, zs[i]? = some z ∧ Ev te (((wipe σ vs).set j1 (some x)).set j2 (some y)) H1 z) :
    EvL (tLc (iZip K (tCons t1 (tCons t2 tNil))) (gTup K 2 (gCons (gName j1) (gCons (gName j2) gNil))) tYes te vs) σ H zs := fun H0 e Q q =>
  h1 H0 e _ fun p H1 e1 hp => h2 H1 (e.trans e1) _ fun r H2 e2 hr => ⟨p, r, xs, ys, rfl, ex_l e2 hp, hr, fun D hD =>
    ⟨fun i m H' => m = zs.length - i ∧ i ≤ zs.length ∧ Ex H2 H' ∧ H' D = some (.lst (zs.take i)), ⟨zs.length, rfl, Nat.zero_le _, Ex.new hD, upd_same⟩, by
      rintro i m H' ⟨rfl, hi, ex, hd⟩
      have qx : SqL K H' p xs := ex_l (e2.trans ex) hp
      have qy : SqL K H' r ys := ex_l ex hr
      by_cases hlt : i < zs.length
      · have hx : xs[i]? = some xs[i] := List.getElem?_eq_getElem (by omega)
        have hy : ys[i]? = some ys[i] := List.getElem?_eq_getElem (by omega)
        refine .inr ⟨⟨xs, ys, _, _, qx, qy, hx, hy⟩, fun H3 => i + 1 ≤ zs.length ∧ Ex H2 H3 ∧ H3 D = some (.lst (zs.take (i + 1))), fun H3 h3 => ⟨zs.length - (i + 1), by omega, rfl, h3⟩, fun v H3 hv => ?_⟩
        obtain ⟨T, x, y, rfl, hT, rfl, f1, f2⟩ := hv
        have ex3 : Ex H' (upd H' T (.tup [x, y])) := Ex.new hT
        obtain ⟨z, hz1, hz2⟩ := he i x y (upd H' T (.tup [x, y])) ((((e.trans e1).trans e2).trans ex).trans ex3) (f1 _ qx) (f2 _ qy)
        refine ⟨T, [x, y], rfl, st_of upd_same, rfl, x, [y], rfl, y, [], rfl, rfl, hw x y, ?_⟩
        refine hz2 _ (Ex.refl _) _ fun H4 e4 => ⟨zs.take i, e4 _ _ (ex3 _ _ hd), sz_lt (by rw [List.length_take]; omega), hlt, ?_, ?_⟩
        · exact Ex.mut ((ex.trans ex3).trans e4) hD
        · rw [upd_same, take_snoc hz1]
      · have ei : i = zs.length := by omega
        refine .inl ⟨⟨xs, ys, qx, qy, by omega⟩, ?_⟩
        rw [ei, List.take_length] at hd
        exact q D H' (fresh_back (e1.trans e2) hD) ((e1.trans e2).trans ex) hd⟩⟩
/-- over a list, each item kept -/
theorem el_lcS {j : Nat} (zs : List V) (h1 : EvS K t1 σ H xs) (hz : zs.length = xs.length) (hb : zs.length ≤ 50000) (hw : ∀ x, wipe ((wipe σ vs).set j (some x)) vs = wipe σ vs)
    (he : ∀ (i : Nat) (x : V) H1, Ex H H1 → xs[i]? = some x → ∃ z, zs[i]? = some z ∧ Ev te ((wipe σ vs).set j (some x)) H1 z) :
    EvL (tLc (iList K t1) (gName j) tYes te vs) σ H zs := fun H0 e Q q =>
  h1 H0 e _ fun p H1 e1 hp => ⟨p, rfl, ⟨xs, hp⟩, fun D hD => lc_list (xs := xs) (fun i H' => Ex H1 H' ∧ H' D = some (.lst (zs.take i))) ⟨Ex.new hD, upd_same⟩ (fun i H' _ h => ex_l h.1 hp)
    (fun i x H' hi h => ⟨hw x, by
      obtain ⟨z, hz1, hz2⟩ := he i x H' ((e.trans e1).trans h.1) hi
      have hl : i < xs.length := (List.getElem?_eq_some_iff.mp hi).1
      refine hz2 H' (Ex.refl _) _ fun H4 e4 => ⟨zs.take i, e4 _ _ h.2, sz_lt (by rw [List.length_take]; omega), Ex.mut (h.1.trans e4) hD, ?_⟩
      rw [upd_same, take_snoc hz1]⟩)
    (fun H' h => q D H' (fresh_back e1 hD) (e1.trans h.1) (by rw [h.2, ← hz, List.take_length]))⟩
/-- over range(n) -/
theorem el_lcR {ta : TA} {n : Int} {j : Nat} (zs : List V) (h1 : EvA ta σ H [.int n]) (hn : -100000 ≤ n) (hz : zs.length = n.toNat) (hb : zs.length ≤ 50000) (hw : ∀ x, wipe ((wipe σ vs).set j (some x)) vs = wipe σ vs)
    (he : ∀ (i : Nat) H1, Ex H H1 → i < zs.length → ∃ z, zs[i]? = some z ∧ Ev te ((wipe σ vs).set j (some (.int (i : Int)))) H1 z) :
    EvL (tLc (iRng1 ta) (gName j) tYes te vs) σ H zs := fun H0 e Q q =>
  h1 H0 e _ fun H1 e1 => ⟨n, rfl, by omega, by omega, fun D hD => lc_range (lo := 0) (n := n.toNat) (fun i H' => Ex H1 H' ∧ H' D = some (.lst (zs.take i))) ⟨Ex.new hD, upd_same⟩
    (fun i H' hi h => by
      have e0 : (0 : Int) + (i : Int) = (i : Int) := Int.zero_add _
      rw [e0]
      obtain ⟨z, hz1, hz2⟩ := he i H' ((e.trans e1).trans h.1) (by omega)
      refine ⟨hw _, hz2 H' (Ex.refl _) _ fun H4 e4 => ⟨zs.take i, e4 _ _ h.2, sz_lt (by rw [List.length_take]; omega), Ex.mut (h.1.trans e4) hD, ?_⟩⟩
      rw [upd_same, take_snoc hz1])
    (fun H' h => q D H' (fresh_back e1 hD) (e1.trans h.1) (by rw [h.2, show n.toNat = zs.length by omega, List.take_length]))⟩
/-- y = [.. for x in f(..)], whatever f promises -/
theorem s_asgLC {sp : Sp} {dvs args : List V} {E : XK} {ta : TA} {g : TG} {tt : TT} {D : Ends} {i : Nat} (h : EvA ta σ H args) (k : ∀ H1, Ex H H1 → sp (args ++ dvs) H1 (fun x H2 => tAsg (tLc (iList K (tC x)) g tt te vs) (gName i) D σ H2) E) :
    tAsg (tLc (iList K (tCall sp dvs E ta)) g tt te vs) (gName i) D σ H := h H (Ex.refl H) _ fun H1 e => k H1 e
theorem q_asgLC {sp : Sp} {dvs args : List V} {E : XK} {ta : TA} {g : TG} {tt : TT} {D : Ends} {i : Nat} {tz : TS} (h : EvA ta σ H args) (k : ∀ H1, Ex H H1 → sp (args ++ dvs) H1 (fun x H2 => tSeq (tAsg (tLc (iList K (tC x)) g tt te vs) (gName i)) tz D σ H2) E) :
    tSeq (tAsg (tLc (iList K (tCall sp dvs E ta)) g tt te vs) (gName i)) tz D σ H := h H (Ex.refl H) _ fun H1 e => k H1 e
end

/-! ### data at any depth -/
mutual
theorem dp_ex {K : PySem.W.Frag} {H H' : Hp} (e : Ex H H') : ∀ (d : PyData) (v : V), Dp K H v d → Dp K H' v d
  | .none, _, h => by cases h; exact .non
  | .bool b, _, h => by cases h; exact .bl b
  | .int i, _, h => by cases h; exact .int i
  | .str x, _, h => by cases h; exact .str x
  | .list ds, _, h => by cases h with | lst hs ha => exact .lst (ex_l e hs) (dpa_ex e ds _ ha)
  | .tuple ds, _, h => by cases h with | tup hs ha => exact .tup (ex_t e hs) (dpa_ex e ds _ ha)
  | .dict _, _, h => by cases h
theorem dpa_ex {K : PySem.W.Frag} {H H' : Hp} (e : Ex H H') : ∀ (ds : List PyData) (vs : List V), DpAll K H vs ds → DpAll K H' vs ds
  | [], _, h => by cases h; exact .nil
  | d :: ds, _, h => by cases h with | cons h1 h2 => exact .cons (dp_ex e d _ h1) (dpa_ex e ds _ h2)
end
def EvD (K : PySem.W.Frag) (te : TE) (σ : L2.St) (H : Hp) (d : PyData) : Prop := ∀ H1, Ex H H1 → ∀ Q : VK, (∀ v H2, Ex H1 H2 → Dp K H2 v d → Q v H2) → te σ H1 Q
section
variable {K : PySem.W.Frag} {σ : L2.St} {H : Hp} {te ta tb t1 t2 t3 : TE} {d d1 d2 d3 : PyData} {v : V}
theorem EvD.of (h : Ev te σ H v) (hd : Dp K H v d) : EvD K te σ H d := fun H1 e Q q => h H1 e _ fun H2 e2 => q v H2 e2 (dp_ex (e.trans e2) d v hd)
theorem EvS.toD {ns : List Int} (h : EvS K te σ H (ns.map V.int)) : EvD K te σ H (.list (ns.map .int)) := fun H1 e Q q => h H1 e _ fun p H2 e2 hp => q (.ref p) H2 e2 (.lst hp (dp_ints ns))
theorem ed_tup2 (h1 : EvD K t1 σ H d1) (h2 : EvD K t2 σ H d2) : EvD K (tTup (tCons t1 (tCons t2 tNil))) σ H (.tuple [d1, d2]) := fun H1 e Q q => h1 H1 e _ fun v H2 e2 hv => h2 H2 (e.trans e2) _ fun u H3 e3 hu =>
  ⟨sz_of (show 2 ≤ 100000 by decide), fun p hp => q (.ref p) _ ((e2.trans e3).trans (Ex.new hp)) (.tup (st_of upd_same) (.cons (dp_ex (e3.trans (Ex.new hp)) _ _ hv) (.cons (dp_ex (Ex.new hp) _ _ hu) .nil)))⟩
theorem ev_eqDD (h1 : EvD K ta σ H d) (h2 : EvD K tb σ H d) (hs : SeqAt.shaped d = true) : Ev (tOp (rEqD K) ta tb) σ H (.bl true) := fun H1 e Q q => h1 H1 e _ fun v H2 e2 hv => h2 H2 (e.trans e2) _ fun u H3 e3 hu =>
  ⟨d, d, dp_ex e3 d v hv, hu, hs, hs, by rw [SeqAt.eqv_refl d (SeqAt.canLay_of_shaped hs)]; exact q H3 (e2.trans e3)⟩
theorem ev_neDD (h1 : EvD K ta σ H d) (h2 : EvD K tb σ H d) (hs : SeqAt.shaped d = true) : Ev (tOp (rNeD K) ta tb) σ H (.bl false) := fun H1 e Q q => h1 H1 e _ fun v H2 e2 hv => h2 H2 (e.trans e2) _ fun u H3 e3 hu =>
  ⟨d, d, dp_ex e3 d v hv, hu, hs, hs, by rw [SeqAt.eqv_refl d (SeqAt.canLay_of_shaped hs)]; exact q H3 (e2.trans e3)⟩
end
theorem shaped_pair (ns ms : List Int) : SeqAt.shaped (.tuple [.list (ns.map .int), .list (ms.map .int)]) = true := by
  unfold SeqAt.shaped
  have h1 := canLay_ints ns
  have h2 := depth_ints ns
  have h3 := canLay_ints ms
  have h4 := depth_ints ms
  rw [Bool.and_eq_true, decide_eq_true_iff]
  refine ⟨by simp only [PyData.canLay0, PyData.canLayAll0, h1, h3, Bool.and_self], ?_⟩
  simp only [PyData.depth, PyData.depthAll]
  omega

/-! ### calls with keywords, defaults -/
theorem kwAllN {K : PySem.W.Frag} {D : Addr} : ∀ p ∈ ([] : List (Str × V)), ∃ u, PySem.W.nsIn K D p.1 = some (some u) ∧ RelV p.2 u := fun p hp => by cases hp
theorem kwAllC {K : PySem.W.Frag} {D : Addr} {q : Str × V} {l : List (Str × V)} (h : ∃ u, PySem.W.nsIn K D q.1 = some (some u) ∧ RelV q.2 u) (hl : ∀ p ∈ l, ∃ u, PySem.W.nsIn K D p.1 = some (some u) ∧ RelV p.2 u) : ∀ p ∈ q :: l, ∃ u, PySem.W.nsIn K D p.1 = some (some u) ∧ RelV p.2 u := fun p hp => by
  rcases List.mem_cons.mp hp with rfl | hp
  · exact h
  · exact hl p hp
theorem kwAll1 {K : PySem.W.Frag} {D : Addr} {q : Str × V} (h : ∃ u, PySem.W.nsIn K D q.1 = some (some u) ∧ RelV q.2 u) : ∀ p ∈ [q], ∃ u, PySem.W.nsIn K D p.1 = some (some u) ∧ RelV p.2 u := fun p hp => by
  rcases List.mem_cons.mp hp with rfl | hp
  · exact h
  · cases hp
section
variable {K : PySem.W.Frag} {x qual : Str} {params : Arguments} {body : List Stmt} {scope : Scope} {dvs : List V} {kws : List (Str × V)} {f : Addr} {fd : FuncData} {ps : List Str}
/-- f(a, .., k = v, ..), nothing left to a default, no defaults of place -/
theorem fund_kb0 {g : List Value → List Value → List Value} {gV : List V → List V → List V} (F : FunD K x qual params body scope [] kws f fd) (n : Nat) (ks : List Str)
    (hrel : ∀ {vs : List V} {us : List Value} {zs : List V} {ws : List Value}, Vals vs us → Vals zs ws → Vals (gV vs zs) (g us ws))
    (h : ∀ (kV doc pm : Value) (an : Option Addr) (cdv ct : Value) (us ws : List Value), us.length = n → ws.length = ks.length → bindArgs (PySem.W.fnOf x qual params body scope .none kV doc pm an cdv ct) ⟨us, ks.zip ws⟩ = pure (ps.zip (g us ws))) :
    KBn K fd ps n ks g gV := by
  obtain ⟨oc, od, dV, kV, doc, pm, an, cdv, ct, osl, rfl, lk, hcd, hD, hK⟩ := F.ex
  rcases hD with ⟨_, rfl⟩ | ⟨e, _⟩
  · exact ⟨fun s us ws X l1 l2 => .of_eq (h kV doc pm an cdv ct us ws l1 l2), hrel⟩
  · exact absurd rfl e
/-- the same of a def with defaults of place -/
theorem fund_kb1 {g : List Value → List Value → List Value} {gV : List V → List V → List V} (F : FunD K x qual params body scope dvs kws f fd) (hd : dvs ≠ []) (n : Nat) (ks : List Str)
    (hrel : ∀ {vs : List V} {us : List Value} {zs : List V} {ws : List Value}, Vals vs us → Vals zs ws → Vals (gV vs zs) (g us ws))
    (h : ∀ (T : Addr) (kV doc pm : Value) (an : Option Addr) (cdv ct : Value) (us its ws : List Value), us.length = n → its.length = dvs.length → ws.length = ks.length →
      ∃ k, bindArgs (PySem.W.fnOf x qual params body scope (.ref T) kV doc pm an cdv ct) ⟨us, ks.zip ws⟩ = seqItems? (.ref T) >>= k ∧ k (some its.toArray) = pure (ps.zip (g us ws))) :
    KBn K fd ps n ks g gV := by
  obtain ⟨oc, od, dV, kV, doc, pm, an, cdv, ct, osl, rfl, lk, hcd, hD, hK⟩ := F.ex
  rcases hD with ⟨e, _⟩ | ⟨_, T, o, its, m, rfl, lT, oT, rT⟩
  · exact absurd e hd
  · refine ⟨fun s us ws X l1 l2 => ?_, hrel⟩
    obtain ⟨k, e1, e2⟩ := h T kV doc pm an cdv ct us its ws l1 rT.length.symm l2
    refine BindsTo.of_looks fun M => ?_
    rw [e1]
    exact looks_items X lT oT (.of_pure e2)
end

theorem foldl_max : ∀ (ns : List Int) (d : Int), (ns.foldl max d = d ∨ ns.foldl max d ∈ ns) ∧ d ≤ ns.foldl max d ∧ ∀ n ∈ ns, n ≤ ns.foldl max d
  | [], d => ⟨.inl rfl, Int.le_refl _, fun n hn => by cases hn⟩
  | x :: r, d => by
    obtain ⟨h1, h2, h3⟩ := foldl_max r (max d x)
    show (r.foldl max (max d x) = d ∨ r.foldl max (max d x) ∈ x :: r) ∧ d ≤ r.foldl max (max d x) ∧ ∀ n ∈ x :: r, n ≤ r.foldl max (max d x)
    refine ⟨?_, by omega, fun n hn => ?_⟩
    · rcases h1 with h | h
      · rw [h]
        by_cases hd : d ≤ x
        · exact .inr (by rw [Int.max_eq_right hd]; exact List.mem_cons_self ..)
        · exact .inl (by omega)
      · exact .inr (List.mem_cons_of_mem _ h)
    · rcases List.mem_cons.mp hn with rfl | hn
      · omega
      · exact h3 n hn

/-! ### min, max of a list of numbers -/
theorem foldl_min : ∀ (ns : List Int) (d : Int), (ns.foldl min d = d ∨ ns.foldl min d ∈ ns) ∧ ns.foldl min d ≤ d ∧ ∀ n ∈ ns, ns.foldl min d ≤ n
  | [], d => ⟨.inl rfl, Int.le_refl _, fun n hn => by cases hn⟩
  | x :: r, d => by
    obtain ⟨h1, h2, h3⟩ := foldl_min r (min d x)
    show (r.foldl min (min d x) = d ∨ r.foldl min (min d x) ∈ x :: r) ∧ r.foldl min (min d x) ≤ d ∧ ∀ n ∈ x :: r, r.foldl min (min d x) ≤ n
    refine ⟨?_, by omega, fun n hn => ?_⟩
    · rcases h1 with h | h
      · rw [h]
        by_cases hd : d ≤ x
        · exact .inl (Int.min_eq_left hd)
        · exact .inr (by rw [Int.min_eq_right (by omega)]; exact List.mem_cons_self ..)
      · exact .inr (List.mem_cons_of_mem _ h)
    · rcases List.mem_cons.mp hn with rfl | hn
      · omega
      · exact h3 n hn
def minL (ns : List Int) : Int := ns.tail.foldl min (ns.headD 0)
def maxL (ns : List Int) : Int := ns.tail.foldl max (ns.headD 0)
theorem minL_is {ns : List Int} (h : 0 < ns.length) : minL ns ∈ ns ∧ ∀ y ∈ ns, minL ns ≤ y := by
  cases ns with
  | nil => exact absurd h (by decide)
  | cons x r =>
    obtain ⟨h1, h2, h3⟩ := foldl_min r x
    show r.foldl min x ∈ x :: r ∧ ∀ y ∈ x :: r, r.foldl min x ≤ y
    refine ⟨?_, fun y hy => ?_⟩
    · rcases h1 with e | e
      · rw [e]
        exact List.mem_cons_self ..
      · exact List.mem_cons_of_mem _ e
    · rcases List.mem_cons.mp hy with rfl | hy
      · exact h2
      · exact h3 y hy
theorem maxL_is {ns : List Int} (h : 0 < ns.length) : maxL ns ∈ ns ∧ ∀ y ∈ ns, y ≤ maxL ns := by
  cases ns with
  | nil => exact absurd h (by decide)
  | cons x r =>
    obtain ⟨h1, h2, h3⟩ := foldl_max r x
    show r.foldl max x ∈ x :: r ∧ ∀ y ∈ x :: r, y ≤ r.foldl max x
    refine ⟨?_, fun y hy => ?_⟩
    · rcases h1 with e | e
      · rw [e]
        exact List.mem_cons_self ..
      · exact List.mem_cons_of_mem _ e
    · rcases List.mem_cons.mp hy with rfl | hy
      · exact h2
      · exact h3 y hy
theorem ev_minL {K : PySem.W.Frag} {σ : L2.St} {H : Hp} {te : TE} {ns : List Int} (h : EvS K te σ H (ns.map V.int)) (hl : 0 < ns.length) : Ev (tCB (rMin K) (tCons te tNil)) σ H (.int (minL ns)) := fun H1 e Q q =>
  h H1 e _ fun p H2 e2 hp => ⟨p, ns, rfl, hp, hl, fun m hm ha => by
    obtain ⟨h1, h2⟩ := minL_is hl
    have : m = minL ns := Int.le_antisymm (ha _ h1) (h2 _ hm)
    rw [this]
    exact q H2 e2⟩
theorem ev_maxL {K : PySem.W.Frag} {σ : L2.St} {H : Hp} {te : TE} {ns : List Int} (h : EvS K te σ H (ns.map V.int)) (hl : 0 < ns.length) : Ev (tCB (rMax K) (tCons te tNil)) σ H (.int (maxL ns)) := fun H1 e Q q =>
  h H1 e _ fun p H2 e2 hp => ⟨p, ns, rfl, hp, hl, fun m hm ha => by
    obtain ⟨h1, h2⟩ := maxL_is hl
    have : m = maxL ns := Int.le_antisymm (h2 _ hm) (ha _ h1)
    rw [this]
    exact q H2 e2⟩

/-- what the top has left -/
structure TX (K : PySem.W.Frag) (mg : Str → Option Value) where
  a_block_sizes : Addr
  d_block_sizes : FuncData
  F_block_sizes : Fun K "block_sizes" "block_sizes" s_block_sizes a_block_sizes d_block_sizes
  b_block_sizes : Binds K d_block_sizes ["length", "settings"] []
  g_block_sizes : mg "block_sizes" = some (.ref a_block_sizes)
  a_block_starts : Addr
  d_block_starts : FuncData
  F_block_starts : Fun K "block_starts" "block_starts" s_block_starts a_block_starts d_block_starts
  b_block_starts : Binds K d_block_starts ["sizes"] []
  g_block_starts : mg "block_starts" = some (.ref a_block_starts)
  a_size_range : Addr
  d_size_range : FuncData
  F_size_range : Fun K "size_range" "size_range" s_size_range a_size_range d_size_range
  b_size_range : Binds K d_size_range ["length", "settings"] []
  g_size_range : mg "size_range" = some (.ref a_size_range)
  a_Settings_init : Addr
  d_Settings_init : FuncData
  F_Settings_init : FunD K "__init__" "Settings.__init__" (defArgs s_Settings_init) (defBody s_Settings_init) (defScope s_Settings_init) [] [("block_sizes", V.non), ("fixed_order", V.int 4), ("linear_order", V.int 0), ("search", V.bl false), ("precision", V.int 12), ("partition_order", V.int 4), ("wide", V.bl false), ("stereo", V.bl true), ("wasted", V.bl true), ("seek_interval", V.int 0), ("vendor", V.str "")] a_Settings_init d_Settings_init
  mv2_block_sizes_Settings_init : List Value
  k2_block_sizes_Settings_init : KBn K d_Settings_init ["self", "block_size", "block_sizes", "fixed_order", "linear_order", "search", "precision", "partition_order", "wide", "stereo", "wasted", "seek_interval", "vendor"] 2 ["block_sizes"] (fun us ws => us ++ ((List.take 1 (List.drop 0 ws)) ++ (List.take 10 (List.drop 0 mv2_block_sizes_Settings_init)))) (fun us ws => us ++ ((List.take 1 (List.drop 0 ws)) ++ (List.take 10 (List.drop 0 [V.int 4, V.int 0, V.bl false, V.int 12, V.int 4, V.bl false, V.bl true, V.bl true, V.int 0, V.str ""]))))
  a_law_cell : Addr
  d_law_cell : FuncData
  F_law_cell : Fun K "_law_cell" "_law_cell" s_law_cell a_law_cell d_law_cell
  b_law_cell : Binds K d_law_cell ["script", "k"] []
  g_law_cell : mg "_law_cell" = some (.ref a_law_cell)
  a_law_integer : Addr
  d_law_integer : FuncData
  F_law_integer : Fun K "_law_integer" "_law_integer" s_law_integer a_law_integer d_law_integer
  b_law_integer : Binds K d_law_integer ["value"] []
  g_law_integer : mg "_law_integer" = some (.ref a_law_integer)
  a_law_integers : Addr
  d_law_integers : FuncData
  F_law_integers : Fun K "_law_integers" "_law_integers" s_law_integers a_law_integers d_law_integers
  b_law_integers : Binds K d_law_integers ["values"] []
  g_law_integers : mg "_law_integers" = some (.ref a_law_integers)
  a_law_row : Addr
  d_law_row : FuncData
  F_law_row : Fun K "_law_row" "_law_row" s_law_row a_law_row d_law_row
  b_law_row : Binds K d_law_row ["cell", "count", "bound"] []
  g_law_row : mg "_law_row" = some (.ref a_law_row)
  a_law_sizes : Addr
  d_law_sizes : FuncData
  F_law_sizes : Fun K "_law_sizes" "_law_sizes" s_law_sizes a_law_sizes d_law_sizes
  b_law_sizes : Binds K d_law_sizes ["length", "told"] []
  g_law_sizes : mg "_law_sizes" = some (.ref a_law_sizes)
  a_law : Addr
  d_law : FuncData
  F_law : Fun K "law" "law" s_law a_law d_law
  b_law : Binds K d_law ["script"] []
  g_law : mg "law" = some (.ref a_law)
  C_Settings : Addr
  cl_Settings : Cls K C_Settings
  g_Settings : mg "Settings" = some (.ref C_Settings)
  M_Settings : Mk K C_Settings a_Settings_init
  n_Settings_block_size : NoAttr K C_Settings "block_size"
  n_Settings_block_sizes : NoAttr K C_Settings "block_sizes"
  n_Settings_fixed_order : NoAttr K C_Settings "fixed_order"
  n_Settings_linear_order : NoAttr K C_Settings "linear_order"
  n_Settings_search : NoAttr K C_Settings "search"
  n_Settings_precision : NoAttr K C_Settings "precision"
  n_Settings_partition_order : NoAttr K C_Settings "partition_order"
  n_Settings_wide : NoAttr K C_Settings "wide"
  n_Settings_stereo : NoAttr K C_Settings "stereo"
  n_Settings_wasted : NoAttr K C_Settings "wasted"
  n_Settings_seek_interval : NoAttr K C_Settings "seek_interval"
  n_Settings_vendor : NoAttr K C_Settings "vendor"
  m_min : mg "min" = none
  m_len : mg "len" = none
  m_max : mg "max" = none
  m_list : mg "list" = none
  m_isinstance : mg "isinstance" = none
  m_int : mg "int" = none
  m_bool : mg "bool" = none
  m_all : mg "all" = none
  m_abs : mg "abs" = none
  m_range : mg "range" = none
  m_sum : mg "sum" = none
  m_tuple : mg "tuple" = none
section
variable {P : Program} {w : World} {K : PySem.W.Frag} {mg : Str → Option Value} {base : Heap}
/-! ### int(x), bits of a number -/
theorem Ev.is {σ : L2.St} {H : Hp} {te : TE} {x y : V} (h : Ev te σ H x) (e : x = y) : Ev te σ H y := e ▸ h
theorem ev_int1 {σ : L2.St} {H : Hp} {te : TE} {i : Int} (h : Ev te σ H (.int i)) : Ev (tCB (fun xs H Q => (∃ i, xs = [V.int i] ∧ Q (V.int i) H) ∨ ∃ k, xs = [V.bl k] ∧ Q (V.int (if k = true then 1 else 0)) H) (tCons te tNil)) σ H (.int i) :=
  ev_cb (ea_cons h ea_nil) fun H1 _ Q q => .inl ⟨i, rfl, q H1 (Ex.refl H1)⟩
theorem q_augR {σ : L2.St} {H : Hp} {te : TE} {D : Ends} {tz : TS} {i : Nat} {g : Int → Int → V} {a b : Int} (h1 : σ[i]? = some (some (.int a))) (h : Ev te σ H (.int b)) (k : ∀ H1, Ex H H1 → tz D (σ.set i (some (g a b))) H1) : tSeq (tAug i te (rI0 g)) tz D σ H :=
  ⟨_, h1, h H (Ex.refl H) _ fun H1 e => ⟨a, b, rfl, rfl, k H1 e⟩⟩
theorem s_augR {σ : L2.St} {H : Hp} {te : TE} {D : Ends} {i : Nat} {g : Int → Int → V} {a b : Int} (h1 : σ[i]? = some (some (.int a))) (h : Ev te σ H (.int b)) (k : ∀ H1, Ex H H1 → D.nx (σ.set i (some (g a b))) H1) : tAug i te (rI0 g) D σ H :=
  ⟨_, h1, h H (Ex.refl H) _ fun H1 e => ⟨a, b, rfl, rfl, k H1 e⟩⟩
theorem ev_atT {K : PySem.W.Frag} {σ : L2.St} {H : Hp} {tl ti : TE} {t : Addr} {xs : List V} {n : Int} {v : V} (h : Ev tl σ H (.ref t)) (hT : SqT K H t xs) (hi : Ev ti σ H (.int n)) (ha : atI xs n = some v) : Ev (tOp (rIxT K) tl ti) σ H v := fun H1 e Q q =>
  h H1 e _ fun H2 e2 => hi H2 (e.trans e2) _ fun H3 e3 => ⟨t, xs, n, v, rfl, rfl, ex_t ((e.trans e2).trans e3) hT, ha, q H3 (e2.trans e3)⟩
local macro_rules | `(tactic| walk_at "side") => `(tactic| first
  | omega
  | (show CDivW _ _; exact ⟨by omega, by decide⟩)
  | (show CDivW _ _; exact wide_div (b := 80) (by omega) (by omega) (by decide) (by decide)))
local macro_rules | `(tactic| walk_at "evown") => `(tactic| (refine' ev_int1 ?h1; (case h1 => walk_at "ev")))
/-- numbers from 0 on, as such -/
def cs (ds : List Nat) : List Int := ds.map fun d : Nat => (d : Int)
theorem cs_of {ns : List Int} {b : Int} (h : ∀ n ∈ ns, 0 ≤ n ∧ n < b) : ∃ ds : List Nat, ns = cs ds ∧ ds.length = ns.length ∧ ∀ d ∈ ds, (d : Int) < b := by
  refine ⟨ns.map Int.toNat, ?_, List.length_map .., fun d hd => ?_⟩
  · unfold cs
    rw [List.map_map]
    conv => lhs; rw [← List.map_id ns]
    refine List.map_congr_left fun n hn => ?_
    have := (h n hn).1
    show n = ((n.toNat : Nat) : Int)
    omega
  · obtain ⟨n, hn, rfl⟩ := List.mem_map.mp hd
    have := h n hn
    omega
theorem cs_len (ds : List Nat) : (cs ds).length = ds.length := List.length_map ..
theorem cs_at {ds : List Nat} {i : Nat} {d : Nat} (h : ds[i]? = some d) : (cs ds)[i]? = some (d : Int) := by unfold cs; rw [List.getElem?_map, h]; rfl
theorem cs_take (ds : List Nat) (i : Nat) : (cs ds).take i = cs (ds.take i) := by unfold cs; rw [List.map_take]
theorem cs_drop (ds : List Nat) (i : Nat) : (cs ds).drop i = cs (ds.drop i) := by unfold cs; rw [List.map_drop]
theorem cs_append (ds es : List Nat) : cs (ds ++ es) = cs ds ++ cs es := List.map_append ..

theorem ev_all {σ : L2.St} {H : Hp} {te : TE} {bs : List Bool} {b : Bool} (h : EvS K te σ H (bs.map V.bl)) (hb : bs.all id = b) : Ev (tCB (rAll K) (tCons te tNil)) σ H (.bl b) := fun H1 e Q q => h H1 e _ fun p H2 e2 hp => ⟨p, bs, rfl, hp, by rw [hb]; exact q H2 e2⟩

def sp_cell (K : PySem.W.Frag) : Sp := fun vs H Q _ => ∃ (a : Addr) (ns : List Int) (k : Int), vs = [.ref a, .int k] ∧ SqL K H a (ns.map V.int) ∧ 0 ≤ k ∧ RetV (.int (cellI ns k)) H Q
theorem ok_law_cell (T : TX K mg) : FnOk P w K mg base CX0 1 T.a_law_cell T.d_law_cell ["script", "k"] (sp_cell K) := by
  refine T.F_law_cell.ok sc_law_cell (fun vs H Q E h => by obtain ⟨a, ns, k, rfl, _⟩ := h; rfl) (fun cdv A outer s H vs Q E hr h => ?_)
  obtain ⟨a, ns, k, rfl, hS, hk, q⟩ := h
  refine ⟨_, (pss_cons (ps_if (pt_cmpR op_lt (pv 1) (pe_callB (r := rLenS K) call_len_seq (by rfl) T.m_len PySem.boot_len (pa_cons (pv 0) pa_nil)) (nomark _)) (pss_one (ps_ret (pe_ix (r := rIxL K) ix_list (pv 0) (pv 1) (fun _ _ => rfl)))) pss_nil)
      (pss_one (ps_ret pe_int))), ?_⟩
  have hl := (ev_lenS (K := K) (Ev.s (te := tVar 0) (σ := start ["script", "k"] [.ref a, .int k]) (ev_var rfl) hS))
  refine q_when (et_test (ev_I0 (ev_var rfl) hl)) ?_ ?_
  · intro hb H1 e1
    have hb : k < ns.length := by
      have := of_decide_eq_true hb
      rwa [List.length_map] at this
    refine s_ret (v := .int (cellI ns k)) (ev_ixS (i := 0) (n := k) (Ev.s (ev_var rfl) (ex_l e1 hS)) (ev_var rfl) ?_) fun H2 e2 => q H2 (e1.trans e2)
    exact at_of (j := k.toNat) (by omega) (at_int (cellI_in hk hb))
  · intro hb H1 e1
    have hb : ¬ k < ns.length := by
      have := of_decide_eq_false hb
      rwa [List.length_map] at this
    walk_at "ret"
    intro H2 e2
    exact ret_eq q (e1.trans e2) (by rw [cellI_out hb])
theorem ev_cell {σ : L2.St} {H : Hp} {ta tk : TE} {E : XK} {ns : List Int} {k : Int} {a : Addr} (ha : Ev ta σ H (.ref a)) (hS : SqL K H a (ns.map V.int)) (hk : Ev tk σ H (.int k)) (h0 : 0 ≤ k) : Ev (tCall (sp_cell K) [] E (tCons ta (tCons tk tNil))) σ H (.int (cellI ns k)) :=
  ev_call (ea_cons ha (ea_cons hk ea_nil)) fun H1 e Q q _ => ⟨a, ns, k, rfl, ex_l e hS, h0, q⟩
local macro_rules | `(tactic| walk_at "evown") => `(tactic| (refine' ev_cell ?h1 ?h2 ?h3 ?h4; (case h1 => exact ev_var rfl); (case h2 => walk_at "sq"); (case h3 => walk_at "ev"); (case h4 => walk_at "side")))

def sp_isint : Sp := fun vs H Q _ => ∃ n : Int, vs = [.int n] ∧ RetV (.bl true) H Q
theorem ok_law_integer (T : TX K mg) : FnOk P w K mg base CX0 1 T.a_law_integer T.d_law_integer ["value"] sp_isint := by
  refine T.F_law_integer.ok sc_law_integer (fun vs H Q E h => by obtain ⟨n, rfl, _⟩ := h; rfl) (fun cdv A outer s H vs Q E hr h => ?_)
  obtain ⟨n, rfl, k⟩ := h
  refine ⟨_, (pss_one (ps_ret (pe_and (pe_callB (r := rIsi K) call_isi (by rfl) T.m_isinstance PyProof.Rows.boot_isinstance (pa_cons (pv 0) (pa_cons (pe_bltn (v := V.ty "int") (by rfl) T.m_int PyProof.Rows.boot_int rfl) pa_nil))) (pe_one (pe_not (pe_callB (r := rIsi K) call_isi (by rfl) T.m_isinstance PyProof.Rows.boot_isinstance (pa_cons (pv 0) (pa_cons (pe_bltn (v := V.ty "bool") (by rfl) T.m_bool PyProof.Rows.boot_bool rfl) pa_nil)))))))), ?_⟩
  walk_at "ret"
  intro H2 e2
  exact ret_eq k e2 rfl
theorem ev_isint {σ : L2.St} {H : Hp} {te : TE} {E : XK} {n : Int} (h : Ev te σ H (.int n)) : Ev (tCall sp_isint [] E (tCons te tNil)) σ H (.bl true) := ev_call (ea_cons h ea_nil) fun H1 _ Q q _ => ⟨n, rfl, q⟩

def sp_ints : Sp := fun vs H Q _ => ∃ (a : Addr) (ns : List Int), vs = [.ref a] ∧ H a = some (.lst (ns.map V.int)) ∧ ns.length ≤ 10000 ∧ RetV (.bl true) H Q
theorem ok_law_integers (T : TX K mg) : FnOk P w K mg base CX0 2 T.a_law_integers T.d_law_integers ["values"] sp_ints := by
  refine T.F_law_integers.ok sc_law_integers (fun vs H Q E h => by obtain ⟨a, ns, rfl, _⟩ := h; rfl) (fun cdv A outer s0 H vs Q E hr h => ?_)
  obtain ⟨a, ns, rfl, hA, hl, k⟩ := h
  refine ⟨_, (pss_cons (ps_if (pt_not (pt_val (pe_callB (r := rIsi K) call_isi (by rfl) T.m_isinstance PyProof.Rows.boot_isinstance (pa_cons (pv 0) (pa_cons (pe_bltn (v := V.ty "list") (by rfl) T.m_list PyProof.Rows.boot_list rfl) pa_nil))))) (pss_one (ps_ret pe_bl)) pss_nil)
      (pss_one (ps_ret (pe_callB (r := rAll K) (cr_all rfl) (by rfl) T.m_all PyProof.Rows.boot_all (pa_cons (pe_lc (own := [("value", 1)]) (g := gName 1) (tt := tYes) rfl sc_law_integers.nd (pi_list (pv 0)) (blkOk_by (N := ["values", "value"]) (sc := defScope s_law_integers) (by decide +kernel)) (fun _ _ _ _ _ => pg_name (i := 1) sc_law_integers.nd rfl (Or.inl rfl)) (fun _ _ _ _ _ => pts_nil) (fun _ _ _ _ _ => (pe_call (ok_law_integer T) (hr.mono (by decide)) (by rfl) T.g_law_integer T.F_law_integer.kp T.b_law_integer .nil pass0 (pa_cons (pv 1) pa_nil)))) pa_nil))))), ?_⟩
  walk_at "when"
  · intro hb
    exact absurd hb (by simp)
  intro _ H1 e1
  refine s_ret (v := .bl true) (ev_all (bs := ns.map fun _ => true) (EvR.s (EvL.r (EvL.is (xs := ns.map fun _ => V.bl true) (el_lcS _ (Ev.s (ev_var rfl) (sq_of (e1 _ _ hA))) (by rw [List.length_map, List.length_map]) (by rw [List.length_map]; omega) (fun _ => rfl) fun i x H2 e2 hx => ?_) (by rw [List.map_map]; rfl)))) (by simp)) fun H2 e2 => k.go (e1.trans e2)
  obtain ⟨n, hn, hi, rfl⟩ := int_at hx
  exact ⟨.bl true, by rw [List.getElem?_map, hn]; rfl, ev_isint (ev_var rfl)⟩
theorem ev_ints {σ : L2.St} {H : Hp} {te : TE} {E : XK} {ns : List Int} (h : EvR te σ H (ns.map V.int)) (hl : ns.length ≤ 10000) : Ev (tCall sp_ints [] E (tCons te tNil)) σ H (.bl true) := fun H1 e Q q =>
  h H1 e _ fun p H2 e2 hp => ⟨p, ns, rfl, hp, hl, fun H3 e3 => q H3 (e2.trans e3)⟩

/-! ### abs, int of a bool, the law's rows -/
theorem ev_abs {σ : L2.St} {H : Hp} {te : TE} {i : Int} (h : Ev te σ H (.int i)) : Ev (tCB (fun xs H Q => ∃ i, xs = [V.int i] ∧ Q (V.int (if i < 0 then -i else i)) H) (tCons te tNil)) σ H (.int (if i < 0 then -i else i)) :=
  ev_cb (ea_cons h ea_nil) fun H1 _ Q q => ⟨i, rfl, q H1 (Ex.refl H1)⟩
theorem ev_intB {σ : L2.St} {H : Hp} {te : TE} {b : Bool} (h : Ev te σ H (.bl b)) : Ev (tCB (fun xs H Q => (∃ i, xs = [V.int i] ∧ Q (V.int i) H) ∨ ∃ k, xs = [V.bl k] ∧ Q (V.int (if k = true then 1 else 0)) H) (tCons te tNil)) σ H (.int (if b = true then 1 else 0)) :=
  ev_cb (ea_cons h ea_nil) fun H1 _ Q q => .inr ⟨b, rfl, q H1 (Ex.refl H1)⟩
def sp_lrow : Sp := fun vs H Q _ => ∃ (c : Int) (n : Nat) (b : Int), vs = [.int c, .int (n : Int), .int b] ∧ n ≤ 1000 ∧ 0 < b ∧ b ≤ 2 ^ 50 ∧ ∀ p (ns : List Int) H', H p = none → Ex H H' → H' p = some (.lst (ns.map V.int)) → ns.length = n → (∀ x ∈ ns, 0 ≤ x ∧ x < b) → Q (.ref p) H'
theorem ok_law_row (T : TX K mg) : FnOk P w K mg base CX0 1 T.a_law_row T.d_law_row ["cell", "count", "bound"] sp_lrow := by
  refine T.F_law_row.ok sc_law_row (fun vs H Q E h => by obtain ⟨c, n, b, rfl, _⟩ := h; rfl) (fun cdv A outer s0 H vs Q E hr h => ?_)
  obtain ⟨c, n, b, rfl, hn, hb0, hb1, k⟩ := h
  refine ⟨_, (pss_cons (ps_set (i := 3) sc_law_row.nd rfl (Or.inl rfl) (pe_callB call_abs (by rfl) T.m_abs PyProof.Rows.boot_abs (pa_cons (pe_callTy call_int1 (by rfl) T.m_int PyProof.Rows.boot_int (pa_cons (pv 0) pa_nil)) pa_nil)))
      (pss_cons (ps_set (i := 4) sc_law_row.nd rfl (Or.inl rfl) (pe_op op_add (pe_op op_mod (pe_callTy call_int1 (by rfl) T.m_int PyProof.Rows.boot_int (pa_cons (pv 0) pa_nil)) pe_int) pe_int))
      (pss_cons (ps_set (i := 5) sc_law_row.nd rfl (Or.inl rfl) (pe_lst pa_nil))
      (pss_cons (ps_for PassesOwn.never rfl (pi_range1 (by rfl) T.m_range (pa_cons (pv 1) pa_nil)) (pg_name (i := 6) sc_law_row.nd rfl (Or.inl rfl)) (pss_one (ps_if (pt_cmpR op_ge (pv 3) (pv 2) (nomark _)) (pss_cons (ps_expr (pe_bm PySem.F.plainAttrs_list PySem.F.slot_list_append PySem.F.type_list_append mt_append (pv 5) (pa_cons (pe_op op_mod (pe_callTy call_int1 (by rfl) T.m_int PyProof.Rows.boot_int (pa_cons (pv 3) pa_nil)) (pv 2)) pa_nil)))
          (pss_one (ps_set (i := 3) sc_law_row.nd rfl (Or.inl rfl) (pe_op op_fdivW (pv 3) (pv 2))))) (pss_cons (ps_set (i := 4) sc_law_row.nd rfl (Or.inl rfl) (pe_op op_mod (pe_callTy call_int1 (by rfl) T.m_int PyProof.Rows.boot_int (pa_cons (pe_op op_add (pe_op op_add (pe_op op_mul (pv 4) pe_int) (pe_op op_mul pe_int (pv 6))) pe_int) pa_nil)) pe_int))
          (pss_one (ps_expr (pe_bm PySem.F.plainAttrs_list PySem.F.slot_list_append PySem.F.type_list_append mt_append (pv 5) (pa_cons (pe_op op_mod (pe_callTy call_int1 (by rfl) T.m_int PyProof.Rows.boot_int (pa_cons (pe_op op_fdivW (pe_op op_mul (pv 4) pe_int) pe_int) pa_nil)) (pv 2)) pa_nil))))))))
      (pss_one (ps_ret (pv 5))))))), ?_⟩
  have hlog : b.natAbs.log2 < 9000 := by
    have : b.natAbs < 2 ^ 51 := by omega
    have := (Nat.log2_lt (n := b.natAbs) (k := 51) (by omega)).mpr this
    omega
  refine q_asg (ev_abs (ev_int1 (ev_var rfl))) fun H1 e1 => ?_
  refine q_asg (ev_I0 (ev_I (ev_int1 (ev_var rfl)) ev_c (by decide)) ev_c) fun H2 e2 => ?_
  refine q_asgL (xs := []) (el_lst ea_nil (by decide)) fun p H3 hp3 e3 g3 => ?_
  have hp := fresh_back (e1.trans e2) hp3
  have e13 := (e1.trans e2).trans e3
  generalize (if c < 0 then -c else c) = re0
  generalize c % 1000003 + 1 = mx0
  refine q_forR1 (n := (n : Int)) (ea_cons (ev_var rfl) ea_nil) (by omega) (fun i σ' H' => ∃ (re mx : Int) (ns : List Int) (z6 : Option V), σ' = [some (.int c), some (.int (n : Int)), some (.int b), some (.int re), some (.int mx), some (.ref p), z6] ∧ Ex H H' ∧ H' p = some (.lst (ns.map V.int)) ∧ ns.length = i ∧ (∀ x ∈ ns, 0 ≤ x ∧ x < b)) (fun H4 e4 => ⟨re0, mx0, [], none, rfl, e13.trans e4, e4 _ _ g3, rfl, fun x hx => by cases hx⟩) ?_ ?_
  · rintro i σ' H4 hi ⟨re, mx, ns, z6, rfl, ex, gp, hnl, hns⟩
    have snoc : ∀ x : Int, 0 ≤ x → x < b → ∀ y ∈ ns ++ [x], 0 ≤ y ∧ y < b := fun x h0 h1 y hy => by
      rcases List.mem_append.mp hy with h | h
      · exact hns y h
      · rw [List.mem_singleton.mp h]
        exact ⟨h0, h1⟩
    have big : ns.length < 100000 := by omega
    refine s_if (et_test (ev_I0 (ev_var rfl) (ev_var rfl))) (fun _ H5 e5 => ?_) (fun _ H5 e5 => ?_)
    · refine q_app (v := .int (re % b)) (e5 _ _ gp) (ev_var rfl) (ev_I (ev_int1 (ev_var rfl)) (ev_var rfl) hb0) (by rw [List.length_map]; exact big) fun H6 e6 => ?_
      refine s_asg (v := .int (re / b)) (ev_I (ev_var rfl) (ev_var rfl) ⟨hb0, hlog⟩) fun H7 e7 => ⟨re / b, mx, ns ++ [re % b], _, rfl, (Ex.mut (ex.trans (e5.trans e6)) hp).trans e7, e7 _ _ (by rw [upd_same, List.map_append]; rfl), by rw [List.length_append, hnl]; rfl, snoc _ (Int.emod_nonneg _ (by omega)) (Int.emod_lt_of_pos _ hb0)⟩
    · obtain ⟨mx1, hmx⟩ : ∃ mx1, (mx * 48271 + 11 * (i : Int) + 7) % 2147483647 = mx1 := ⟨_, rfl⟩
      refine q_asg (v := .int mx1) (Ev.is (ev_I (ev_int1 (ev_I0 (ev_I0 (ev_I (ev_var rfl) ev_c (.inr (by decide))) (ev_I ev_c (ev_var rfl) (.inl (by decide)))) ev_c)) ev_c (by decide)) (congrArg V.int hmx)) fun H6 e6 => ?_
      refine s_app (v := .int ((mx1 * 2862933555777941757 / 1024) % b)) ((e5.trans e6) _ _ gp) (ev_var rfl) (ev_I (ev_int1 (ev_I (ev_I (ev_var rfl) ev_c (.inr (by decide))) ev_c ⟨by decide, by decide⟩)) (ev_var rfl) hb0) (by rw [List.length_map]; exact big) fun H7 e7 => ⟨re, mx1, ns ++ [(mx1 * 2862933555777941757 / 1024) % b], _, rfl, Ex.mut (ex.trans ((e5.trans e6).trans e7)) hp, by rw [upd_same, List.map_append]; rfl, by rw [List.length_append, hnl]; rfl, snoc _ (Int.emod_nonneg _ (by omega)) (Int.emod_lt_of_pos _ hb0)⟩
  · rintro σ' H4 ⟨re, mx, ns, z6, rfl, ex, gp, hnl, hns⟩
    rw [Int.toNat_natCast] at hnl
    exact s_ret (v := .ref p) (ev_var rfl) fun H5 e5 => k p ns H5 hp (ex.trans e5) (e5 _ _ gp) hnl hns

/-! ### objects: fields, methods, making -/
section
variable {K : PySem.W.Frag} {σ : L2.St} {H : Hp} {to te tv : TE} {a C : Addr} {dx : Addr} {fs : List (Str × V)} {f m : Str} {v : V} {D : Ends} {tz : TS} {sp : Sp} {dvs vs : List V} {E : XK} {t : TA}
theorem ev_fld (c : Cls K C) (hn : NoAttr K C f) (h : Ev to σ H (.ref a)) (hx : H a = some (.ins C dx fs)) (hl : fs.lookup f = some v) : Ev (tFld K to f) σ H v := fun H1 e Q q => h H1 e _ fun H2 e2 => ⟨a, C, dx, fs, v, rfl, (e.trans e2) _ _ hx, c, hn, hl, q H2 e2⟩
theorem q_fld (c : Cls K C) (hn : NoAttr K C f) (hv : Ev tv σ H v) (h : Ev to σ H (.ref a)) (hx : H a = some (.ins C dx fs)) (hl : fs.length < 1000) (k : ∀ H1, Ex H H1 → tz D σ (upd H1 a (.ins C dx (putF f v fs)))) : tSeq (sFld K to tv f) tz D σ H :=
  hv H (Ex.refl H) _ fun H1 e1 => h H1 e1 _ fun H2 e2 => ⟨a, C, dx, fs, rfl, (e1.trans e2) _ _ hx, c, hn, hl, k H2 (e1.trans e2)⟩
theorem s_fld (c : Cls K C) (hn : NoAttr K C f) (hv : Ev tv σ H v) (h : Ev to σ H (.ref a)) (hx : H a = some (.ins C dx fs)) (hl : fs.length < 1000) (k : ∀ H1, Ex H H1 → D.nx σ (upd H1 a (.ins C dx (putF f v fs)))) : sFld K to tv f D σ H :=
  hv H (Ex.refl H) _ fun H1 e1 => h H1 e1 _ fun H2 e2 => ⟨a, C, dx, fs, rfl, (e1.trans e2) _ _ hx, c, hn, hl, k H2 (e1.trans e2)⟩
theorem q_fldL {xs : List V} (c : Cls K C) (hn : NoAttr K C f) (hv : EvL tv σ H xs) (h : ∀ H1, Ex H H1 → Ev to σ H1 (.ref a)) (hx : H a = some (.ins C dx fs)) (hl : fs.length < 1000) (k : ∀ p H1, H p = none → Ex H H1 → H1 p = some (.lst xs) → tz D σ (upd H1 a (.ins C dx (putF f (.ref p) fs)))) : tSeq (sFld K to tv f) tz D σ H :=
  hv H (Ex.refl H) _ fun p H1 hp e1 g1 => h H1 e1 H1 (Ex.refl H1) _ fun H2 e2 => ⟨a, C, dx, fs, rfl, (e1.trans e2) _ _ hx, c, hn, hl, k p H2 hp (e1.trans e2) (e2 _ _ g1)⟩
/-- o.m(..), whatever m promises -/
theorem mth (h : Ev to σ H (.ref a)) (hx : H a = some (.ins C dx fs)) (hm : fs.lookup m = none) (ha : EvA t σ H vs) {Q : VK} (k : ∀ H1, Ex H H1 → sp (.ref a :: (vs ++ dvs)) H1 Q E) : tMeth C m sp dvs E to t σ H Q :=
  h H (Ex.refl H) _ fun H1 e1 => ⟨a, dx, fs, rfl, e1 _ _ hx, hm, ha H1 e1 _ fun H2 e2 => k H2 (e1.trans e2)⟩
theorem q_dropM (h : Ev to σ H (.ref a)) (hx : H a = some (.ins C dx fs)) (hm : fs.lookup m = none) (ha : EvA t σ H vs) (k : ∀ H1, Ex H H1 → sp (.ref a :: (vs ++ dvs)) H1 (fun _ H2 => tz D σ H2) E) : tSeq (tDrop (tMeth C m sp dvs E to t)) tz D σ H := mth h hx hm ha k
theorem s_dropM (h : Ev to σ H (.ref a)) (hx : H a = some (.ins C dx fs)) (hm : fs.lookup m = none) (ha : EvA t σ H vs) (k : ∀ H1, Ex H H1 → sp (.ref a :: (vs ++ dvs)) H1 (fun _ H2 => D.nx σ H2) E) : tDrop (tMeth C m sp dvs E to t) D σ H := mth h hx hm ha k
theorem q_asgM {i : Nat} (h : Ev to σ H (.ref a)) (hx : H a = some (.ins C dx fs)) (hm : fs.lookup m = none) (ha : EvA t σ H vs) (k : ∀ H1, Ex H H1 → sp (.ref a :: (vs ++ dvs)) H1 (fun x H2 => tz D (σ.set i (some x)) H2) E) : tSeq (tAsg (tMeth C m sp dvs E to t) (gName i)) tz D σ H := mth h hx hm ha k
theorem s_retM (h : Ev to σ H (.ref a)) (hx : H a = some (.ins C dx fs)) (hm : fs.lookup m = none) (ha : EvA t σ H vs) (k : ∀ H1, Ex H H1 → sp (.ref a :: (vs ++ dvs)) H1 D.rt E) : tRet (tMeth C m sp dvs E to t) D σ H := mth h hx hm ha k
/-- a method that changes nothing and gives a value -/
theorem ev_mth (h : Ev to σ H (.ref a)) (hx : H a = some (.ins C dx fs)) (hm : fs.lookup m = none) (ha : EvA t σ H vs) (k : SpV sp (.ref a :: (vs ++ dvs)) H v) : Ev (tMeth C m sp dvs E to t) σ H v := fun H1 e Q q =>
  h H1 e _ fun H2 e2 => ⟨a, dx, fs, rfl, (e.trans e2) _ _ hx, hm, ha H2 (e.trans e2) _ fun H3 e3 => k H3 ((e.trans e2).trans e3) Q (fun H4 e4 => q H4 ((e2.trans e3).trans e4)) E⟩
end
theorem fresh_ne {H : Hp} {p q : Addr} {o : HO} (hp : H p = none) (hq : H q = some o) : q ≠ p := ne_of_none hq hp
theorem bitNot_eq (x : Int) : Builtin.bitNot x = -x - 1 := rfl
theorem bitAnd_maskZ (x : Int) (k : Nat) : Builtin.bitAnd x (2 ^ k - 1) = x % 2 ^ k := by
  by_cases h : 0 ≤ x
  · exact _root_.Bits.bitAnd_mask k h
  · have hp : (1 : Int) ≤ 2 ^ k := by
      have : 0 < 2 ^ k := Nat.two_pow_pos k
      have h2 : ((2 : Int) ^ k) = ((2 ^ k : Nat) : Int) := by rw [Int.natCast_pow]; rfl
      omega
    rw [PyProof.Rows.bitAnd_np h (by omega), Nat.and_comm]
    have h2 : ((2 : Int) ^ k) = ((2 ^ k : Nat) : Int) := by rw [Int.natCast_pow]; rfl
    have h3 : ((2 : Int) ^ k - 1).toNat = 2 ^ k - 1 := by omega
    rw [h3, Nat.and_two_pow_sub_one_eq_mod, bitNot_eq]
    have h4 : ((-x - 1).toNat : Int) = -x - 1 := by omega
    rw [h2, Int.natCast_emod, h4]
    generalize 2 ^ k = m at *
    have hm : (0 : Int) < (m : Int) := by omega
    have e1 := Int.emod_add_mul_ediv x m
    have e2 := Int.emod_add_mul_ediv (-x - 1) m
    have a1 := Int.emod_nonneg x (by omega : (m : Int) ≠ 0)
    have a2 := Int.emod_lt_of_pos x hm
    have b1 := Int.emod_nonneg (-x - 1) (by omega : (m : Int) ≠ 0)
    have b2 := Int.emod_lt_of_pos (-x - 1) hm
    generalize x % (m : Int) = r at *
    generalize (-x - 1) % (m : Int) = s at *
    generalize x / (m : Int) = p at *
    generalize (-x - 1) / (m : Int) = q at *
    -- r + s + 1 is a multiple of m between 1 and 2m - 1
    have e3 : r + s + 1 = m * (-(p + q)) := by
      rw [Int.mul_neg, Int.mul_add]
      omega
    have h5 : -(p + q) = 1 := by
      have c1 : 0 < (m : Int) * (-(p + q)) := by omega
      have c2 : (m : Int) * (-(p + q)) < m * 2 := by omega
      have c3 := Int.pos_of_mul_pos_right (a := (m : Int)) (b := -(p + q)) (by exact c1) hm
      have c4 : -(p + q) < 2 := Int.lt_of_mul_lt_mul_left c2 (by omega)
      omega
    rw [h5, Int.mul_one] at e3
    omega
theorem q_fldaugI {K : PySem.W.Frag} {σ : L2.St} {H : Hp} {to tv : TE} {a C dx : Addr} {fs : List (Str × V)} {f : Str} {i j : Int} {D : Ends} {tz : TS} (c : Cls K C) (hn : NoAttr K C f) (h : Ev to σ H (.ref a)) (hx : H a = some (.ins C dx fs)) (hl : fs.lookup f = some (.int i)) (hv : Ev tv σ H (.int j)) (hz : fs.length < 1000)
    (k : ∀ H1, Ex H H1 → tz D σ (upd H1 a (.ins C dx (putF f (.int (i + j)) fs)))) : tSeq (sFldAug K to tv rAdd f) tz D σ H :=
  h H (Ex.refl H) _ fun H1 e1 => ⟨a, C, dx, fs, .int i, rfl, e1 _ _ hx, c, hn, hl, hv H1 e1 _ fun H2 e2 => ⟨i, j, rfl, rfl, dx, fs, (e1.trans e2) _ _ hx, hz, k H2 (e1.trans e2)⟩⟩
/-- [e for j in range(n)] whose element changes objects -/
theorem tlc_rngM {ta : TA} {te : TE} {vs : List Nat} {n : Int} {j : Nat} {σ : L2.St} {H : Hp} {Q : VK} (h : EvA ta σ H [.int n]) (hn : -100000 ≤ n ∧ n ≤ 100000)
    (k : ∀ H1, Ex H H1 → ∀ Dl, H1 Dl = none → ∃ Pv : Nat → Hp → Prop, Pv 0 (upd H1 Dl (.lst [])) ∧ (∀ (i : Nat) H', i < n.toNat → Pv i H' → wipe ((wipe σ vs).set j (some (.int (i : Int)))) vs = wipe σ vs ∧ te ((wipe σ vs).set j (some (.int (i : Int)))) H' fun y H4 => ∃ acc, H4 Dl = some (.lst acc) ∧ acc.length < sizeLine ∧ Pv (i + 1) (upd H4 Dl (.lst (acc ++ [y])))) ∧ (∀ H', Pv n.toNat H' → Q (.ref Dl) H')) :
    tLc (iRng1 ta) (gName j) tYes te vs σ H Q := h H (Ex.refl H) _ fun H1 e1 => ⟨n, rfl, by omega, by omega, fun Dl hD => by
  obtain ⟨Pv, h0, hs, hd⟩ := k H1 e1 Dl hD
  refine lc_range (lo := 0) (n := n.toNat) Pv h0 (fun i H' hi p => ?_) hd
  rw [Int.zero_add]
  exact hs i H' hi p⟩

/-! ### objects that are made once -/
def FrO (a : Addr) (H H' : Hp) : Prop := ∀ b o, b ≠ a → H b = some o → H' b = some o
theorem FrO.ex {a : Addr} {H H' : Hp} (e : Ex H H') : FrO a H H' := fun b o _ h => e b o h
theorem FrO.trans {a : Addr} {H H1 H2 : Hp} (x : FrO a H H1) (y : FrO a H1 H2) : FrO a H H2 := fun b o hb h => y b o hb (x b o hb h)
theorem FrO.upd {a : Addr} {H H' : Hp} {o : HO} (f : FrO a H H') : FrO a H (upd H' a o) := fun b u hb h => by rw [upd_ne hb]; exact f b u hb h
def EvN (te : TE) (σ : L2.St) (H : Hp) (R : Addr → Hp → Prop) : Prop := ∀ H1, Ex H H1 → ∀ Q : VK, (∀ p H2, H1 p = none → Ex H1 H2 → R p H2 → Q (.ref p) H2) → te σ H1 Q
section
variable {K : PySem.W.Frag} {σ : L2.St} {H : Hp} {te ta tb : TE} {C : Addr} {sp : Sp} {dvs vs zs : List V} {E : XK} {t tk : TA} {R : Addr → Hp → Prop} {D : Ends} {tz : TS} {n m i : Nat} {gV : List V → List V → List V}
theorem en_make (h : EvA t σ H vs) (k : ∀ a dx H1 (Q : VK) (E : XK), Ex H H1 → H1 a = some (.ins C dx []) → (∀ H', FrO a H1 H' → R a H' → Q .non H') → sp (.ref a :: (vs ++ dvs)) H1 Q E) : EvN (tMake C sp dvs E t) σ H R := fun H1 e Q q =>
  h H1 e _ fun H2 e2 => fun x dx hx hdx hne => k x dx _ _ _ ((e.trans e2).trans (Ex.mut (Ex.new hdx) hx)) upd_same fun H' hF hR => ⟨rfl, q x H' (fresh_back e2 hx) (fun b o hb => hF b o (fresh_ne hx (e2 b o hb)) ((Ex.mut (Ex.new hdx) hx) b o (e2 b o hb))) hR⟩
theorem en_makeK (h : EvA t σ H vs) (hz : EvA tk σ H zs) (l1 : vs.length = n) (l2 : zs.length = m) (k : ∀ a dx H1 (Q : VK) (E : XK), Ex H H1 → H1 a = some (.ins C dx []) → (∀ H', FrO a H1 H' → R a H' → Q .non H') → sp (gV (.ref a :: vs) zs) H1 Q E) : EvN (tMakeK C n m sp gV E t tk) σ H R := fun H1 e Q q =>
  h H1 e _ fun H2 e2 => hz H2 (e.trans e2) _ fun H3 e3 => ⟨l1, l2, fun x dx hx hdx hne => k x dx _ _ _ (((e.trans e2).trans e3).trans (Ex.mut (Ex.new hdx) hx)) upd_same fun H' hF hR => ⟨rfl, q x H' (fresh_back (e2.trans e3) hx) (fun b o hb => hF b o (fresh_ne hx ((e2.trans e3) b o hb)) ((Ex.mut (Ex.new hdx) hx) b o ((e2.trans e3) b o hb))) hR⟩⟩
theorem q_asgN (h : EvN te σ H R) (k : ∀ p H1, H p = none → Ex H H1 → R p H1 → tz D (σ.set i (some (.ref p))) H1) : tSeq (tAsg te (gName i)) tz D σ H := h H (Ex.refl H) _ k
theorem s_asgN (h : EvN te σ H R) (k : ∀ p H1, H p = none → Ex H H1 → R p H1 → D.nx (σ.set i (some (.ref p))) H1) : tAsg te (gName i) D σ H := h H (Ex.refl H) _ k
theorem s_retN (h : EvN te σ H R) (k : ∀ p H1, H p = none → Ex H H1 → R p H1 → D.rt (.ref p) H1) : tRet te D σ H := h H (Ex.refl H) _ k
theorem el_if {c : TT} {b : Bool} {xs : List V} (h : EvT c σ H b) (h1 : b = true → EvL ta σ H xs) (h2 : b = false → EvL tb σ H xs) : EvL (tIf c ta tb) σ H xs := fun H1 e Q q => h H1 e _ fun H2 e2 => by
  cases b with
  | true =>
    rw [if_pos rfl]
    exact h1 rfl H2 (e.trans e2) Q fun p H3 hp e3 g => q p H3 (fresh_back e2 hp) (e2.trans e3) g
  | false =>
    rw [if_neg (by decide)]
    exact h2 rfl H2 (e.trans e2) Q fun p H3 hp e3 g => q p H3 (fresh_back e2 hp) (e2.trans e3) g
theorem s_fldL {a dx : Addr} {fs : List (Str × V)} {f : Str} {to tv : TE} {xs : List V} (c : Cls K C) (hn : NoAttr K C f) (hv : EvL tv σ H xs) (h : ∀ H1, Ex H H1 → Ev to σ H1 (.ref a)) (hx : H a = some (.ins C dx fs)) (hl : fs.length < 1000) (k : ∀ p H1, H p = none → Ex H H1 → H1 p = some (.lst xs) → D.nx σ (upd H1 a (.ins C dx (putF f (.ref p) fs)))) : sFld K to tv f D σ H :=
  hv H (Ex.refl H) _ fun p H1 hp e1 g1 => h H1 e1 H1 (Ex.refl H1) _ fun H2 e2 => ⟨a, C, dx, fs, rfl, (e1.trans e2) _ _ hx, c, hn, hl, k p H2 hp (e1.trans e2) (e2 _ _ g1)⟩
end

/-! ### settings -/
def fsS (x0 v x2 x3 x4 x5 x6 x7 x8 x9 x10 x11 : V) : List (Str × V) := [("block_size", x0), ("block_sizes", v), ("fixed_order", x2), ("linear_order", x3), ("search", x4), ("precision", x5), ("partition_order", x6), ("wide", x7), ("stereo", x8), ("wasted", x9), ("seek_interval", x10), ("vendor", x11)]
/-- a list at hand, or None -/
def OptL (o : Option (List V)) (x : V) (H : Hp) : Prop := match o with
  | none => x = .non
  | some l => ∃ q, x = .ref q ∧ H q = some (.lst l)
def OptN (o : Option (List V)) (x : V) (H H' : Hp) : Prop := match o with
  | none => x = .non
  | some l => ∃ q, x = .ref q ∧ H q = none ∧ H' q = some (.lst l)
theorem OptL.fr {o : Option (List V)} {x : V} {a C dx : Addr} {fs : List (Str × V)} {H H' : Hp} (h : OptL o x H) (ha : H a = some (.ins C dx fs)) (f : FrO a H H') : OptL o x H' := by
  cases o with
  | none => exact h
  | some l =>
    obtain ⟨q, e, g⟩ := h
    exact ⟨q, e, f q _ (by rintro rfl; rw [ha] at g; cases g) g⟩
theorem OptN.mono {o : Option (List V)} {x : V} {H H1 H2 : Hp} (h : OptN o x H H1) (e : Ex H1 H2) : OptN o x H H2 := by
  cases o with
  | none => exact h
  | some l =>
    obtain ⟨q, e1, g, g2⟩ := h
    exact ⟨q, e1, g, e _ _ g2⟩
theorem OptN.toL {o : Option (List V)} {x : V} {H H1 : Hp} (h : OptN o x H H1) : OptL o x H1 := by
  cases o with
  | none => exact h
  | some l =>
    obtain ⟨q, e1, g, g2⟩ := h
    exact ⟨q, e1, g2⟩
def sp_setinit (C : Addr) : Sp := fun vs H Q _ => ∃ (a dx : Addr) (x0 x1 x2 x3 x4 x5 x6 x7 x8 x9 x10 x11 : V) (o : Option (List V)), vs = [.ref a, x0, x1, x2, x3, x4, x5, x6, x7, x8, x9, x10, x11] ∧ H a = some (.ins C dx []) ∧ OptL o x1 H ∧ ∀ H' v, FrO a H H' → H' a = some (.ins C dx (fsS x0 v x2 x3 x4 x5 x6 x7 x8 x9 x10 x11)) → OptN o v H H' → Q .non H'
theorem ok_Settings_init (T : TX K mg) : FnOk P w K mg base CX0 1 T.a_Settings_init T.d_Settings_init ["self", "block_size", "block_sizes", "fixed_order", "linear_order", "search", "precision", "partition_order", "wide", "stereo", "wasted", "seek_interval", "vendor"] (sp_setinit T.C_Settings) := by
  refine T.F_Settings_init.ok sc_Settings_init (fun vs H Q E h => by obtain ⟨a, dx, x0, x1, x2, x3, x4, x5, x6, x7, x8, x9, x10, x11, o, rfl, _⟩ := h; rfl) (fun cdv A outer s H vs Q E hr h => ?_)
  obtain ⟨a, dx, x0, x1, x2, x3, x4, x5, x6, x7, x8, x9, x10, x11, o, rfl, ha, ho, k⟩ := h
  refine ⟨_, (pss_cons (ps_fld (pv 0) (pv 1) rfl)
      (pss_cut (ps_fld (pv 0) (pe_ifExp (pt_cmpR op_isN1 (pv 2) pe_non (nomark _)) pe_non (pe_callTy (r := rListS K) call_list_of (by rfl) T.m_list PyProof.Rows.boot_list (pa_cons (pv 2) pa_nil))) rfl)
      (pss_cons (ps_fld (pv 0) (pv 3) rfl)
      (pss_cons (ps_fld (pv 0) (pv 4) rfl)
      (pss_cons (ps_fld (pv 0) (pv 5) rfl)
      (pss_cons (ps_fld (pv 0) (pv 6) rfl)
      (pss_cons (ps_fld (pv 0) (pv 7) rfl)
      (pss_cons (ps_fld (pv 0) (pv 8) rfl)
      (pss_cons (ps_fld (pv 0) (pv 9) rfl)
      (pss_cons (ps_fld (pv 0) (pv 10) rfl)
      (pss_cons (ps_fld (pv 0) (pv 11) rfl)
      (pss_one (ps_fld (pv 0) (pv 12) rfl))))))))))))), ?_⟩
  refine q_fld T.cl_Settings T.n_Settings_block_size (v := x0) (ev_var rfl) (ev_var rfl) ha (by decide) fun H1 e1 => ?_
  have f1 := (FrO.ex (a := a) e1).upd (o := .ins T.C_Settings dx (putF "block_size" x0 []))
  have ho1 := ho.fr ha f1
  have ha1 : (upd H1 a (.ins T.C_Settings dx (putF "block_size" x0 []))) a = some (.ins T.C_Settings dx (putF "block_size" x0 [])) := upd_same
  generalize upd H1 a (.ins T.C_Settings dx (putF "block_size" x0 [])) = G1 at *
  refine q_cut (M := fun σ' H' => σ' = [some (.ref a), some x0, some x1, some x2, some x3, some x4, some x5, some x6, some x7, some x8, some x9, some x10, some x11] ∧ ∃ v, FrO a H H' ∧ H' a = some (.ins T.C_Settings dx [("block_size", x0), ("block_sizes", v)]) ∧ OptN o v H H') ?_ ?_
  · cases o with
    | none =>
      have ho1 : x1 = .non := ho1
      subst ho1
      exact s_fld T.cl_Settings T.n_Settings_block_sizes (v := .non) (ev_if (b := true) (et_is (et_test (ev_isN (ev_var rfl))) (by simp)) (fun _ => ev_c) (fun hb => by cases hb)) (ev_var rfl) ha1 (Nat.le_of_ble_eq_true rfl) fun H2 e2 => ⟨rfl, .non, (f1.trans (FrO.ex e2)).upd, upd_same, rfl⟩
    | some l =>
      obtain ⟨q, rfl, hq⟩ := ho1
      refine s_fldL T.cl_Settings T.n_Settings_block_sizes (xs := l) (el_if (b := false) (et_is (et_test (ev_isN (ev_var rfl))) (by simp)) (fun hb => by cases hb) (fun _ => el_of (K := K) (Ev.s (ev_var rfl) (sq_of hq)))) (fun _ _ => ev_var rfl) ha1 (Nat.le_of_ble_eq_true rfl) fun p H2 hp e2 g2 => ⟨rfl, .ref p, (f1.trans (FrO.ex e2)).upd, upd_same, p, rfl, ?_, ?_⟩
      · cases hh : H p with
        | none => rfl
        | some u =>
          have hpa : p ≠ a := by rintro rfl; rw [ha1] at hp; cases hp
          rw [f1 p u hpa hh] at hp
          cases hp
      · rw [upd_ne (by rintro rfl; rw [ha1] at hp; cases hp)]
        exact g2
  rintro σ' G2 ⟨rfl, v, f2, ha2, ho2⟩
  refine q_fld T.cl_Settings T.n_Settings_fixed_order (v := x2) (ev_var rfl) (ev_var rfl) ha2 (Nat.le_of_ble_eq_true rfl) fun H3 e3 => ?_
  refine q_fld T.cl_Settings T.n_Settings_linear_order (v := x3) (ev_var rfl) (ev_var rfl) upd_same (Nat.le_of_ble_eq_true rfl) fun H4 e4 => ?_
  refine q_fld T.cl_Settings T.n_Settings_search (v := x4) (ev_var rfl) (ev_var rfl) upd_same (Nat.le_of_ble_eq_true rfl) fun H5 e5 => ?_
  refine q_fld T.cl_Settings T.n_Settings_precision (v := x5) (ev_var rfl) (ev_var rfl) upd_same (Nat.le_of_ble_eq_true rfl) fun H6 e6 => ?_
  refine q_fld T.cl_Settings T.n_Settings_partition_order (v := x6) (ev_var rfl) (ev_var rfl) upd_same (Nat.le_of_ble_eq_true rfl) fun H7 e7 => ?_
  refine q_fld T.cl_Settings T.n_Settings_wide (v := x7) (ev_var rfl) (ev_var rfl) upd_same (Nat.le_of_ble_eq_true rfl) fun H8 e8 => ?_
  refine q_fld T.cl_Settings T.n_Settings_stereo (v := x8) (ev_var rfl) (ev_var rfl) upd_same (Nat.le_of_ble_eq_true rfl) fun H9 e9 => ?_
  refine q_fld T.cl_Settings T.n_Settings_wasted (v := x9) (ev_var rfl) (ev_var rfl) upd_same (Nat.le_of_ble_eq_true rfl) fun H10 e10 => ?_
  refine q_fld T.cl_Settings T.n_Settings_seek_interval (v := x10) (ev_var rfl) (ev_var rfl) upd_same (Nat.le_of_ble_eq_true rfl) fun H11 e11 => ?_
  refine s_fld T.cl_Settings T.n_Settings_vendor (v := x11) (ev_var rfl) (ev_var rfl) upd_same (Nat.le_of_ble_eq_true rfl) fun H12 e12 => ?_
  have f9 := fun o => ((((((((((f2.trans (FrO.ex (a := a) e3)).upd.trans (FrO.ex e4)).upd.trans (FrO.ex e5)).upd.trans (FrO.ex e6)).upd.trans (FrO.ex e7)).upd.trans (FrO.ex e8)).upd.trans (FrO.ex e9)).upd.trans (FrO.ex e10)).upd.trans (FrO.ex e11)).upd.trans (FrO.ex e12)).upd (o := o)
  have f10 := fun o => (((((((((((FrO.ex (a := a) (Ex.refl G2)).trans (FrO.ex (a := a) e3)).upd.trans (FrO.ex e4)).upd.trans (FrO.ex e5)).upd.trans (FrO.ex e6)).upd.trans (FrO.ex e7)).upd.trans (FrO.ex e8)).upd.trans (FrO.ex e9)).upd.trans (FrO.ex e10)).upd.trans (FrO.ex e11)).upd.trans (FrO.ex e12)).upd (o := o)
  refine k _ v (f9 _) upd_same ?_
  cases o with
  | none => exact ho2
  | some l =>
    obtain ⟨q, rfl, hq, hq2⟩ := ho2
    exact ⟨q, rfl, hq, f10 _ q _ (by rintro rfl; rw [ha2] at hq2; cases hq2) hq2⟩

theorem ev_isiT {σ : L2.St} {H : Hp} {ta : TE} {a : Addr} {xs : List V} (ha : Ev ta σ H (.ref a)) (h : H a = some (.tup xs)) : Ev (tCB (rIsi K) (tCons ta (tCons (tC (.ty "tuple")) tNil))) σ H (.bl true) := ev_isi ha (isi_tup h) kit_tt
theorem ev_lenT {σ : L2.St} {H : Hp} {ta : TE} {a : Addr} {xs : List V} (ha : Ev ta σ H (.ref a)) (h : H a = some (.tup xs)) : Ev (tCB (rLenS K) (tCons ta tNil)) σ H (.int (xs.length : Int)) := fun H1 e Q q =>
  ha H1 e _ fun H2 e2 => ⟨a, xs, rfl, .inr (st_of ((e.trans e2) _ _ h)), q H2 e2⟩

/-! ### how audio is divided -/
def szB (pat : List Int) (k : Nat) (left : Int) : Int := if pat.getD (k % pat.length) 0 < left then pat.getD (k % pat.length) 0 else left
def accB (pat : List Int) (L : Int) : Nat → List Int × Int
  | 0 => ([], L)
  | k + 1 => if 0 < (accB pat L k).2 then ((accB pat L k).1 ++ [szB pat k (accB pat L k).2], (accB pat L k).2 - szB pat k (accB pat L k).2) else accB pat L k
def PatOk (pat : List Int) : Prop := 0 < pat.length ∧ pat.length ≤ 100 ∧ ∀ x ∈ pat, 16 ≤ x ∧ x ≤ 70000
def blkB (pat : List Int) (L : Int) : List Int := (accB pat L 200).1
theorem pat_at {pat : List Int} (h : PatOk pat) (k : Nat) : pat[k % pat.length]? = some (pat.getD (k % pat.length) 0) ∧ 16 ≤ pat.getD (k % pat.length) 0 := by
  have hk := Nat.mod_lt k h.1
  have := gl_get (ns := pat) hk
  exact ⟨this, (h.2.2 _ (List.mem_of_getElem? this)).1⟩
theorem accB_inv {pat : List Int} (h : PatOk pat) {L : Int} (hL : 0 ≤ L) : ∀ k, 0 ≤ (accB pat L k).2 ∧ (0 < (accB pat L k).2 → (accB pat L k).1.length = k ∧ (accB pat L k).2 + 16 * k ≤ L) ∧ (accB pat L k).1.sum + (accB pat L k).2 = L ∧ (accB pat L k).1.length ≤ k
  | 0 => by
    refine ⟨hL, fun _ => ⟨rfl, ?_⟩, ?_, Nat.le_refl _⟩
    · show L + 16 * ((0 : Nat) : Int) ≤ L
      omega
    · show ([] : List Int).sum + L = L
      rw [List.sum_nil, Int.zero_add]
  | k + 1 => by
    obtain ⟨h1, h2, h3, h4⟩ := accB_inv h hL k
    have hp := (pat_at h k).2
    have hacc : accB pat L (k + 1) = if 0 < (accB pat L k).2 then ((accB pat L k).1 ++ [szB pat k (accB pat L k).2], (accB pat L k).2 - szB pat k (accB pat L k).2) else accB pat L k := rfl
    rw [hacc]
    clear hacc
    by_cases hl : 0 < (accB pat L k).2
    · obtain ⟨h5, h6⟩ := h2 hl
      rw [if_pos hl]
      generalize accB pat L k = st at *
      obtain ⟨acc, left⟩ := st
      dsimp only at *
      have hs : szB pat k left ≤ left ∧ (szB pat k left = left ∨ 16 ≤ szB pat k left) := by
        unfold szB
        split <;> omega
      generalize szB pat k left = z at *
      refine ⟨by omega, fun hz => ⟨by rw [List.length_append]; show acc.length + 1 = k + 1; omega, by omega⟩, ?_, by rw [List.length_append]; show acc.length + 1 ≤ k + 1; omega⟩
      rw [List.sum_append]
      show acc.sum + (z + 0) + (left - z) = L
      omega
    · rw [if_neg hl]
      exact ⟨h1, fun z => absurd z hl, h3, by omega⟩
theorem accB_stop {pat : List Int} {L : Int} {k : Nat} (h : ¬ 0 < (accB pat L k).2) : ∀ d, accB pat L (k + d) = accB pat L k
  | 0 => rfl
  | d + 1 => by
    show (if 0 < (accB pat L (k + d)).2 then _ else accB pat L (k + d)) = _
    rw [accB_stop h d, if_neg h]
theorem blk_at {pat : List Int} {L : Int} {k : Nat} (h : ¬ 0 < (accB pat L k).2) (hk : k ≤ 200) : (accB pat L k).1 = blkB pat L := by
  unfold blkB
  rw [show 200 = k + (200 - k) by omega, accB_stop h]
theorem blk_len {pat : List Int} (h : PatOk pat) {L : Int} (hL : 0 ≤ L) : (blkB pat L).length ≤ 200 := (accB_inv h hL 200).2.2.2
theorem blk_sum {pat : List Int} (h : PatOk pat) {L : Int} (hL : 0 ≤ L) (h2 : L ≤ 3000) : (blkB pat L).sum = L := by
  obtain ⟨h1, h3, h4, -⟩ := accB_inv h hL 200
  have : ¬ 0 < (accB pat L 200).2 := fun z => by
    have := (h3 z).2
    omega
  unfold blkB
  omega
/-- what settings have -/
def fs0 (size : Int) (v : V) : List (Str × V) := fsS (.int size) v (.int 4) (.int 0) (.bl false) (.int 12) (.int 4) (.bl false) (.bl true) (.bl true) (.int 0) (.str "")
def PatOf (size : Int) (o : Option (List V)) (pat : List Int) : Prop := match o with
  | none => pat = [size]
  | some l => l = pat.map V.int
def SetI (K : PySem.W.Frag) (C : Addr) (H : Hp) (s : Addr) (size : Int) (o : Option (List V)) : Prop := ∃ dx v, H s = some (.ins C dx (fs0 size v)) ∧ OptL o v H
theorem OptL.mono {o : Option (List V)} {x : V} {H H' : Hp} (h : OptL o x H) (e : Ex H H') : OptL o x H' := by
  cases o with
  | none => exact h
  | some l =>
    obtain ⟨q, e1, g⟩ := h
    exact ⟨q, e1, e _ _ g⟩
theorem SetI.mono {C s : Addr} {H H' : Hp} {size : Int} {o : Option (List V)} (h : SetI K C H s size o) (e : Ex H H') : SetI K C H' s size o := by
  obtain ⟨dx, v, h1, h2⟩ := h
  exact ⟨dx, v, e _ _ h1, h2.mono e⟩
def sp_bsizes (K : PySem.W.Frag) (C : Addr) : Sp := fun vs H Q _ => ∃ (L : Int) (s : Addr) (size : Int) (o : Option (List V)) (pat : List Int), vs = [.int L, .ref s] ∧ 0 ≤ L ∧ L ≤ 3000 ∧ SetI K C H s size o ∧ PatOf size o pat ∧ PatOk pat ∧ RetL ((blkB pat L).map V.int) H Q
theorem ok_block_sizes (T : TX K mg) : FnOk P w K mg base CX0 1 T.a_block_sizes T.d_block_sizes ["length", "settings"] (sp_bsizes K T.C_Settings) := by
  refine T.F_block_sizes.ok sc_block_sizes (fun vs H Q E h => by obtain ⟨L, s, size, o, pat, rfl, _⟩ := h; rfl) (fun cdv A outer s0 H vs Q E hr h => ?_)
  obtain ⟨L, s, size, o, pat, rfl, hL, hL2, ⟨dx, v, hs, ho⟩, hpo, hp, k⟩ := h
  refine ⟨_, (pss_cut (ps_set (i := 2) sc_block_sizes.nd rfl (Or.inl rfl) (pe_ifExp (pt_cmpR op_isN1 (pe_fld (pv 1) rfl) pe_non (nomark _)) (pe_lst (pa_cons (pe_fld (pv 1) rfl) pa_nil)) (pe_fld (pv 1) rfl)))
      (pss_cons (ps_set (i := 3) sc_block_sizes.nd rfl (Or.inl rfl) (pe_lst pa_nil))
      (pss_cons (ps_set (i := 4) sc_block_sizes.nd rfl (Or.inl rfl) (pv 0))
      (pss_cons (ps_while PassesOwn.never (pt_cmpR op_gt (pv 4) pe_int (nomark _)) (pss_cons (ps_set (i := 5) sc_block_sizes.nd rfl (Or.inl rfl) (pe_callB (call_min2 rfl) (by rfl) T.m_min PyProof.Rows.boot_min (pa_cons (pv 4) (pa_cons (pe_ix (r := rIxL K) ix_list (pv 2) (pe_op op_mod (pe_callB (r := rLenS K) call_len_seq (by rfl) T.m_len PySem.boot_len (pa_cons (pv 3) pa_nil)) (pe_callB (r := rLenS K) call_len_seq (by rfl) T.m_len PySem.boot_len (pa_cons (pv 2) pa_nil))) (fun _ _ => rfl)) pa_nil))))
        (pss_cons (ps_expr (pe_bm PySem.F.plainAttrs_list PySem.F.slot_list_append PySem.F.type_list_append mt_append (pv 3) (pa_cons (pv 5) pa_nil)))
        (pss_one (ps_aug (i := 4) sc_block_sizes.nd rfl (Or.inl rfl) (pv 5) ip_sub)))))
      (pss_one (ps_ret (pv 3))))))), ?_⟩
  refine q_cut (M := fun σ' H' => ∃ pt, σ' = [some (.int L), some (.ref s), some (.ref pt), none, none, none] ∧ Ex H H' ∧ SqL K H' pt (pat.map V.int)) ?_ ?_
  · have hf : ∀ {H' : Hp}, Ex H H' → Ev (tFld K (tVar 1) "block_sizes") (start ["length", "settings", "pattern", "sizes", "left", "size"] [.int L, .ref s]) H' v := fun e => ev_fld T.cl_Settings T.n_Settings_block_sizes (ev_var rfl) (e _ _ hs) rfl
    cases o with
    | none =>
      have ho : v = .non := ho
      subst ho
      have hpo : pat = [size] := hpo
      subst hpo
      exact s_asgL (xs := [.int size]) (el_if (b := true) (et_is (et_test (ev_isN (hf (Ex.refl _)))) (by simp)) (fun _ => el_lst (ea_cons (ev_fld T.cl_Settings T.n_Settings_block_size (ev_var rfl) hs rfl) ea_nil) (Nat.le_of_ble_eq_true rfl)) (fun hb => by cases hb)) fun p H1 _ e1 g1 => ⟨p, rfl, e1, sq_of g1⟩
    | some l =>
      obtain ⟨q, rfl, hq⟩ := ho
      have hpo : l = pat.map V.int := hpo
      subst hpo
      exact s_asg (v := .ref q) (ev_if (b := false) (et_is (et_test (ev_isN (hf (Ex.refl _)))) (by simp)) (fun hb => by cases hb) (fun _ => hf (Ex.refl _))) fun H1 e1 => ⟨q, rfl, e1, sq_of (e1 _ _ hq)⟩
  rintro σ' H1 ⟨pt, rfl, e1, hpt⟩
  have hpl := hp.1
  refine q_asgL (xs := []) (el_lst ea_nil (by decide)) fun p H2 hp2 e2 g2 => ?_
  refine q_asg (ev_var rfl) fun H3 e3 => ?_
  have hpH := fresh_back e1 hp2
  refine q_while (fun m σ' H' => ∃ (n : Nat) (z5 : Option V), σ' = [some (.int L), some (.ref s), some (.ref pt), some (.ref p), some (.int (accB pat L n).2), z5] ∧ Ex H1 H' ∧ H' p = some (.lst ((accB pat L n).1.map V.int)) ∧ n ≤ 200 ∧ m = 200 - n) 200 ⟨0, none, rfl, e2.trans e3, e3 _ _ g2, by omega, rfl⟩ ?_
  rintro m σ' H4 ⟨n, z5, rfl, ex, gp, hn, rfl⟩
  obtain ⟨i1, i2, i3, i4⟩ := accB_inv hp hL n
  refine ⟨decide (0 < (accB pat L n).2), et_test (ev_I0 (ev_var rfl) ev_c), fun hb H5 e5 => ?_, fun hb H5 e5 => ?_⟩
  · have hb := of_decide_eq_true hb
    obtain ⟨i5, i6⟩ := i2 hb
    have hn2 : n < 200 := by omega
    have hac : accB pat L (n + 1) = ((accB pat L n).1 ++ [szB pat n (accB pat L n).2], (accB pat L n).2 - szB pat n (accB pat L n).2) := by
      show (if 0 < (accB pat L n).2 then _ else accB pat L n) = _
      rw [if_pos hb]
    refine ⟨fun σ2 H2 => ∃ (z5 : Option V), σ2 = [some (.int L), some (.ref s), some (.ref pt), some (.ref p), some (.int (accB pat L (n + 1)).2), z5] ∧ Ex H1 H2 ∧ H2 p = some (.lst ((accB pat L (n + 1)).1.map V.int)), fun σ2 H2 ⟨z5, h1, h2, h3⟩ => ⟨200 - (n + 1), by omega, n + 1, z5, h1, h2, h3, by omega, rfl⟩, ?_⟩
    have g5 := e5 _ _ gp
    refine q_asg (v := .int (szB pat n (accB pat L n).2)) (Ev.is (ev_min2 (ev_var rfl) (ev_ixS (i := 0) (n := ((n % pat.length : Nat) : Int)) (v := .int (pat.getD (n % pat.length) 0)) (Ev.s (ev_var rfl) (ex_l (ex.trans e5) hpt)) (Ev.is (ev_I (ev_lenS (K := K) (Ev.s (ev_var rfl) (sq_of g5))) (ev_lenS (K := K) (Ev.s (ev_var rfl) (ex_l (ex.trans e5) hpt))) (show (0 : Int) < _ by rw [List.length_map]; omega)) (congrArg V.int (by rw [List.length_map, List.length_map, i5, Int.natCast_emod]))) (at_of rfl (at_int (pat_at hp n).1)))) rfl) fun H6 e6 => ?_
    refine q_app (v := .int (szB pat n (accB pat L n).2)) (e6 _ _ g5) (ev_var rfl) (ev_var rfl) (by rw [List.length_map]; omega) fun H7 e7 => ?_
    rw [hac]
    refine s_aug (a := (accB pat L n).2) rfl (ev_var rfl) fun H8 e8 => ⟨_, rfl, (Ex.mut (ex.trans (e5.trans (e6.trans e7))) hp2).trans e8, e8 _ _ (by rw [upd_same, List.map_append]; rfl)⟩
  · have hb := of_decide_eq_false hb
    rw [blk_at hb hn] at gp
    exact s_ret (v := .ref p) (ev_var rfl) fun H6 e6 => k p H6 hpH (e1.trans (ex.trans (e5.trans e6))) ((e5.trans e6) _ _ gp)
def startsB (ns : List Int) : List Int := (List.range ns.length).map fun i => (ns.take i).sum
theorem sum_snoc {xs : List Int} {i : Nat} {x : Int} (h : xs[i]? = some x) : (xs.take (i + 1)).sum = (xs.take i).sum + x := by
  have : xs.take (i + 1) = xs.take i ++ [x] := by rw [List.take_add_one, h]; rfl
  rw [this, List.sum_append]
  show _ + (x + 0) = _
  rw [Int.add_zero]
def sp_bstarts (K : PySem.W.Frag) : Sp := fun vs H Q _ => ∃ (a : Addr) (ns : List Int), vs = [.ref a] ∧ SqL K H a (ns.map V.int) ∧ ns.length ≤ 10000 ∧ RetL ((startsB ns).map V.int) H Q
theorem ok_block_starts (T : TX K mg) : FnOk P w K mg base CX0 1 T.a_block_starts T.d_block_starts ["sizes"] (sp_bstarts K) := by
  refine T.F_block_starts.ok sc_block_starts (fun vs H Q E h => by obtain ⟨a, ns, rfl, _⟩ := h; rfl) (fun cdv A outer s0 H vs Q E hr h => ?_)
  obtain ⟨a, ns, rfl, hS, hl, k⟩ := h
  refine ⟨_, (pss_cons (ps_set (i := 1) sc_block_starts.nd rfl (Or.inl rfl) (pe_lst pa_nil))
      (pss_cons (ps_set (i := 2) sc_block_starts.nd rfl (Or.inl rfl) pe_int)
      (pss_cons (ps_for PassesOwn.never rfl (pi_list (pv 0)) (pg_name (i := 3) sc_block_starts.nd rfl (Or.inl rfl)) (pss_cons (ps_expr (pe_bm PySem.F.plainAttrs_list PySem.F.slot_list_append PySem.F.type_list_append mt_append (pv 1) (pa_cons (pv 2) pa_nil)))
        (pss_one (ps_aug (i := 2) sc_block_starts.nd rfl (Or.inl rfl) (pv 3) ip_add))))
      (pss_one (ps_ret (pv 1)))))), ?_⟩
  refine q_asgL (xs := []) (el_lst ea_nil (by decide)) fun p H1 hp e1 g1 => ?_
  refine q_asg ev_c fun H2 e2 => ?_
  refine q_forLn (K := K) (a := a) (ev_var rfl) (ex_l (e1.trans e2) hS) (fun i σ' H' => ∃ z3, σ' = [some (.ref a), some (.ref p), some (.int (ns.take i).sum), z3] ∧ Ex H H' ∧ H' p = some (.lst (((startsB ns).take i).map V.int))) (fun H3 e3 => ⟨none, rfl, (e1.trans e2).trans e3, (e2.trans e3) _ _ g1⟩) (fun i σ' H' _ h => by obtain ⟨_, _, ex, _⟩ := h; exact ex_l ex hS) ?_ ?_
  · rintro i x σ' H3 hx ⟨z3, rfl, ex, gp⟩
    obtain ⟨n, hn, hi, rfl⟩ := int_at hx
    have ht : (startsB ns)[i]? = some (ns.take i).sum := by unfold startsB; rw [List.getElem?_map, List.getElem?_range hi]; rfl
    refine q_app (v := .int (ns.take i).sum) gp (ev_var rfl) (ev_var rfl) (by rw [List.length_map, List.length_take]; omega) fun H4 e4 => ?_
    refine s_aug (a := (ns.take i).sum) rfl (ev_var rfl) fun H5 e5 => ⟨some (.int n), ?_, (Ex.mut (ex.trans e4) hp).trans e5, e5 _ _ ?_⟩
    · rw [sum_snoc hn]
      rfl
    · rw [upd_same, show (startsB ns).take (i + 1) = (startsB ns).take i ++ [(ns.take i).sum] by rw [List.take_add_one, ht]; rfl, List.map_append]
      rfl
  rintro σ' H3 ⟨z3, rfl, ex, gp⟩
  rw [List.length_map, List.take_of_length_le (by unfold startsB; rw [List.length_map, List.length_range]; exact Nat.le_refl _)] at gp
  exact s_ret (v := .ref p) (ev_var rfl) fun H4 e4 => k p H4 hp (ex.trans e4) (e4 _ _ gp)
def rangeB (size : Int) (o : Option (List V)) (pat : List Int) (L : Int) : Int × Int := match o with
  | none => (size, size)
  | some _ => if (blkB pat L).length < 2 then (pat.getD 0 0, pat.getD 0 0) else (minL (blkB pat L).dropLast, maxL (blkB pat L))
theorem cut_last (xs : List V) : cutV xs none (some (-1)) = xs.dropLast := by
  unfold cutV
  rw [HT.sIx_none, List.drop_zero, Nat.sub_zero, List.dropLast_eq_take]
  congr 1
  unfold HT.sIx
  show (if (-1 : Int) < 0 then _ else _ : Nat) = _
  rw [if_pos (by decide)]
  omega
def sp_srange (K : PySem.W.Frag) (C : Addr) : Sp := fun vs H Q _ => ∃ (L : Int) (s : Addr) (size : Int) (o : Option (List V)) (pat : List Int), vs = [.int L, .ref s] ∧ 0 ≤ L ∧ L ≤ 3000 ∧ SetI K C H s size o ∧ PatOf size o pat ∧ PatOk pat ∧ ∀ p H', H p = none → Ex H H' → H' p = some (.tup [.int (rangeB size o pat L).1, .int (rangeB size o pat L).2]) → Q (.ref p) H'
theorem el_bsizes {C : Addr} {σ : L2.St} {H : Hp} {t1 t2 : TE} {E : XK} {L size : Int} {s : Addr} {o : Option (List V)} {pat : List Int} (h1 : Ev t1 σ H (.int L)) (h2 : Ev t2 σ H (.ref s)) (hL : 0 ≤ L) (hL2 : L ≤ 3000) (hs : SetI K C H s size o) (hpo : PatOf size o pat) (hp : PatOk pat) : EvL (tCall (sp_bsizes K C) [] E (tCons t1 (tCons t2 tNil))) σ H ((blkB pat L).map V.int) := el_call (ea_cons h1 (ea_cons h2 ea_nil)) fun H1 e Q q _ => ⟨L, s, size, o, pat, rfl, hL, hL2, hs.mono e, hpo, hp, fun p H2 hp e2 g => q p H2 hp e2 g⟩
theorem ok_size_range (T : TX K mg) : FnOk P w K mg base CX0 2 T.a_size_range T.d_size_range ["length", "settings"] (sp_srange K T.C_Settings) := by
  refine T.F_size_range.ok sc_size_range (fun vs H Q E h => by obtain ⟨L, s, size, o, pat, rfl, _⟩ := h; rfl) (fun cdv A outer s0 H vs Q E hr h => ?_)
  obtain ⟨L, s, size, o, pat, rfl, hL, hL2, hSI, hpo, hp, k⟩ := h
  obtain ⟨dx, v, hs, ho⟩ := hSI
  refine ⟨_, (pss_cons (ps_if (pt_cmpR op_isN1 (pe_fld (pv 1) rfl) pe_non (nomark _)) (pss_one (ps_ret (pe_tup (pa_cons (pe_fld (pv 1) rfl) (pa_cons (pe_fld (pv 1) rfl) pa_nil))))) pss_nil)
      (pss_cons (ps_set (i := 2) sc_size_range.nd rfl (Or.inl rfl) (pe_call (ok_block_sizes T) (hr.mono (by decide)) (by rfl) T.g_block_sizes T.F_block_sizes.kp T.b_block_sizes .nil pass0 (pa_cons (pv 0) (pa_cons (pv 1) pa_nil))))
      (pss_cons (ps_if (pt_cmpR op_lt (pe_callB (r := rLenS K) call_len_seq (by rfl) T.m_len PySem.boot_len (pa_cons (pv 2) pa_nil)) pe_int (nomark _)) (pss_one (ps_ret (pe_tup (pa_cons (pe_ix (r := rIxL K) ix_list (pe_fld (pv 1) rfl) pe_int (fun _ _ => rfl)) (pa_cons (pe_ix (r := rIxL K) ix_list (pe_fld (pv 1) rfl) pe_int (fun _ _ => rfl)) pa_nil))))) pss_nil)
      (pss_one (ps_ret (pe_tup (pa_cons (pe_callB (r := rMin K) (cr_min rfl) (by rfl) T.m_min PyProof.Rows.boot_min (pa_cons (pe_slice (r := rSlL K) sl_list (pv 2) po_none (po_some (pe_un un_neg pe_int))) pa_nil)) (pa_cons (pe_callB (r := rMax K) (cr_max rfl) (by rfl) T.m_max PyProof.Rows.boot_max (pa_cons (pv 2) pa_nil)) pa_nil)))))))), ?_⟩
  have hsz : ∀ {σ : L2.St} {H' : Hp}, σ[1]? = some (some (.ref s)) → Ex H H' → Ev (tFld K (tVar 1) "block_size") σ H' (.int size) := fun h e => ev_fld T.cl_Settings T.n_Settings_block_size (ev_var h) (e _ _ hs) rfl
  have hf : ∀ {σ : L2.St} {H' : Hp}, σ[1]? = some (some (.ref s)) → Ex H H' → Ev (tFld K (tVar 1) "block_sizes") σ H' v := fun h e => ev_fld T.cl_Settings T.n_Settings_block_sizes (ev_var h) (e _ _ hs) rfl
  cases o with
  | none =>
    have ho : v = .non := ho
    subst ho
    refine q_when (b := true) (et_is (et_test (ev_isN (hf rfl (Ex.refl _)))) (by simp)) (fun _ H1 e1 => ?_) (fun hb => by cases hb)
    exact s_retU (eu_tup (ea_cons (hsz rfl e1) (ea_cons (hsz rfl e1) ea_nil)) (Nat.le_of_ble_eq_true rfl)) fun p H2 hp e2 g => k p H2 (fresh_back e1 hp) (e1.trans e2) g
  | some l =>
    have hSI : SetI K T.C_Settings H s size (some l) := ⟨dx, v, hs, ho⟩
    obtain ⟨q, rfl, hq⟩ := ho
    have hpo' : l = pat.map V.int := hpo
    subst hpo'
    refine q_when (b := false) (et_is (et_test (ev_isN (hf rfl (Ex.refl _)))) (by simp)) (fun hb => by cases hb) (fun _ H1 e1 => ?_)
    refine q_asgL (xs := (blkB pat L).map V.int) (el_bsizes (ev_var rfl) (ev_var rfl) hL hL2 (hSI.mono e1) hpo hp) fun b H2 hb e2 g2 => ?_
    have e12 := e1.trans e2
    unfold rangeB at k
    refine q_when (b := decide ((blkB pat L).length < 2)) (et_is (et_test (ev_I0 (ev_lenS (K := K) (Ev.s (ev_var rfl) (sq_of g2))) ev_c)) (by rw [List.length_map]; exact dec_lt (b := 2))) (fun hlt H3 e3 => ?_) (fun hlt H3 e3 => ?_)
    · have hlt := of_decide_eq_true hlt
      have k : ∀ p H', H p = none → Ex H H' → H' p = some (.tup [.int (if (blkB pat L).length < 2 then (pat.getD 0 0, pat.getD 0 0) else (minL (blkB pat L).dropLast, maxL (blkB pat L))).1, .int (if (blkB pat L).length < 2 then (pat.getD 0 0, pat.getD 0 0) else (minL (blkB pat L).dropLast, maxL (blkB pat L))).2]) → Q (.ref p) H' := k
      rw [if_pos hlt] at k
      have e13 := e12.trans e3
      have h0 : ∀ {σ : L2.St}, σ[1]? = some (some (.ref s)) → Ev (tOp (rIxL K) (tFld K (tVar 1) "block_sizes") (tC (.int 0))) σ H3 (.int (pat.getD 0 0)) := fun h => ev_ixS (i := 0) (n := 0) (Ev.s (hf h e13) (sq_of (e13 _ _ hq))) ev_c (at_of (j := 0) rfl (at_int (gl_get hp.1)))
      exact s_retU (eu_tup (ea_cons (h0 rfl) (ea_cons (h0 rfl) ea_nil)) (Nat.le_of_ble_eq_true rfl)) fun p H4 hp e4 g => k p H4 (fresh_back e13 hp) (e13.trans e4) g
    · have hlt := of_decide_eq_false hlt
      have k : ∀ p H', H p = none → Ex H H' → H' p = some (.tup [.int (if (blkB pat L).length < 2 then (pat.getD 0 0, pat.getD 0 0) else (minL (blkB pat L).dropLast, maxL (blkB pat L))).1, .int (if (blkB pat L).length < 2 then (pat.getD 0 0, pat.getD 0 0) else (minL (blkB pat L).dropLast, maxL (blkB pat L))).2]) → Q (.ref p) H' := k
      rw [if_neg hlt] at k
      have e13 := e12.trans e3
      have g3 := e3 _ _ g2
      exact s_retU (eu_tup (ea_cons (ev_minL (K := K) (ns := (blkB pat L).dropLast) (EvR.s (EvL.r (EvL.is (el_slS (K := K) (Ev.s (ev_var rfl) (sq_of g3)) eo_none (eo_some (ev_negI ev_c))) (by rw [cut_last, List.map_dropLast])))) (by rw [List.length_dropLast]; omega)) (ea_cons (ev_maxL (K := K) (Ev.s (ev_var rfl) (sq_of g3)) (by omega)) ea_nil)) (Nat.le_of_ble_eq_true rfl)) fun p H4 hp e4 g => k p H4 (fresh_back e13 hp) (e13.trans e4) g
def sp_lsizes (K : PySem.W.Frag) : Sp := fun vs H Q _ => ∃ (L : Int) (a : Addr) (pat : List Int), vs = [.int L, .ref a] ∧ 0 ≤ L ∧ SqL K H a (pat.map V.int) ∧ PatOk pat ∧ RetL ((blkB pat L).map V.int) H Q
theorem ok_law_sizes (T : TX K mg) : FnOk P w K mg base CX0 1 T.a_law_sizes T.d_law_sizes ["length", "told"] (sp_lsizes K) := by
  refine T.F_law_sizes.ok sc_law_sizes (fun vs H Q E h => by obtain ⟨L, a, pat, rfl, _⟩ := h; rfl) (fun cdv A outer s0 H vs Q E hr h => ?_)
  obtain ⟨L, a, pat, rfl, hL, hS, hp, k⟩ := h
  refine ⟨_, (pss_cons (ps_set (i := 2) sc_law_sizes.nd rfl (Or.inl rfl) (pe_lst pa_nil))
      (pss_cons (ps_set (i := 3) sc_law_sizes.nd rfl (Or.inl rfl) (pv 0))
      (pss_cons (ps_for PassesOwn.never rfl (pi_range1 (by rfl) T.m_range (pa_cons pe_int pa_nil)) (pg_name (i := 4) sc_law_sizes.nd rfl (Or.inl rfl)) (pss_one (ps_if (pt_cmpR op_gt (pv 3) pe_int (nomark _)) (pss_cons (ps_set (i := 5) sc_law_sizes.nd rfl (Or.inl rfl) (pe_callB (call_min2 rfl) (by rfl) T.m_min PyProof.Rows.boot_min (pa_cons (pv 3) (pa_cons (pe_ix (r := rIxL K) ix_list (pv 1) (pe_op op_mod (pv 4) (pe_callB (r := rLenS K) call_len_seq (by rfl) T.m_len PySem.boot_len (pa_cons (pv 1) pa_nil))) (fun _ _ => rfl)) pa_nil))))
          (pss_cons (ps_expr (pe_bm PySem.F.plainAttrs_list PySem.F.slot_list_append PySem.F.type_list_append mt_append (pv 2) (pa_cons (pv 5) pa_nil)))
          (pss_one (ps_set (i := 3) sc_law_sizes.nd rfl (Or.inl rfl) (pe_op op_sub (pv 3) (pv 5)))))) pss_nil)))
      (pss_one (ps_ret (pv 2)))))), ?_⟩
  have hpl := hp.1
  refine q_asgL (xs := []) (el_lst ea_nil (by decide)) fun p H1 hp1 e1 g1 => ?_
  refine q_asg (ev_var rfl) fun H2 e2 => ?_
  refine q_forR1 (n := 200) (ea_cons ev_c ea_nil) (by omega) (fun n σ' H' => ∃ z4 z5, σ' = [some (.int L), some (.ref a), some (.ref p), some (.int (accB pat L n).2), z4, z5] ∧ Ex H H' ∧ H' p = some (.lst ((accB pat L n).1.map V.int))) (fun H3 e3 => ⟨none, none, rfl, (e1.trans e2).trans e3, (e2.trans e3) _ _ g1⟩) ?_ ?_
  · rintro n σ' H4 hn ⟨z4, z5, rfl, ex, gp⟩
    obtain ⟨i1, i2, i3, i4⟩ := accB_inv hp hL n
    refine s_when (b := decide (0 < (accB pat L n).2)) (et_test (ev_I0 (ev_var rfl) ev_c)) (fun hb H5 e5 => ?_) (fun hb H5 e5 => ?_)
    · have hb := of_decide_eq_true hb
      have hac : accB pat L (n + 1) = ((accB pat L n).1 ++ [szB pat n (accB pat L n).2], (accB pat L n).2 - szB pat n (accB pat L n).2) := by
        show (if 0 < (accB pat L n).2 then _ else accB pat L n) = _
        rw [if_pos hb]
      have g5 := e5 _ _ gp
      have hs5 := ex_l (ex.trans e5) hS
      refine q_asg (v := .int (szB pat n (accB pat L n).2)) (Ev.is (ev_min2 (ev_var rfl) (ev_ixS (i := 0) (n := ((n % pat.length : Nat) : Int)) (v := .int (pat.getD (n % pat.length) 0)) (Ev.s (ev_var rfl) hs5) (Ev.is (ev_I (ev_var rfl) (ev_lenS (K := K) (Ev.s (ev_var rfl) hs5)) (show (0 : Int) < _ by rw [List.length_map]; omega)) (congrArg V.int (by rw [List.length_map, Int.natCast_emod]))) (at_of rfl (at_int (pat_at hp n).1)))) rfl) fun H6 e6 => ?_
      refine q_app (v := .int (szB pat n (accB pat L n).2)) (e6 _ _ g5) (ev_var rfl) (ev_var rfl) (by rw [List.length_map]; omega) fun H7 e7 => ?_
      rw [hac]
      exact s_asg (ev_I0 (ev_var rfl) (ev_var rfl)) fun H8 e8 => ⟨_, _, rfl, (Ex.mut (ex.trans (e5.trans (e6.trans e7))) hp1).trans e8, e8 _ _ (by rw [upd_same, List.map_append]; rfl)⟩
    · have hb := of_decide_eq_false hb
      have hac : accB pat L (n + 1) = accB pat L n := by
        show (if 0 < (accB pat L n).2 then _ else accB pat L n) = _
        rw [if_neg hb]
      rw [hac]
      exact ⟨_, _, rfl, ex.trans e5, e5 _ _ gp⟩
  rintro σ' H4 ⟨z4, z5, rfl, ex, gp⟩
  exact s_ret (v := .ref p) (ev_var rfl) fun H6 e6 => k p H6 hp1 (ex.trans e6) (e6 _ _ gp)
/-! ### the law -/
theorem OptN.back {o : Option (List V)} {x : V} {H0 H H1 : Hp} (h : OptN o x H H1) (e : Ex H0 H) : OptN o x H0 H1 := by
  cases o with
  | none => exact h
  | some l =>
    obtain ⟨q, e1, g, g2⟩ := h
    exact ⟨q, e1, fresh_back e g, g2⟩
theorem shaped_two (a b : Int) : SeqAt.shaped (.tuple [.int a, .int b]) = true := rfl
def optI (f : Bool) (pat : List Int) : Option (List V) := if f = true then some (pat.map V.int) else none
def sp_law (K : PySem.W.Frag) : Sp := fun vs H Q _ => ∃ (a : Addr) (ns : List Int), vs = [.ref a] ∧ SqL K H a (ns.map V.int) ∧ ns.length ≤ 63 ∧ ∀ H', Q (.bl true) H'
theorem ok_law (T : TX K mg) : FnOk P w K mg base CX0 3 T.a_law T.d_law ["script"] (sp_law K) := by
  refine T.F_law.ok sc_law (fun vs H Q E h => by obtain ⟨a, ns, rfl, _⟩ := h; rfl) (fun cdv A outer s H vs Q E hr h => ?_)
  obtain ⟨a, ns, rfl, hS, hlen, k⟩ := h
  refine ⟨_, (pss_cons (ps_set (i := 1) sc_law.nd rfl (Or.inl rfl) (pe_call (ok_law_cell T) (hr.mono (by decide)) (by rfl) T.g_law_cell T.F_law_cell.kp T.b_law_cell .nil pass0 (pa_cons (pv 0) (pa_cons pe_int pa_nil))))
      (pss_cons (ps_set (i := 2) sc_law.nd rfl (Or.inl rfl) (pe_op op_mod (pe_callTy call_int1 (by rfl) T.m_int PyProof.Rows.boot_int (pa_cons (pv 1) pa_nil)) pe_int))
      (pss_cons (ps_set (i := 3) sc_law.nd rfl (Or.inl rfl) (pe_ix (r := rIxL K) ix_list (pe_lst (pa_cons pe_int (pa_cons pe_int pa_nil))) (pe_op op_mod (pe_op op_fdiv (pe_callTy call_int1 (by rfl) T.m_int PyProof.Rows.boot_int (pa_cons (pv 1) pa_nil)) pe_int) pe_int) (fun _ _ => rfl)))
      (pss_cons (ps_set (i := 4) sc_law.nd rfl (Or.inl rfl) (pe_op op_add pe_int (pe_op op_mod (pe_callTy call_int1 (by rfl) T.m_int PyProof.Rows.boot_int (pa_cons (pe_call (ok_law_cell T) (hr.mono (by decide)) (by rfl) T.g_law_cell T.F_law_cell.kp T.b_law_cell .nil pass0 (pa_cons (pv 0) (pa_cons pe_int pa_nil))) pa_nil)) (pv 3))))
      (pss_cons (ps_set (i := 5) sc_law.nd rfl (Or.inl rfl) (pe_lst (pa_cons (pv 4) pa_nil)))
      (pss_cons (ps_set (i := 6) sc_law.nd rfl (Or.inl rfl) pe_non)
      (pss_cut (ps_if (pt_cmpR op_eq (pe_op op_mod (pe_callTy call_int1 (by rfl) T.m_int PyProof.Rows.boot_int (pa_cons (pe_call (ok_law_cell T) (hr.mono (by decide)) (by rfl) T.g_law_cell T.F_law_cell.kp T.b_law_cell .nil pass0 (pa_cons (pv 0) (pa_cons pe_int pa_nil))) pa_nil)) pe_int) pe_int (nomark _)) (pss_cons (ps_set (i := 7) sc_law.nd rfl (Or.inl rfl) (pe_ix (r := rIxL K) ix_list (pe_lst (pa_cons pe_int (pa_cons pe_int pa_nil))) (pe_op op_mod (pe_op op_fdiv (pe_callTy call_int1 (by rfl) T.m_int PyProof.Rows.boot_int (pa_cons (pe_call (ok_law_cell T) (hr.mono (by decide)) (by rfl) T.g_law_cell T.F_law_cell.kp T.b_law_cell .nil pass0 (pa_cons (pv 0) (pa_cons pe_int pa_nil))) pa_nil)) pe_int) pe_int) (fun _ _ => rfl)))
        (pss_cons (ps_setLc (i := 5) (own := [("x", 15)]) (g := gName 15) (tt := tYes) rfl sc_law.nd rfl rfl (sw_true rfl rfl rfl (by decide +kernel)) (pi_list (pe_call (ok_law_row T) (hr.mono (by decide)) (by rfl) T.g_law_row T.F_law_row.kp T.b_law_row .nil pass0 (pa_cons (pe_call (ok_law_cell T) (hr.mono (by decide)) (by rfl) T.g_law_cell T.F_law_cell.kp T.b_law_cell .nil pass0 (pa_cons (pv 0) (pa_cons pe_int pa_nil))) (pa_cons (pe_op op_add pe_int (pe_op op_mod (pe_op op_fdiv (pe_callTy call_int1 (by rfl) T.m_int PyProof.Rows.boot_int (pa_cons (pe_call (ok_law_cell T) (hr.mono (by decide)) (by rfl) T.g_law_cell T.F_law_cell.kp T.b_law_cell .nil pass0 (pa_cons (pv 0) (pa_cons pe_int pa_nil))) pa_nil)) pe_int) pe_int)) (pa_cons (pv 7) pa_nil))))) (blkOk_by (N := ["script", "first", "length", "both_methods", "size", "told", "listed", "bound", "settings", "expected", "sizes", "given", "starts", "limits", "actual", "x", "k"]) (sc := defScope s_law) (by decide +kernel)) (fun _ _ _ _ _ => pg_name (i := 15) sc_law.nd rfl (Or.inl rfl)) (fun _ _ _ _ _ => pts_nil) (fun _ _ _ _ _ => (pe_op op_add pe_int (pv 15))))
        (pss_one (ps_set (i := 6) sc_law.nd rfl (Or.inl rfl) (pe_callTy (r := rListS K) call_list_of (by rfl) T.m_list PyProof.Rows.boot_list (pa_cons (pv 5) pa_nil)))))) pss_nil)
      (pss_cons (ps_set (i := 8) sc_law.nd rfl (Or.inl rfl) (pe_makeK T.M_Settings (ok_Settings_init T) (hr.mono (by decide)) (by rfl) T.g_Settings T.k2_block_sizes_Settings_init pass0 (pa_cons (pv 4) pa_nil) (pk_cons (pv 6) pk_nil)))
      (pss_cut (ps_if (pt_cmpR op_notN1 (pv 6) pe_non (nomark _)) (pss_cons (ps_asg pe_int (pg_sub (pv 6) pe_int set_list))
        (pss_one (ps_expr (pe_bm PySem.F.plainAttrs_list PySem.F.slot_list_append PySem.F.type_list_append mt_append (pv 6) (pa_cons pe_int pa_nil))))) pss_nil)
      (pss_cons (ps_set (i := 9) sc_law.nd rfl (Or.inr rfl) (pe_call (ok_law_sizes T) (hr.mono (by decide)) (by rfl) T.g_law_sizes T.F_law_sizes.kp T.b_law_sizes .nil pass0 (pa_cons (pv 2) (pa_cons (pv 5) pa_nil))))
      (pss_cons (ps_set (i := 10) sc_law.nd rfl (Or.inl rfl) (pe_call (ok_block_sizes T) (hr.mono (by decide)) (by rfl) T.g_block_sizes T.F_block_sizes.kp T.b_block_sizes .nil pass0 (pa_cons (pv 2) (pa_cons (pv 8) pa_nil))))
      (pss_cons (ps_if (PW.pt (pw_or (pt_not (pt_val (pe_call (ok_law_integers T) (hr.mono (by decide)) (by rfl) T.g_law_integers T.F_law_integers.kp T.b_law_integers .nil pass0 (pa_cons (pv 10) pa_nil)))) (pw_or (pt_cmpR (op_neD (hu64 hr)) (pv 10) (pv 9) (nomark _)) (pw_or1 (pt_cmpR op_ne (pe_callB (r := rSum K) (cr_sum rfl) (by rfl) T.m_sum PyProof.Rows.boot_sum (pa_cons (pv 9) pa_nil)) (pv 2) (nomark _)))))) (pss_one (ps_ret pe_bl)) pss_nil)
      (pss_cons (ps_set (i := 11) sc_law.nd rfl (Or.inl rfl) (pe_callTy (r := rListS K) call_list_of (by rfl) T.m_list PyProof.Rows.boot_list (pa_cons (pv 9) pa_nil)))
      (pss_cons (ps_set (i := 12) sc_law.nd rfl (Or.inl rfl) (pe_call (ok_block_starts T) (hr.mono (by decide)) (by rfl) T.g_block_starts T.F_block_starts.kp T.b_block_starts .nil pass0 (pa_cons (pv 11) pa_nil)))
      (pss_cons (ps_if (PW.pt (pw_or (pt_not (pt_val (pe_call (ok_law_integers T) (hr.mono (by decide)) (by rfl) T.g_law_integers T.F_law_integers.kp T.b_law_integers .nil pass0 (pa_cons (pv 12) pa_nil)))) (pw_or (pt_cmpR (op_neD (hu64 hr)) (pv 12) (pe_lc (own := [("k", 16)]) (g := gName 16) (tt := tYes) rfl sc_law.nd (pi_range1 (by rfl) T.m_range (pa_cons (pe_callB (r := rLenS K) call_len_seq (by rfl) T.m_len PySem.boot_len (pa_cons (pv 9) pa_nil)) pa_nil)) (blkOk_by (N := ["script", "first", "length", "both_methods", "size", "told", "listed", "bound", "settings", "expected", "sizes", "given", "starts", "limits", "actual", "x", "k"]) (sc := defScope s_law) (by decide +kernel)) (fun _ _ _ _ _ => pg_name (i := 16) sc_law.nd rfl (Or.inl rfl)) (fun _ _ _ _ _ => pts_nil) (fun _ _ _ _ _ => (pe_callB (r := rSum K) (cr_sum rfl) (by rfl) T.m_sum PyProof.Rows.boot_sum (pa_cons (pe_slice (r := rSlL K) sl_list (pv 9) po_none (po_some (pv 16))) pa_nil)))) (nomark _)) (pw_or1 (pt_cmpR (op_neD (hu64 hr)) (pv 11) (pv 9) (nomark _)))))) (pss_one (ps_ret pe_bl)) pss_nil)
      (pss_cons (ps_set (i := 13) sc_law.nd rfl (Or.inl rfl) (pe_tup (pa_cons (pv 4) (pa_cons (pv 4) pa_nil))))
      (pss_cut (ps_if (pt_cmpR op_notN1 (pv 6) pe_non (nomark _)) (pss_cons (ps_set (i := 13) sc_law.nd rfl (Or.inl rfl) (pe_tup (pa_cons (pe_ix (r := rIxL K) ix_list (pv 5) pe_int (fun _ _ => rfl)) (pa_cons (pe_ix (r := rIxL K) ix_list (pv 5) pe_int (fun _ _ => rfl)) pa_nil))))
        (pss_one (ps_if (pt_cmpR op_gt (pe_callB (r := rLenS K) call_len_seq (by rfl) T.m_len PySem.boot_len (pa_cons (pv 9) pa_nil)) pe_int (nomark _)) (pss_one (ps_set (i := 13) sc_law.nd rfl (Or.inl rfl) (pe_tup (pa_cons (pe_callB (r := rMin K) (cr_min rfl) (by rfl) T.m_min PyProof.Rows.boot_min (pa_cons (pe_slice (r := rSlL K) sl_list (pv 9) po_none (po_some (pe_op op_sub (pe_callB (r := rLenS K) call_len_seq (by rfl) T.m_len PySem.boot_len (pa_cons (pv 9) pa_nil)) pe_int))) pa_nil)) (pa_cons (pe_callB (r := rMax K) (cr_max rfl) (by rfl) T.m_max PyProof.Rows.boot_max (pa_cons (pv 9) pa_nil)) pa_nil))))) pss_nil))) pss_nil)
      (pss_cons (ps_set (i := 14) sc_law.nd rfl (Or.inl rfl) (pe_call (ok_size_range T) (hr.mono (by decide)) (by rfl) T.g_size_range T.F_size_range.kp T.b_size_range .nil pass0 (pa_cons (pv 2) (pa_cons (pv 8) pa_nil))))
      (pss_cons (ps_if (PW.pt (pw_or (pt_not (pt_val (pe_callB (r := rIsi K) call_isi (by rfl) T.m_isinstance PyProof.Rows.boot_isinstance (pa_cons (pv 14) (pa_cons (pe_bltn (v := V.ty "tuple") (by rfl) T.m_tuple PyProof.Rows.boot_tuple rfl) pa_nil))))) (pw_or (pt_cmpR op_ne (pe_callB (r := rLenS K) call_len_seq (by rfl) T.m_len PySem.boot_len (pa_cons (pv 14) pa_nil)) pe_int (nomark _)) (pw_or (pt_not (pt_val (pe_call (ok_law_integer T) (hr.mono (by decide)) (by rfl) T.g_law_integer T.F_law_integer.kp T.b_law_integer .nil pass0 (pa_cons (pe_ix (r := rIxT K) ix_tup (pv 14) pe_int (fun _ _ => rfl)) pa_nil)))) (pw_or1 (pt_not (pt_val (pe_call (ok_law_integer T) (hr.mono (by decide)) (by rfl) T.g_law_integer T.F_law_integer.kp T.b_law_integer .nil pass0 (pa_cons (pe_ix (r := rIxT K) ix_tup (pv 14) pe_int (fun _ _ => rfl)) pa_nil))))))))) (pss_one (ps_ret pe_bl)) pss_nil)
      (pss_one (ps_ret (pe_cmpR (op_eqD (hu64 hr)) (pv 14) (pv 13) (nomark _))))))))))))))))))))))), ?_⟩
  have cell : ∀ (H' : Hp) (σ : L2.St) (E : XK) (i : Int), σ[0]? = some (some (.ref a)) → Ex H H' → 0 ≤ i → Ev (tCall (sp_cell K) [] E (tCons (tVar 0) (tCons (tC (.int i)) tNil))) σ H' (.int (cellI ns i)) := fun H' σ E i hσ e hi => ev_cell (ev_var hσ) (ex_l e hS) ev_c hi
  refine q_asg (cell H _ _ 0 rfl (Ex.refl _) (by decide)) fun H1 e1 => ?_
  generalize cellI ns 0 = c0
  obtain ⟨L, hLe⟩ : ∃ L : Int, c0 % 2001 = L := ⟨_, rfl⟩
  have hL : 0 ≤ L ∧ L ≤ 3000 := by omega
  refine q_asg (v := .int L) (Ev.is (ev_I (ev_int1 (ev_var rfl)) ev_c (by decide)) (congrArg V.int hLe)) fun H2 e2 => ?_
  obtain ⟨bm, hb9, hb1⟩ : ∃ b : Int, atI [V.int 200, V.int 65520] (c0 / 2001 % 2) = some (V.int b) ∧ 1 ≤ b ∧ b ≤ 65520 := by
    have h3 : c0 / 2001 % 2 = 0 ∨ c0 / 2001 % 2 = 1 := by omega
    rcases h3 with e | e <;> rw [e]
    · exact ⟨200, rfl, by decide⟩
    · exact ⟨65520, rfl, by decide⟩
  refine q_asg (v := .int bm) (ev_ixS (i := 0) (n := c0 / 2001 % 2) (EvR.s (EvL.r (el_lst (ea_cons ev_c (ea_cons ev_c ea_nil)) (by decide)))) (ev_I (ev_I (ev_int1 (ev_var rfl)) ev_c ⟨by decide, by decide⟩) ev_c (by decide)) hb9) fun H3 e3 => ?_
  have e13 := (e1.trans e2).trans e3
  obtain ⟨size, hsz⟩ : ∃ z : Int, 16 + cellI ns 1 % bm = z := ⟨_, rfl⟩
  have hsz2 : 16 ≤ size ∧ size ≤ 70000 := by
    have h1 := Int.emod_nonneg (cellI ns 1) (show bm ≠ 0 by omega)
    have h2 := Int.emod_lt_of_pos (cellI ns 1) (show 0 < bm by omega)
    omega
  refine q_asg (v := .int size) (Ev.is (ev_I0 ev_c (ev_I (ev_int1 (cell H3 _ _ 1 rfl e13 (by decide))) (ev_var rfl) (show 0 < bm by omega))) (congrArg V.int hsz)) fun H4 e4 => ?_
  refine q_asgL (xs := [.int size]) (el_lst (ea_cons (ev_var rfl) ea_nil) (Nat.le_of_ble_eq_true rfl)) fun pt H5 hpt e5 g5 => ?_
  refine q_asg ev_c fun H6 e6 => ?_
  have e14 := e13.trans e4
  have e16 := (e14.trans e5).trans e6
  refine q_cut (M := fun σ' H' => ∃ (f : Bool) (pt : Addr) (lv : V) (pat : List Int) (z7 : Option V), σ' = [some (.ref a), some (.int c0), some (.int L), some (.int bm), some (.int size), some (.ref pt), some lv, z7, none, none, none, none, none, none, none, none, none] ∧ Ex H H' ∧ PatOk pat ∧ (f = false → pat = [size]) ∧ H' pt = some (.lst (pat.map V.int)) ∧ (f = false → lv = .non) ∧ (f = true → ∃ pl, lv = .ref pl ∧ pl ≠ pt ∧ H pl = none ∧ H' pl = some (.lst (pat.map V.int)))) ?_ ?_
  · refine s_when (et_test (ev_eq (ev_I (ev_int1 (cell H6 _ _ 2 rfl e16 (by decide))) ev_c (by decide)) ev_c rfl)) (fun hb H7 e7 => ?_) (fun hb H7 e7 => ⟨false, pt, _, [size], _, rfl, e16.trans e7, ⟨Nat.le_of_ble_eq_true rfl, Nat.le_of_ble_eq_true rfl, fun x hx => ?_⟩, fun _ => rfl, (e6.trans e7) _ _ g5, fun _ => rfl, fun hf => by cases hf⟩)
    · have e17 := e16.trans e7
      obtain ⟨b2, hb9, hb1⟩ : ∃ b : Int, atI [V.int 100, V.int 65520] (cellI ns 2 / 2 % 2) = some (V.int b) ∧ 1 ≤ b ∧ b ≤ 65520 := by
        have h3 : cellI ns 2 / 2 % 2 = 0 ∨ cellI ns 2 / 2 % 2 = 1 := by omega
        rcases h3 with e | e <;> rw [e]
        · exact ⟨100, rfl, by decide⟩
        · exact ⟨65520, rfl, by decide⟩
      refine q_asg (v := .int b2) (ev_ixS (i := 0) (n := cellI ns 2 / 2 % 2) (EvR.s (EvL.r (el_lst (ea_cons ev_c (ea_cons ev_c ea_nil)) (by decide)))) (ev_I (ev_I (ev_int1 (cell _ _ _ 2 rfl e17 (by decide))) ev_c ⟨by decide, by decide⟩) ev_c (by decide)) hb9) fun H8 e8 => ?_
      have e18 := e17.trans e8
      obtain ⟨cnt, hcnt⟩ : ∃ cnt : Nat, 1 + cellI ns 2 / 4 % 6 = (cnt : Int) := ⟨(1 + cellI ns 2 / 4 % 6).toNat, by omega⟩
      have hc2 : 1 ≤ cnt ∧ cnt ≤ 6 := by omega
      refine q_asgLC (args := [.int (cellI ns 3), .int (cnt : Int), .int b2]) (ea_cons (cell H8 _ _ 3 rfl e18 (by decide)) (ea_cons (Ev.is (ev_I0 ev_c (ev_I (ev_I (ev_int1 (cell _ _ _ 2 rfl e18 (by decide))) ev_c ⟨by decide, by decide⟩) ev_c (by decide))) (congrArg V.int hcnt)) (ea_cons (ev_var rfl) ea_nil))) fun H9 e9 => ⟨cellI ns 3, cnt, b2, rfl, by omega, by omega, by omega, fun pr ds H10 hpr e10 g10 hdl hdb => ?_⟩
      have e1a := e18.trans (e9.trans e10)
      refine q_asgL (xs := (ds.map fun x => 16 + x).map V.int) (el_lcS _ (Ev.s ev_c (sq_of g10)) (by rw [List.length_map, List.length_map, List.length_map]) (by rw [List.length_map, List.length_map]; omega) (fun _ => rfl) fun i x H11 e11 hx => ?_) fun pn H11 hpn e11 g11 => ?_
      · obtain ⟨n, hn, hi, rfl⟩ := int_at hx
        exact ⟨_, at_int (n := 16 + n) (by rw [List.getElem?_map, hn]; rfl), ev_I0 ev_c (ev_var rfl)⟩
      refine s_asgL (xs := (ds.map fun x => 16 + x).map V.int) (el_of (K := K) (Ev.s (ev_var rfl) (sq_of g11))) fun pl H12 hpl e12 g12 => ⟨true, pn, _, ds.map fun x => 16 + x, _, rfl, (e1a.trans e11).trans e12, ⟨by rw [List.length_map]; omega, by rw [List.length_map]; omega, fun x hx => ?_⟩, (fun hf => by cases hf), e12 _ _ g11, (fun hf => by cases hf), fun _ => ⟨pl, rfl, ?_, fresh_back (e1a.trans e11) hpl, g12⟩⟩
      · obtain ⟨y, hy, rfl⟩ := List.mem_map.mp hx
        have := hdb y hy
        omega
      · rintro rfl
        rw [hpl] at g11
        cases g11
    · rw [List.mem_singleton.mp hx]
      exact hsz2
  clear hpt g5 e14 e16 e13 e1 e2 e3 e4 e5 e6
  rintro σ' H1 ⟨f, pt, lv, pat, z7, rfl, e1, hp, hf0, gpt, hf1, hf2⟩
  have hoL : OptL (optI f pat) lv H1 := by
    cases f with
    | false => exact hf1 rfl
    | true =>
      obtain ⟨pl, rfl, _, _, g⟩ := hf2 rfl
      exact ⟨pl, rfl, g⟩
  have hpo : PatOf size (optI f pat) pat := by
    cases f with
    | false => exact hf0 rfl
    | true => exact rfl
  refine q_asgN (R := fun s H' => ∃ dx v, H' s = some (.ins T.C_Settings dx (fs0 size v)) ∧ OptN (optI f pat) v H1 H') (en_makeK (vs := [.int size]) (zs := [lv]) (ea_cons (ev_var rfl) ea_nil) (ea_cons (ev_var rfl) ea_nil) rfl rfl fun a dx G Q' E' eG hG k' => ⟨a, dx, .int size, lv, .int 4, .int 0, .bl false, .int 12, .int 4, .bl false, .bl true, .bl true, .int 0, .str "", optI f pat, rfl, hG, hoL.mono eG, fun H' v hF hA hN => k' H' hF ⟨dx, v, hA, hN.back eG⟩⟩) fun ps H2 hps e2 ⟨dx, v, hs, hv⟩ => ?_
  refine q_cut (M := fun σ' H' => σ' = [some (.ref a), some (.int c0), some (.int L), some (.int bm), some (.int size), some (.ref pt), some lv, z7, some (.ref ps), none, none, none, none, none, none, none, none] ∧ Ex H H' ∧ H' pt = some (.lst (pat.map V.int)) ∧ SetI K T.C_Settings H' ps size (optI f pat)) ?_ ?_
  · cases f with
    | false =>
      have := hf1 rfl
      subst this
      exact s_when (b := false) (et_is (et_test (ev_notN (ev_var rfl))) (by simp)) (fun hb => by cases hb) (fun _ H3 e3 => ⟨rfl, (e1.trans e2).trans e3, (e2.trans e3) _ _ gpt, dx, v, e3 _ _ hs, (hv.mono e3).toL⟩)
    | true =>
      obtain ⟨pl, rfl, hne, hpl, gpl⟩ := hf2 rfl
      obtain ⟨q, rfl, hq, hq2⟩ := hv
      have g2 := e2 _ _ gpl
      have hql : q ≠ pl := by rintro rfl; rw [gpl] at hq; cases hq
      have hsl : ps ≠ pl := by rintro rfl; rw [gpl] at hps; cases hps
      refine s_when (b := true) (et_is (et_test (ev_notN (ev_var rfl))) (by simp)) (fun _ H3 e3 => ?_) (fun hb => by cases hb)
      refine q_setL (j := 0) (v := .int 7) (e3 _ _ g2) ev_c (ev_var rfl) ev_c (by rw [List.length_map]; exact hp.1) fun H4 e4 => ?_
      refine s_app (v := .int 3) upd_same (ev_var rfl) ev_c (by rw [List.length_set, List.length_map]; have := hp.2.1; omega) fun H5 e5 => ⟨rfl, ?_, ?_, dx, .ref q, ?_, q, rfl, ?_⟩
      · exact Ex.mut ((Ex.mut (((e1.trans e2).trans e3).trans e4) hpl).trans e5) hpl
      · rw [upd_ne (Ne.symm hne)]
        exact e5 _ _ (by rw [upd_ne (Ne.symm hne)]; exact (e2.trans (e3.trans e4)) _ _ gpt)
      · rw [upd_ne hsl]
        exact e5 _ _ (by rw [upd_ne hsl]; exact (e3.trans e4) _ _ hs)
      · rw [upd_ne hql]
        exact e5 _ _ (by rw [upd_ne hql]; exact (e3.trans e4) _ _ hq2)
  have hlv : f = true → ∃ pl, lv = .ref pl := fun h => by obtain ⟨pl, e, _⟩ := hf2 h; exact ⟨pl, e⟩
  clear e1 e2 hs hv hf2 hoL gpt hps
  rintro σ' H2 ⟨rfl, e2, gpt, hs⟩
  obtain ⟨B, hB⟩ : ∃ B, blkB pat L = B := ⟨_, rfl⟩
  have hBl : B.length ≤ 200 := by rw [← hB]; exact blk_len hp hL.1
  have hBs : B.sum = L := by rw [← hB]; exact blk_sum hp hL.1 hL.2
  refine q_asgC (vs := [.int L, .ref pt]) (ea_cons (ev_var rfl) (ea_cons (ev_var rfl) ea_nil)) fun H3 e3 => ⟨L, pt, pat, rfl, hL.1, sq_of (e3 _ _ gpt), hp, fun pb H4 hpb e4 g4 => ?_⟩
  refine q_asgL (xs := (blkB pat L).map V.int) (el_bsizes (ev_var rfl) (ev_var rfl) hL.1 hL.2 (hs.mono (e3.trans e4)) hpo hp) fun pz H5 hpz e5 g5 => ?_
  rw [hB] at g4 g5
  have g45 := e5 _ _ g4
  refine q_when (b := false) (et_is (et_or (a := false) (et_is (et_not (et_B (ev_ints (ns := B) (Ev.r (ev_var rfl) g5) (by omega)))) rfl) fun _ => et_or (a := false) (b := false) (et_is (et_test (ev_neI (K := K) (ns := B) (ms := B) (Ev.s (ev_var rfl) (sq_of g5)) (Ev.s (ev_var rfl) (sq_of g45)))) (by simp)) fun _ => et_is (et_test (ev_ne (ev_sum (K := K) (ns := B) (Ev.s (ev_var rfl) (sq_of g45))) (ev_var rfl) rfl)) (by rw [hBs]; simp)) rfl) (fun hb => by cases hb) fun _ H6 e6 => ?_
  have g6 := e6 _ _ g45
  refine q_asgL (xs := B.map V.int) (el_of (K := K) (Ev.s (ev_var rfl) (sq_of g6))) fun pg H7 hpg e7 g7 => ?_
  refine q_asgL (xs := (startsB B).map V.int) (el_call (ea_cons (ev_var rfl) ea_nil) fun G eG Q' q' _ => ⟨pg, B, rfl, sq_of (eG _ _ g7), by omega, fun p G2 hp e g => q' p G2 hp e g⟩) fun pst H8 hpst e8 g8 => ?_
  have g68 := (e7.trans e8) _ _ g6
  have hsl : (startsB B).length = B.length := by unfold startsB; rw [List.length_map, List.length_range]
  refine q_when (b := false) (et_is (et_or (a := false) (et_is (et_not (et_B (ev_ints (ns := startsB B) (Ev.r (ev_var rfl) g8) (by omega)))) rfl) fun _ => et_or (a := false) (b := false) (et_is (et_test (ev_neI (K := K) (ns := startsB B) (ms := startsB B) (Ev.s (ev_var rfl) (sq_of g8)) (EvR.s (EvL.r (el_lcR _ (ea_cons (Ev.is (ev_lenS (K := K) (Ev.s (ev_var rfl) (sq_of g68))) (by rw [List.length_map])) ea_nil) (by omega) (by rw [List.length_map, hsl]; omega) (by rw [List.length_map, hsl]; omega) (fun _ => rfl) fun i G eG hi => ?_))))) (by simp)) fun _ => et_is (et_test (ev_neI (K := K) (ns := B) (ms := B) (Ev.s (ev_var rfl) (sq_of (e8 _ _ g7))) (Ev.s (ev_var rfl) (sq_of g68)))) (by simp)) rfl) (fun hb => by cases hb) fun _ H9 e9 => ?_
  · rw [List.length_map, hsl] at hi
    exact ⟨_, at_int (n := (B.take i).sum) (by unfold startsB; rw [List.getElem?_map, List.getElem?_range hi]; rfl), ev_sum (K := K) (EvR.s (EvL.r (el_to (Ev.s (ev_var rfl) (sq_of (eG _ _ g68))) (ev_var rfl))))⟩
  have g9 := e9 _ _ g68
  have e29 := (e3.trans e4).trans (e5.trans ((e6.trans (e7.trans e8)).trans e9))
  have gpt9 := e29 _ _ gpt
  have hs9 := hs.mono e29
  refine q_asgU (eu_tup (ea_cons (ev_var rfl) (ea_cons (ev_var rfl) ea_nil)) (Nat.le_of_ble_eq_true rfl)) fun pm H10 hpm e10 g10 => ?_
  refine q_cut (M := fun σ' H' => ∃ pm, σ' = [some (.ref a), some (.int c0), some (.int L), some (.int bm), some (.int size), some (.ref pt), some lv, z7, some (.ref ps), some (.ref pb), some (.ref pz), some (.ref pg), some (.ref pst), some (.ref pm), none, none, none] ∧ Ex H9 H' ∧ H' pm = some (.tup [.int (rangeB size (optI f pat) pat L).1, .int (rangeB size (optI f pat) pat L).2])) ?_ ?_
  · cases f with
    | false =>
      have := hf1 rfl
      subst this
      exact s_when (b := false) (et_is (et_test (ev_notN (ev_var rfl))) (by simp)) (fun hb => by cases hb) (fun _ H11 e11 => ⟨pm, rfl, e10.trans e11, e11 _ _ g10⟩)
    | true =>
      obtain ⟨pl, rfl⟩ := hlv rfl
      refine s_when (b := true) (et_is (et_test (ev_notN (ev_var rfl))) (by simp)) (fun _ H11 e11 => ?_) (fun hb => by cases hb)
      have gt11 := (e10.trans e11) _ _ gpt9
      have h0 : ∀ {σ : L2.St}, σ[5]? = some (some (.ref pt)) → Ev (tOp (rIxL K) (tVar 5) (tC (.int 0))) σ H11 (.int (pat.getD 0 0)) := fun h => ev_ixS (i := 0) (n := 0) (Ev.s (ev_var h) (sq_of gt11)) ev_c (at_of (j := 0) rfl (at_int (gl_get hp.1)))
      have hr : rangeB size (optI true pat) pat L = if B.length < 2 then (pat.getD 0 0, pat.getD 0 0) else (minL B.dropLast, maxL B) := by
        rw [← hB]
        rfl
      refine q_asgU (eu_tup (ea_cons (h0 rfl) (ea_cons (h0 rfl) ea_nil)) (Nat.le_of_ble_eq_true rfl)) fun pm H12 hpm e12 g12 => ?_
      have gB := (e10.trans (e11.trans e12)) _ _ g9
      refine s_when (b := decide (1 < B.length)) (et_is (et_test (ev_I0 (ev_lenS (K := K) (Ev.s (ev_var rfl) (sq_of gB))) ev_c)) (by rw [List.length_map]; exact dec_lt (a := 1))) (fun hlt H13 e13 => ?_) (fun hlt H13 e13 => ⟨pm, rfl, (e10.trans e11).trans (e12.trans e13), ?_⟩)
      · have hlt := of_decide_eq_true hlt
        have gB3 := e13 _ _ gB
        refine s_asgU (eu_tup (ea_cons (ev_minL (K := K) (ns := B.dropLast) (EvR.s (EvL.r (EvL.is (el_to (i := B.length - 1) (Ev.s (ev_var rfl) (sq_of gB3)) (Ev.is (ev_I0 (ev_lenS (K := K) (Ev.s (ev_var rfl) (sq_of gB3))) ev_c) (congrArg V.int (by rw [List.length_map]; omega)))) (by rw [List.dropLast_eq_take])))) (by rw [List.length_dropLast]; omega)) (ea_cons (ev_maxL (K := K) (Ev.s (ev_var rfl) (sq_of gB3)) (by omega)) ea_nil)) (Nat.le_of_ble_eq_true rfl)) fun pm H14 hpm e14 g14 => ⟨pm, rfl, (e10.trans e11).trans (e12.trans (e13.trans e14)), ?_⟩
        rw [hr, if_neg (by omega)]
        exact g14
      · have hlt := of_decide_eq_false hlt
        rw [hr, if_pos (by omega)]
        exact e13 _ _ g12
  rintro σ' H11 ⟨pm, rfl, e11, gpm⟩
  refine q_asgC (vs := [.int L, .ref ps]) (ea_cons (ev_var rfl) (ea_cons (ev_var rfl) ea_nil)) fun H12 e12 => ⟨L, ps, size, optI f pat, pat, rfl, hL.1, hL.2, hs9.mono (e11.trans e12), hpo, hp, fun pa H13 hpa e13 ga => ?_⟩
  have gm := (e12.trans e13) _ _ gpm
  generalize rangeB size (optI f pat) pat L = r at *
  refine q_when (b := false) (et_is (et_or (a := false) (et_is (et_not (et_B (ev_isiT (K := K) (ev_var rfl) ga))) rfl) fun _ => et_or (a := false) (et_is (et_test (ev_ne (Ev.is (y := .int 2) (ev_lenT (K := K) (ev_var rfl) ga) rfl) ev_c rfl)) rfl) fun _ => et_or (a := false) (b := false) (et_is (et_not (et_B (ev_isint (n := r.1) (ev_atT (ev_var rfl) (st_of ga) ev_c (at_of (j := 0) rfl rfl))))) rfl) fun _ => et_is (et_not (et_B (ev_isint (n := r.2) (ev_atT (ev_var rfl) (st_of ga) ev_c (at_of (j := 1) rfl rfl))))) rfl) rfl) (fun hb => by cases hb) fun _ H14 e14 => ?_
  exact s_ret (v := .bl true) (ev_eqDD (K := K) (d := .tuple [.int r.1, .int r.2]) (EvD.of (ev_var rfl) (.tup (st_of (e14 _ _ ga)) (.cons (.int _) (.cons (.int _) .nil)))) (EvD.of (ev_var rfl) (.tup (st_of (e14 _ _ gm)) (.cons (.int _) (.cons (.int _) .nil)))) (shaped_two _ _)) fun H15 e15 => k _

end
theorem all_mk {l : PySem.W.OpenLaw} {w : World} {K : PySem.W.Frag} {h : Heap} {mg : Str → Option Value} {fa : Addr} {f1 f2 f3 f4 f5 f6 f7 f8 f9 f10 C_Settings : Addr} (X : K.In h) (G : h.Ns mainGlobals mg) (hfa : mg "law" = some (.ref fa))
    {od1 an1 : Option Addr} {sl1 : Array (Option Value)} {oc1 dc1 pm1 cd1 ct1 : Value} {kV1 : Value} {od2 an2 : Option Addr} {sl2 : Array (Option Value)} {oc2 dc2 pm2 cd2 ct2 : Value} {kV2 : Value} {od3 an3 : Option Addr} {sl3 : Array (Option Value)} {oc3 dc3 pm3 cd3 ct3 : Value} {kV3 : Value} {od4 an4 : Option Addr} {sl4 : Array (Option Value)} {oc4 dc4 pm4 cd4 ct4 : Value} {DK4 : Addr} {ku4_0 : Value} {ku4_1 : Value} {ku4_2 : Value} {ku4_3 : Value} {ku4_4 : Value} {ku4_5 : Value} {ku4_6 : Value} {ku4_7 : Value} {ku4_8 : Value} {ku4_9 : Value} {ku4_10 : Value} {od5 an5 : Option Addr} {sl5 : Array (Option Value)} {oc5 dc5 pm5 cd5 ct5 : Value} {kV5 : Value} {od6 an6 : Option Addr} {sl6 : Array (Option Value)} {oc6 dc6 pm6 cd6 ct6 : Value} {kV6 : Value} {od7 an7 : Option Addr} {sl7 : Array (Option Value)} {oc7 dc7 pm7 cd7 ct7 : Value} {kV7 : Value} {od8 an8 : Option Addr} {sl8 : Array (Option Value)} {oc8 dc8 pm8 cd8 ct8 : Value} {kV8 : Value} {od9 an9 : Option Addr} {sl9 : Array (Option Value)} {oc9 dc9 pm9 cd9 ct9 : Value} {kV9 : Value} {od10 an10 : Option Addr} {sl10 : Array (Option Value)} {oc10 dc10 pm10 cd10 ct10 : Value} {kV10 : Value}
    (a1 : PySem.W.nsIn K mainGlobals "block_sizes" = some (some (.ref f1)))
    (l1 : K.lookup f1 = some ⟨oc1, od1, .func (PySem.W.fnOf "block_sizes" "block_sizes" (defArgs s_block_sizes) (defBody s_block_sizes) (defScope s_block_sizes) .none kV1 dc1 pm1 an1 cd1 ct1), sl1⟩) (c1 : PySem.W.codeIn K cd1 "block_sizes" = true) (k1 : PySem.W.keepIn K (.ref f1) = true)
    (a2 : PySem.W.nsIn K mainGlobals "block_starts" = some (some (.ref f2)))
    (l2 : K.lookup f2 = some ⟨oc2, od2, .func (PySem.W.fnOf "block_starts" "block_starts" (defArgs s_block_starts) (defBody s_block_starts) (defScope s_block_starts) .none kV2 dc2 pm2 an2 cd2 ct2), sl2⟩) (c2 : PySem.W.codeIn K cd2 "block_starts" = true) (k2 : PySem.W.keepIn K (.ref f2) = true)
    (a3 : PySem.W.nsIn K mainGlobals "size_range" = some (some (.ref f3)))
    (l3 : K.lookup f3 = some ⟨oc3, od3, .func (PySem.W.fnOf "size_range" "size_range" (defArgs s_size_range) (defBody s_size_range) (defScope s_size_range) .none kV3 dc3 pm3 an3 cd3 ct3), sl3⟩) (c3 : PySem.W.codeIn K cd3 "size_range" = true) (k3 : PySem.W.keepIn K (.ref f3) = true)
    (a4 : PySem.W.findIn K (.ref C_Settings) "__init__" = some (some (.ref f4))) (i4 : PySem.W.isFn K (.ref f4) = true)
    (l4 : K.lookup f4 = some ⟨oc4, od4, .func (PySem.W.fnOf "__init__" "Settings.__init__" (defArgs s_Settings_init) (defBody s_Settings_init) (defScope s_Settings_init) .none (.ref DK4) dc4 pm4 an4 cd4 ct4), sl4⟩) (c4 : PySem.W.codeIn K cd4 "Settings.__init__" = true) (k4 : PySem.W.keepIn K (.ref f4) = true)
    (kq4_0 : PySem.W.nsIn K DK4 "block_sizes" = some (some ku4_0)) (rk4_0 : RelV (V.non) ku4_0)
    (kq4_1 : PySem.W.nsIn K DK4 "fixed_order" = some (some ku4_1)) (rk4_1 : RelV (V.int 4) ku4_1)
    (kq4_2 : PySem.W.nsIn K DK4 "linear_order" = some (some ku4_2)) (rk4_2 : RelV (V.int 0) ku4_2)
    (kq4_3 : PySem.W.nsIn K DK4 "search" = some (some ku4_3)) (rk4_3 : RelV (V.bl false) ku4_3)
    (kq4_4 : PySem.W.nsIn K DK4 "precision" = some (some ku4_4)) (rk4_4 : RelV (V.int 12) ku4_4)
    (kq4_5 : PySem.W.nsIn K DK4 "partition_order" = some (some ku4_5)) (rk4_5 : RelV (V.int 4) ku4_5)
    (kq4_6 : PySem.W.nsIn K DK4 "wide" = some (some ku4_6)) (rk4_6 : RelV (V.bl false) ku4_6)
    (kq4_7 : PySem.W.nsIn K DK4 "stereo" = some (some ku4_7)) (rk4_7 : RelV (V.bl true) ku4_7)
    (kq4_8 : PySem.W.nsIn K DK4 "wasted" = some (some ku4_8)) (rk4_8 : RelV (V.bl true) ku4_8)
    (kq4_9 : PySem.W.nsIn K DK4 "seek_interval" = some (some ku4_9)) (rk4_9 : RelV (V.int 0) ku4_9)
    (kq4_10 : PySem.W.nsIn K DK4 "vendor" = some (some ku4_10)) (rk4_10 : RelV (V.str "") ku4_10)
    (a5 : PySem.W.nsIn K mainGlobals "_law_cell" = some (some (.ref f5)))
    (l5 : K.lookup f5 = some ⟨oc5, od5, .func (PySem.W.fnOf "_law_cell" "_law_cell" (defArgs s_law_cell) (defBody s_law_cell) (defScope s_law_cell) .none kV5 dc5 pm5 an5 cd5 ct5), sl5⟩) (c5 : PySem.W.codeIn K cd5 "_law_cell" = true) (k5 : PySem.W.keepIn K (.ref f5) = true)
    (a6 : PySem.W.nsIn K mainGlobals "_law_integer" = some (some (.ref f6)))
    (l6 : K.lookup f6 = some ⟨oc6, od6, .func (PySem.W.fnOf "_law_integer" "_law_integer" (defArgs s_law_integer) (defBody s_law_integer) (defScope s_law_integer) .none kV6 dc6 pm6 an6 cd6 ct6), sl6⟩) (c6 : PySem.W.codeIn K cd6 "_law_integer" = true) (k6 : PySem.W.keepIn K (.ref f6) = true)
    (a7 : PySem.W.nsIn K mainGlobals "_law_integers" = some (some (.ref f7)))
    (l7 : K.lookup f7 = some ⟨oc7, od7, .func (PySem.W.fnOf "_law_integers" "_law_integers" (defArgs s_law_integers) (defBody s_law_integers) (defScope s_law_integers) .none kV7 dc7 pm7 an7 cd7 ct7), sl7⟩) (c7 : PySem.W.codeIn K cd7 "_law_integers" = true) (k7 : PySem.W.keepIn K (.ref f7) = true)
    (a8 : PySem.W.nsIn K mainGlobals "_law_row" = some (some (.ref f8)))
    (l8 : K.lookup f8 = some ⟨oc8, od8, .func (PySem.W.fnOf "_law_row" "_law_row" (defArgs s_law_row) (defBody s_law_row) (defScope s_law_row) .none kV8 dc8 pm8 an8 cd8 ct8), sl8⟩) (c8 : PySem.W.codeIn K cd8 "_law_row" = true) (k8 : PySem.W.keepIn K (.ref f8) = true)
    (a9 : PySem.W.nsIn K mainGlobals "_law_sizes" = some (some (.ref f9)))
    (l9 : K.lookup f9 = some ⟨oc9, od9, .func (PySem.W.fnOf "_law_sizes" "_law_sizes" (defArgs s_law_sizes) (defBody s_law_sizes) (defScope s_law_sizes) .none kV9 dc9 pm9 an9 cd9 ct9), sl9⟩) (c9 : PySem.W.codeIn K cd9 "_law_sizes" = true) (k9 : PySem.W.keepIn K (.ref f9) = true)
    (a10 : PySem.W.nsIn K mainGlobals "law" = some (some (.ref f10)))
    (l10 : K.lookup f10 = some ⟨oc10, od10, .func (PySem.W.fnOf "law" "law" (defArgs s_law) (defBody s_law) (defScope s_law) .none kV10 dc10 pm10 an10 cd10 ct10), sl10⟩) (c10 : PySem.W.codeIn K cd10 "law" = true) (k10 : PySem.W.keepIn K (.ref f10) = true)
    (aC_Settings : PySem.W.nsIn K mainGlobals "Settings" = some (some (.ref C_Settings)))
    (pg_Settings : PySem.W.plainGet K C_Settings Str.empty = true) (hd_Settings : PySem.W.hasDictIn K C_Settings = true) (po_Settings : PySem.W.plainOver K C_Settings = true) (sa_Settings : PySem.W.findIn K (.ref C_Settings) "__setattr__" = some (some (.builtin "object.__setattr__"))) (mk_Settings : PySem.W.makesIn K C_Settings = true) (kc_Settings : PySem.W.keepIn K (.ref C_Settings) = true)
    (n_Settings_block_size : PySem.W.findIn K (.ref C_Settings) "block_size" = some none)
    (n_Settings_block_sizes : PySem.W.findIn K (.ref C_Settings) "block_sizes" = some none)
    (n_Settings_fixed_order : PySem.W.findIn K (.ref C_Settings) "fixed_order" = some none)
    (n_Settings_linear_order : PySem.W.findIn K (.ref C_Settings) "linear_order" = some none)
    (n_Settings_search : PySem.W.findIn K (.ref C_Settings) "search" = some none)
    (n_Settings_precision : PySem.W.findIn K (.ref C_Settings) "precision" = some none)
    (n_Settings_partition_order : PySem.W.findIn K (.ref C_Settings) "partition_order" = some none)
    (n_Settings_wide : PySem.W.findIn K (.ref C_Settings) "wide" = some none)
    (n_Settings_stereo : PySem.W.findIn K (.ref C_Settings) "stereo" = some none)
    (n_Settings_wasted : PySem.W.findIn K (.ref C_Settings) "wasted" = some none)
    (n_Settings_seek_interval : PySem.W.findIn K (.ref C_Settings) "seek_interval" = some none)
    (n_Settings_vendor : PySem.W.findIn K (.ref C_Settings) "vendor" = some none)
    (z_min : PySem.W.nsIn K mainGlobals "min" = some none)
    (z_len : PySem.W.nsIn K mainGlobals "len" = some none)
    (z_max : PySem.W.nsIn K mainGlobals "max" = some none)
    (z_list : PySem.W.nsIn K mainGlobals "list" = some none)
    (z_isinstance : PySem.W.nsIn K mainGlobals "isinstance" = some none)
    (z_int : PySem.W.nsIn K mainGlobals "int" = some none)
    (z_bool : PySem.W.nsIn K mainGlobals "bool" = some none)
    (z_all : PySem.W.nsIn K mainGlobals "all" = some none)
    (z_abs : PySem.W.nsIn K mainGlobals "abs" = some none)
    (z_range : PySem.W.nsIn K mainGlobals "range" = some none)
    (z_sum : PySem.W.nsIn K mainGlobals "sum" = some none)
    (z_tuple : PySem.W.nsIn K mainGlobals "tuple" = some none)
    : ∃ fd : FuncData, (∀ (s : Shared) (v : Value), BindsTo s fd ⟨[v], []⟩ [("script", v)]) ∧ ∀ base : Heap, K.In base → base.Ns mainGlobals mg → FnOk l.prog w K mg base CX0 3 fa fd ["script"] (sp_law K) := by
  have e := hfa.symm.trans (PySem.W.mg_of X G a10)
  cases e
  have F1 := fun_mk (st := s_block_sizes) l1 c1 k1
  have b1 := F1.binds (ps := ["length", "settings"]) fun _ _ _ _ _ _ us hl => match us, hl with | [_, _], _ => rfl
  have F2 := fun_mk (st := s_block_starts) l2 c2 k2
  have b2 := F2.binds (ps := ["sizes"]) fun _ _ _ _ _ _ us hl => match us, hl with | [_], _ => rfl
  have F3 := fun_mk (st := s_size_range) l3 c3 k3
  have b3 := F3.binds (ps := ["length", "settings"]) fun _ _ _ _ _ _ us hl => match us, hl with | [_, _], _ => rfl
  have F4 : FunD K "__init__" "Settings.__init__" (defArgs s_Settings_init) (defBody s_Settings_init) (defScope s_Settings_init) [] [("block_sizes", V.non), ("fixed_order", V.int 4), ("linear_order", V.int 0), ("search", V.bl false), ("precision", V.int 12), ("partition_order", V.int 4), ("wide", V.bl false), ("stereo", V.bl true), ("wasted", V.bl true), ("seek_interval", V.int 0), ("vendor", V.str "")] _ _ := ⟨⟨_, _, _, _, _, _, _, _, _, _, rfl, l4, c4, (.inl ⟨rfl, rfl⟩), (.inr ⟨DK4, rfl, (kwAllC ⟨_, kq4_0, rk4_0⟩ (kwAllC ⟨_, kq4_1, rk4_1⟩ (kwAllC ⟨_, kq4_2, rk4_2⟩ (kwAllC ⟨_, kq4_3, rk4_3⟩ (kwAllC ⟨_, kq4_4, rk4_4⟩ (kwAllC ⟨_, kq4_5, rk4_5⟩ (kwAllC ⟨_, kq4_6, rk4_6⟩ (kwAllC ⟨_, kq4_7, rk4_7⟩ (kwAllC ⟨_, kq4_8, rk4_8⟩ (kwAllC ⟨_, kq4_9, rk4_9⟩ (kwAllC ⟨_, kq4_10, rk4_10⟩ kwAllN)))))))))))⟩)⟩, k4⟩
  obtain ⟨mv2_block_sizes_4, kb2_block_sizes_4⟩ := F4.kbinds0 (ps := ["self", "block_size", "block_sizes", "fixed_order", "linear_order", "search", "precision", "partition_order", "wide", "stereo", "wasted", "seek_interval", "vendor"]) 2 ["block_sizes"] [("fixed_order", V.int 4), ("linear_order", V.int 0), ("search", V.bl false), ("precision", V.int 12), ("partition_order", V.int 4), ("wide", V.bl false), ("stereo", V.bl true), ("wasted", V.bl true), ("seek_interval", V.int 0), ("vendor", V.str "")] (fun us mv ws => us ++ ((List.take 1 (List.drop 0 ws)) ++ (List.take 10 (List.drop 0 mv)))) (by simp) (by simp) (fun r1 r2 r3 => Vals.append r1 (Vals.append ((Vals.drop 0 r3).take 1) ((Vals.drop 0 r2).take 10))) (fun D0 doc pm an cdv ct us mv ws hu hm hw => match us, hu, mv, hm, ws, hw with | [_, _], _, [_, _, _, _, _, _, _, _, _, _], _, [_], _ => ⟨_, _, _, _, _, _, rfl, rfl, ⟨_, _, _, _, _, _, rfl, rfl, ⟨_, _, _, _, _, _, rfl, rfl, ⟨_, _, _, _, _, _, rfl, rfl, ⟨_, _, _, _, _, _, rfl, rfl, ⟨_, _, _, _, _, _, rfl, rfl, ⟨_, _, _, _, _, _, rfl, rfl, ⟨_, _, _, _, _, _, rfl, rfl, ⟨_, _, _, _, _, _, rfl, rfl, ⟨_, _, _, _, _, _, rfl, rfl, rfl⟩⟩⟩⟩⟩⟩⟩⟩⟩⟩)
  have F5 := fun_mk (st := s_law_cell) l5 c5 k5
  have b5 := F5.binds (ps := ["script", "k"]) fun _ _ _ _ _ _ us hl => match us, hl with | [_, _], _ => rfl
  have F6 := fun_mk (st := s_law_integer) l6 c6 k6
  have b6 := F6.binds (ps := ["value"]) fun _ _ _ _ _ _ us hl => match us, hl with | [_], _ => rfl
  have F7 := fun_mk (st := s_law_integers) l7 c7 k7
  have b7 := F7.binds (ps := ["values"]) fun _ _ _ _ _ _ us hl => match us, hl with | [_], _ => rfl
  have F8 := fun_mk (st := s_law_row) l8 c8 k8
  have b8 := F8.binds (ps := ["cell", "count", "bound"]) fun _ _ _ _ _ _ us hl => match us, hl with | [_, _, _], _ => rfl
  have F9 := fun_mk (st := s_law_sizes) l9 c9 k9
  have b9 := F9.binds (ps := ["length", "told"]) fun _ _ _ _ _ _ us hl => match us, hl with | [_, _], _ => rfl
  have F10 := fun_mk (st := s_law) l10 c10 k10
  have b10 := F10.binds (ps := ["script"]) fun _ _ _ _ _ _ us hl => match us, hl with | [_], _ => rfl
  let T : TX K mg := ⟨f1, _, F1, b1, (PySem.W.mg_of X G a1), f2, _, F2, b2, (PySem.W.mg_of X G a2), f3, _, F3, b3, (PySem.W.mg_of X G a3), f4, _, F4, mv2_block_sizes_4, kb2_block_sizes_4, f5, _, F5, b5, (PySem.W.mg_of X G a5), f6, _, F6, b6, (PySem.W.mg_of X G a6), f7, _, F7, b7, (PySem.W.mg_of X G a7), f8, _, F8, b8, (PySem.W.mg_of X G a8), f9, _, F9, b9, (PySem.W.mg_of X G a9), fa, _, F10, b10, (PySem.W.mg_of X G a10), C_Settings, ⟨pg_Settings, hd_Settings, po_Settings, sa_Settings⟩, (PySem.W.mg_of X G aC_Settings), ⟨mk_Settings, a4, i4, kc_Settings⟩, n_Settings_block_size, n_Settings_block_sizes, n_Settings_fixed_order, n_Settings_linear_order, n_Settings_search, n_Settings_precision, n_Settings_partition_order, n_Settings_wide, n_Settings_stereo, n_Settings_wasted, n_Settings_seek_interval, n_Settings_vendor, (PySem.W.mg_none_of X G z_min), (PySem.W.mg_none_of X G z_len), (PySem.W.mg_none_of X G z_max), (PySem.W.mg_none_of X G z_list), (PySem.W.mg_none_of X G z_isinstance), (PySem.W.mg_none_of X G z_int), (PySem.W.mg_none_of X G z_bool), (PySem.W.mg_none_of X G z_all), (PySem.W.mg_none_of X G z_abs), (PySem.W.mg_none_of X G z_range), (PySem.W.mg_none_of X G z_sum), (PySem.W.mg_none_of X G z_tuple)⟩
  exact ⟨_, fun s v => .of_eq rfl, fun base _ _ => ok_law T⟩
end K72
open PySem PySem.W PyProof.Rows
set_option maxRecDepth 100000 in
set_option maxHeartbeats 0 in
theorem PySem.Challenge.cw_monochord_k72_blocks_of_audio_holds : PySem.Challenge.rw_monochord_k72_blocks_of_audio.Holds := by
  w_on; o_law; k_head; (case hw => w_witness2)
  k_fill
  refine L2.walk_of (l := PySem.Challenge.rw_monochord_k72_blocks_of_audio) (n := 63) (k := 3) (x := "script") (CX := fun _ => L2.CX0) (sp := fun w => K72.sp_law _) rfl (by decide) rfl ⟨rfl, by decide, by decide⟩ (fun w h Y => PySem.W.kIn_of Y) ?F (fun _ _ a ns hl _ hS => ⟨a, ns, rfl, hS, hl, fun _ => rfl⟩) (fun _ _ _ _ _ h => h)
  case F =>
    intro w mg fa h KX G hmg
    refine' K72.all_mk KX G hmg ?a1 ?l1 ?c1 ?k1 ?a2 ?l2 ?c2 ?k2 ?a3 ?l3 ?c3 ?k3 ?a4 ?i4 ?l4 ?c4 ?k4 ?kq4_0 ?rk4_0 ?kq4_1 ?rk4_1 ?kq4_2 ?rk4_2 ?kq4_3 ?rk4_3 ?kq4_4 ?rk4_4 ?kq4_5 ?rk4_5 ?kq4_6 ?rk4_6 ?kq4_7 ?rk4_7 ?kq4_8 ?rk4_8 ?kq4_9 ?rk4_9 ?kq4_10 ?rk4_10 ?a5 ?l5 ?c5 ?k5 ?a6 ?l6 ?c6 ?k6 ?a7 ?l7 ?c7 ?k7 ?a8 ?l8 ?c8 ?k8 ?a9 ?l9 ?c9 ?k9 ?a10 ?l10 ?c10 ?k10 ?aC_Settings ?pg_Settings ?hd_Settings ?po_Settings ?sa_Settings ?mk_Settings ?kc_Settings ?n_Settings_block_size ?n_Settings_block_sizes ?n_Settings_fixed_order ?n_Settings_linear_order ?n_Settings_search ?n_Settings_precision ?n_Settings_partition_order ?n_Settings_wide ?n_Settings_stereo ?n_Settings_wasted ?n_Settings_seek_interval ?n_Settings_vendor ?z_min ?z_len ?z_max ?z_list ?z_isinstance ?z_int ?z_bool ?z_all ?z_abs ?z_range ?z_sum ?z_tuple
    (case aC_Settings => k_is)
    (case a1 => k_is)
    (case l1 => k_is)
    (case c1 => k_is)
    (case k1 => k_is)
    (case a2 => k_is)
    (case l2 => k_is)
    (case c2 => k_is)
    (case k2 => k_is)
    (case a3 => k_is)
    (case l3 => k_is)
    (case c3 => k_is)
    (case k3 => k_is)
    (case a4 => k_is)
    (case i4 => k_is)
    (case l4 => k_is)
    (case c4 => k_is)
    (case k4 => k_is)
    (case kq4_0 => k_is)
    (case rk4_0 => first | rfl | exact ⟨_, rfl⟩)
    (case kq4_1 => k_is)
    (case rk4_1 => first | rfl | exact ⟨_, rfl⟩)
    (case kq4_2 => k_is)
    (case rk4_2 => first | rfl | exact ⟨_, rfl⟩)
    (case kq4_3 => k_is)
    (case rk4_3 => first | rfl | exact ⟨_, rfl⟩)
    (case kq4_4 => k_is)
    (case rk4_4 => first | rfl | exact ⟨_, rfl⟩)
    (case kq4_5 => k_is)
    (case rk4_5 => first | rfl | exact ⟨_, rfl⟩)
    (case kq4_6 => k_is)
    (case rk4_6 => first | rfl | exact ⟨_, rfl⟩)
    (case kq4_7 => k_is)
    (case rk4_7 => first | rfl | exact ⟨_, rfl⟩)
    (case kq4_8 => k_is)
    (case rk4_8 => first | rfl | exact ⟨_, rfl⟩)
    (case kq4_9 => k_is)
    (case rk4_9 => first | rfl | exact ⟨_, rfl⟩)
    (case kq4_10 => k_is)
    (case rk4_10 => first | rfl | exact ⟨_, rfl⟩)
    (case a5 => k_is)
    (case l5 => k_is)
    (case c5 => k_is)
    (case k5 => k_is)
    (case a6 => k_is)
    (case l6 => k_is)
    (case c6 => k_is)
    (case k6 => k_is)
    (case a7 => k_is)
    (case l7 => k_is)
    (case c7 => k_is)
    (case k7 => k_is)
    (case a8 => k_is)
    (case l8 => k_is)
    (case c8 => k_is)
    (case k8 => k_is)
    (case a9 => k_is)
    (case l9 => k_is)
    (case c9 => k_is)
    (case k9 => k_is)
    (case a10 => k_is)
    (case l10 => k_is)
    (case c10 => k_is)
    (case k10 => k_is)
    (case pg_Settings => k_is)
    (case hd_Settings => k_is)
    (case po_Settings => k_is)
    (case sa_Settings => k_is)
    (case mk_Settings => k_is)
    (case kc_Settings => k_is)
    (case n_Settings_block_size => k_is)
    (case n_Settings_block_sizes => k_is)
    (case n_Settings_fixed_order => k_is)
    (case n_Settings_linear_order => k_is)
    (case n_Settings_search => k_is)
    (case n_Settings_precision => k_is)
    (case n_Settings_partition_order => k_is)
    (case n_Settings_wide => k_is)
    (case n_Settings_stereo => k_is)
    (case n_Settings_wasted => k_is)
    (case n_Settings_seek_interval => k_is)
    (case n_Settings_vendor => k_is)
    (case z_min => k_is)
    (case z_len => k_is)
    (case z_max => k_is)
    (case z_list => k_is)
    (case z_isinstance => k_is)
    (case z_int => k_is)
    (case z_bool => k_is)
    (case z_all => k_is)
    (case z_abs => k_is)
    (case z_range => k_is)
    (case z_sum => k_is)
    (case z_tuple => k_is)
