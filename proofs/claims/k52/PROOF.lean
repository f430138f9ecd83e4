import PyProof.Rows.All
import Wide.All
import OpenK.AllK
import Wide.FinOn
import HandS.ForMost
import HandS.Steps
import HandS.Evl
import HandS.IsInst
import HandS.Defaults
import HandS.MakeKwOnly
import HandS.Wide
import HandS.Walk
import HandS.TryOnly
import HandS.Text
import PyProof.P3Eq
import HandS.OwnEq
import PySem.Challenge.RW_monochord_k52_values_of_a_name
set_option Elab.async false
set_option linter.all false
set_option maxRecDepth 100000
set_option maxHeartbeats 4000000
namespace K52
open PySem PySem.Spec PyProof.Rows L2 Evl
def topS (i : Nat) : Stmt := PySem.Challenge.pw_monochord_k52_values_of_a_name.main.body.getD i (.Pass ⟨0, 0, 0, 0⟩)
abbrev s_Comments_init : Stmt := inClass (topS 1) 0
theorem sc_Comments_init : FnScope ["self", "vendor", "entries", "name", "value"] ["self", "vendor", "entries"] (defScope s_Comments_init) := ⟨rfl, rfl, rfl, by decide +kernel, rfl, by decide +kernel, by decide +kernel⟩
abbrev s_Comments_values_of : Stmt := inClass (topS 1) 1
theorem sc_Comments_values_of : FnScope ["self", "name", "own_name", "value"] ["self", "name"] (defScope s_Comments_values_of) := ⟨rfl, rfl, rfl, by decide +kernel, rfl, by decide +kernel, by decide +kernel⟩
abbrev s_Comments_with_values : Stmt := inClass (topS 1) 2
theorem sc_Comments_with_values : FnScope ["self", "name", "values", "kept", "at", "own_name", "value", "inserted"] ["self", "name", "values"] (defScope s_Comments_with_values) := ⟨rfl, rfl, rfl, by decide +kernel, rfl, by decide +kernel, by decide +kernel⟩
abbrev s_match : Stmt := topS 2
theorem sc_match : FnScope ["name", "other"] ["name", "other"] (defScope s_match) := ⟨rfl, rfl, rfl, by decide +kernel, rfl, by decide +kernel, by decide +kernel⟩
abbrev s_upper_case : Stmt := topS 3
theorem sc_upper_case : FnScope ["name", "point"] ["name"] (defScope s_upper_case) := ⟨rfl, rfl, rfl, by decide +kernel, rfl, by decide +kernel, by decide +kernel⟩
abbrev s_law_refill : Stmt := topS 6
theorem sc_law_refill : FnScope ["script", "k", "cell"] ["script", "k"] (defScope s_law_refill) := ⟨rfl, rfl, rfl, by decide +kernel, rfl, by decide +kernel, by decide +kernel⟩
abbrev s_law_draw : Stmt := topS 7
theorem sc_law_draw : FnScope ["state", "script", "size", "digit"] ["state", "script", "size"] (defScope s_law_draw) := ⟨rfl, rfl, rfl, by decide +kernel, rfl, by decide +kernel, by decide +kernel⟩
abbrev s_law_text : Stmt := topS 12
theorem sc_law_text : FnScope ["state", "script", "most", "edges", "text", "k", "point"] ["state", "script", "most"] (defScope s_law_text) := ⟨rfl, rfl, rfl, by decide +kernel, rfl, by decide +kernel, by decide +kernel⟩
abbrev s_law_name : Stmt := topS 13
theorem sc_law_name : FnScope ["state", "script", "pool", "name", "k", "point"] ["state", "script"] (defScope s_law_name) := ⟨rfl, rfl, rfl, by decide +kernel, rfl, by decide +kernel, by decide +kernel⟩
abbrev s_law_entries : Stmt := topS 14
theorem sc_law_entries : FnScope ["state", "script", "most", "k"] ["state", "script", "most"] (defScope s_law_entries) := ⟨rfl, rfl, rfl, by decide +kernel, rfl, by decide +kernel, by decide +kernel⟩
abbrev s_law_upper : Stmt := topS 18
theorem sc_law_upper : FnScope ["name", "point"] ["name"] (defScope s_law_upper) := ⟨rfl, rfl, rfl, by decide +kernel, rfl, by decide +kernel, by decide +kernel⟩
abbrev s_law_turned : Stmt := topS 19
theorem sc_law_turned : FnScope ["state", "script", "name", "turned", "point"] ["state", "script", "name"] (defScope s_law_turned) := ⟨rfl, rfl, rfl, by decide +kernel, rfl, by decide +kernel, by decide +kernel⟩
abbrev s_law_changed : Stmt := topS 20
theorem sc_law_changed : FnScope ["entries", "name", "texts", "changed", "done", "entry", "text"] ["entries", "name", "texts"] (defScope s_law_changed) := ⟨rfl, rfl, rfl, by decide +kernel, rfl, by decide +kernel, by decide +kernel⟩
abbrev s_law : Stmt := topS 21
theorem sc_law : FnScope ["script", "state", "vendor", "entries", "name", "texts", "comments", "text", "handed", "entry", "expected", "told", "title", "changed", "spare", "again", "kept", "rest", "k"] ["script"] (defScope s_law) := ⟨rfl, rfl, rfl, by decide +kernel, rfl, by decide +kernel, by decide +kernel⟩
theorem hu64 {A : Around} {k : Nat} (hr : Room k A) : A.units + 64 < cLine := hr.units
/-! ### short words for readings -/
theorem ret_eq {v w : V} {H H' : Hp} {Q : VK} (k : RetV v H Q) (ex : Ex H H') (e : w = v) : Q w H' := e ▸ k H' ex
/-- isinstance(x, T), T a built-in class -/
theorem ev_isi {K : PySem.W.Frag} {σ : L2.St} {H : Hp} {ta : TE} {x : V} {t : String} {T : String} {b : Bool} (ha : Ev ta σ H x) (ht : ∀ H1, Ex H H1 → TyX K H1 x (.type t)) (hk : kitB t T = some b) :
    Ev (tCB (rIsi K) (tCons ta (tCons (tC (.ty T)) tNil))) σ H (.bl b) :=
  ev_cb (ea_cons ha (ea_cons ev_c ea_nil)) fun H1 e Q q => ⟨x, .ty T, _, _, b, rfl, .ty T, ht H1 e, kit_ty hk, q H1 (Ex.refl H1)⟩
theorem isi_int {K : PySem.W.Frag} {H : Hp} {i : Int} : ∀ H1, Ex H H1 → TyX K H1 (V.int i) (.type "int") := fun _ _ => .base (.int _)
theorem isi_bl {K : PySem.W.Frag} {H : Hp} {b : Bool} : ∀ H1, Ex H H1 → TyX K H1 (V.bl b) (.type "bool") := fun _ _ => .base (.bl _)
theorem isi_non {K : PySem.W.Frag} {H : Hp} : ∀ H1, Ex H H1 → TyX K H1 V.non (.type "NoneType") := fun _ _ => .base .non
theorem isi_lst {K : PySem.W.Frag} {H : Hp} {a : Addr} {xs : List V} (h : H a = some (.lst xs)) : ∀ H1, Ex H H1 → TyX K H1 (V.ref a) (.type "list") := fun _ e => .base (.lst (e _ _ h))
theorem isi_tup {K : PySem.W.Frag} {H : Hp} {a : Addr} {xs : List V} (h : H a = some (.tup xs)) : ∀ H1, Ex H H1 → TyX K H1 (V.ref a) (.type "tuple") := fun _ e => .base (.tup (e _ _ h))
theorem kit_ii : kitB "int" "int" = some true := by decide +kernel
theorem kit_ib : kitB "int" "bool" = some false := by decide +kernel
theorem kit_bb : kitB "bool" "bool" = some true := by decide +kernel
theorem kit_bi : kitB "bool" "int" = some true := by decide +kernel
theorem kit_ll : kitB "list" "list" = some true := by decide +kernel
theorem kit_tt : kitB "tuple" "tuple" = some true := by decide +kernel
theorem ev_isiI {K : PySem.W.Frag} {σ : L2.St} {H : Hp} {ta : TE} {i : Int} (ha : Ev ta σ H (.int i)) : Ev (tCB (rIsi K) (tCons ta (tCons (tC (.ty "int")) tNil))) σ H (.bl true) := ev_isi ha isi_int kit_ii
theorem ev_isiB {K : PySem.W.Frag} {σ : L2.St} {H : Hp} {ta : TE} {i : Int} (ha : Ev ta σ H (.int i)) : Ev (tCB (rIsi K) (tCons ta (tCons (tC (.ty "bool")) tNil))) σ H (.bl false) := ev_isi ha isi_int kit_ib
theorem ev_isiL {K : PySem.W.Frag} {σ : L2.St} {H : Hp} {ta : TE} {a : Addr} {xs : List V} (ha : Ev ta σ H (.ref a)) (h : H a = some (.lst xs)) : Ev (tCB (rIsi K) (tCons ta (tCons (tC (.ty "list")) tNil))) σ H (.bl true) := ev_isi ha (isi_lst h) kit_ll
theorem ev_isiBB {K : PySem.W.Frag} {σ : L2.St} {H : Hp} {ta : TE} {b : Bool} (ha : Ev ta σ H (.bl b)) : Ev (tCB (rIsi K) (tCons ta (tCons (tC (.ty "bool")) tNil))) σ H (.bl true) := ev_isi ha isi_bl kit_bb
theorem ev_chain {σ : L2.St} {H : Hp} {ta tb tc : TE} {g g' : Int → Int → Bool} {a b c : Int} (ha : Ev ta σ H (.int a)) (hb : Ev tb σ H (.int b)) (hc : Ev tc σ H (.int c)) :
    Ev (tChain (rI0 fun i j => .bl (g i j)) (rI0 fun i j => .bl (g' i j)) ta tb tc) σ H (.bl (g a b && g' b c)) := fun H1 e Q q =>
  ha H1 e _ fun H2 e2 => hb H2 (e.trans e2) _ fun H3 e3 => ⟨a, b, rfl, rfl, g a b, rfl, by
    cases hg : g a b with
    | true =>
      rw [if_pos rfl]
      rw [hg, Bool.true_and] at q
      exact hc H3 ((e.trans e2).trans e3) _ fun H4 e4 => ⟨b, c, rfl, rfl, q H4 ((e2.trans e3).trans e4)⟩
    | false =>
      rw [if_neg (by decide)]
      rw [hg, Bool.false_and] at q
      exact q H3 (e2.trans e3)⟩
theorem ev_isN {σ : L2.St} {H : Hp} {ta : TE} {x : V} (ha : Ev ta σ H x) : Ev (tOp rIsN ta (tC .non)) σ H (.bl (decide (x = .non))) := fun H1 e Q q => ha H1 e _ fun H2 e2 => ⟨rfl, q H2 e2⟩
theorem ev_notN {σ : L2.St} {H : Hp} {ta : TE} {x : V} (ha : Ev ta σ H x) : Ev (tOp rNotN ta (tC .non)) σ H (.bl (!decide (x = .non))) := fun H1 e Q q => ha H1 e _ fun H2 e2 => ⟨rfl, q H2 e2⟩
theorem ev_min2 {σ : L2.St} {H : Hp} {ta tb : TE} {i j : Int} (ha : Ev ta σ H (.int i)) (hb : Ev tb σ H (.int j)) :
    Ev (tCB (fun xs H Q => ∃ i j, xs = [.int i, .int j] ∧ Q (.int (if j < i then j else i)) H) (tCons ta (tCons tb tNil))) σ H (.int (if j < i then j else i)) :=
  ev_cb (ea_cons ha (ea_cons hb ea_nil)) fun H1 _ _ q => ⟨i, j, rfl, q H1 (Ex.refl H1)⟩
theorem ev_negI {σ : L2.St} {H : Hp} {ta : TE} {i : Int} (ha : Ev ta σ H (.int i)) : Ev (tUn (rU fun i => .int (-i)) ta) σ H (.int (-i)) := ev_un ha ru_neg
theorem ev_I0 {σ : L2.St} {H : Hp} {ta tb : TE} {g : Int → Int → V} {i j : Int} (ha : Ev ta σ H (.int i)) (hb : Ev tb σ H (.int j)) : Ev (tOp (rI0 g) ta tb) σ H (g i j) := ev_op ha hb rv_I0
theorem ev_I {σ : L2.St} {H : Hp} {ta tb : TE} {C : Int → Int → Prop} {g : Int → Int → V} {i j : Int} (ha : Ev ta σ H (.int i)) (hb : Ev tb σ H (.int j)) (hc : C i j) : Ev (tOp (rI C g) ta tb) σ H (g i j) := ev_op ha hb (rv_I hc)
theorem ev_eq {σ : L2.St} {H : Hp} {ta tb : TE} {x y : V} (ha : Ev ta σ H x) (hb : Ev tb σ H y) (hs : scal x y = true) : Ev (tOp rEq ta tb) σ H (.bl (decide (x = y))) := ev_op ha hb (rv_eq hs)
theorem ev_ne {σ : L2.St} {H : Hp} {ta tb : TE} {x y : V} (ha : Ev ta σ H x) (hb : Ev tb σ H y) (hs : scal x y = true) : Ev (tOp rNe ta tb) σ H (.bl (!decide (x = y))) := ev_op ha hb (rv_ne hs)
theorem et_B' {σ : L2.St} {H : Hp} {te : TE} {x : V} {b : Bool} (h : Ev te σ H x) (e : x = .bl b) : EvT (tB te) σ H b := et_B (e ▸ h)
theorem dec_lt {a b : Nat} : decide ((a : Int) < (b : Int)) = decide (a < b) := by
  by_cases h : a < b
  · rw [decide_eq_true h, decide_eq_true (by omega)]
  · rw [decide_eq_false h, decide_eq_false (by omega)]
theorem int_at {ns : List Int} {i : Nat} {x : V} (hx : (ns.map V.int)[i]? = some x) : ∃ n, ns[i]? = some n ∧ i < ns.length ∧ x = V.int n := by
  rw [List.getElem?_map] at hx
  cases en : ns[i]? with
  | none => rw [en] at hx; cases hx
  | some n => rw [en] at hx; exact ⟨n, rfl, (List.getElem?_eq_some_iff.mp en).1, (Option.some.inj hx).symm⟩
theorem at_int {ns : List Int} {i : Nat} {n : Int} (h : ns[i]? = some n) : (ns.map V.int)[i]? = some (V.int n) := by rw [List.getElem?_map, h]; rfl
local macro_rules | `(tactic| walk_at "side") => `(tactic| first
  | omega | (show CMul _ _; unfold CMul; omega) | (show CDiv _ _; unfold CDiv; omega) | (show CPow _ _; unfold CPow; omega) | (show (_ : Int) < _; omega) | (show (_ : Int) ≤ _; omega) | decide)
local macro_rules | `(tactic| walk_at "ev") => `(tactic| first
  | exact ev_var rfl
  | exact ev_c
  | (refine' ev_I0 ?h1 ?h2; (case h1 => walk_at "ev"); (case h2 => walk_at "ev"))
  | (refine' ev_negI ?h1; (case h1 => walk_at "ev"))
  | (refine' ev_I ?h1 ?h2 ?hc; (case h1 => walk_at "ev"); (case h2 => walk_at "ev"); (case hc => walk_at "side"))
  | (refine' ev_eq ?h1 ?h2 ?hc; (case h1 => walk_at "ev"); (case h2 => walk_at "ev"); (case hc => rfl))
  | (refine' ev_ne ?h1 ?h2 ?hc; (case h1 => walk_at "ev"); (case h2 => walk_at "ev"); (case hc => rfl))
  | (refine' ev_max2 ?h1 ?h2; (case h1 => walk_at "ev"); (case h2 => walk_at "ev"))
  | (refine' ev_min2 ?h1 ?h2; (case h1 => walk_at "ev"); (case h2 => walk_at "ev"))
  | (refine' ev_chain ?h1 ?h2 ?h3; (case h1 => walk_at "ev"); (case h2 => walk_at "ev"); (case h3 => walk_at "ev"))
  | (refine' ev_isN ?h1; (case h1 => walk_at "ev"))
  | (refine' ev_notN ?h1; (case h1 => walk_at "ev"))
  | (refine' ev_isiI ?h1; (case h1 => walk_at "ev"))
  | (refine' ev_isiB ?h1; (case h1 => walk_at "ev"))
  | (refine' ev_isiBB ?h1; (case h1 => walk_at "ev"))
  | (refine' ev_andV ?h1 (fun _ => ?h2); (case h1 => walk_at "ev"); (case h2 => walk_at "ev"))
  | (refine' ev_orV ?h1 (fun _ => ?h2); (case h1 => walk_at "ev"); (case h2 => walk_at "ev"))
  | (refine' ev_notV ?h1; (case h1 => walk_at "ev"))
  | walk_at "evmore")
local macro_rules | `(tactic| walk_at "et") => `(tactic| first
  | (refine' et_test ?h1; (case h1 => walk_at "ev"))
  | (refine' et_B ?h1; (case h1 => walk_at "ev"))
  | (refine' et_not ?h1; (case h1 => walk_at "et"))
  | (refine' et_and ?h1 (fun _ => ?h2); (case h1 => walk_at "et"); (case h2 => walk_at "et"))
  | (refine' et_or ?h1 (fun _ => ?h2); (case h1 => walk_at "et"); (case h2 => walk_at "et")))
local macro_rules | `(tactic| walk_at "ea") => `(tactic| first
  | exact ea_nil
  | (refine' ea_cons ?h1 ?h2; (case h1 => walk_at "ev"); (case h2 => walk_at "ea")))
local macro_rules | `(tactic| walk_at "when") => `(tactic| (refine' q_when ?h ?h1 ?h2; (case h => walk_at "et")))
local macro_rules | `(tactic| walk_at "whenS") => `(tactic| (refine' s_when ?h ?h1 ?h2; (case h => walk_at "et")))
local macro_rules | `(tactic| walk_at "if") => `(tactic| (refine' q_if ?h ?h1 ?h2; (case h => walk_at "et")))
local macro_rules | `(tactic| walk_at "ifS") => `(tactic| (refine' s_if ?h ?h1 ?h2; (case h => walk_at "et")))
local macro_rules | `(tactic| walk_at "ret") => `(tactic| (refine' s_ret ?h ?h1; (case h => walk_at "ev")))
local macro_rules | `(tactic| walk_at "asg") => `(tactic| (refine' q_asg ?h ?h1; (case h => walk_at "ev")))
local macro_rules | `(tactic| walk_at "asgS") => `(tactic| (refine' s_asg ?h ?h1; (case h => walk_at "ev")))

/-! ### lists, existing or new -/
def EvR (te : TE) (σ : L2.St) (H : Hp) (xs : List V) : Prop := ∀ H1, Ex H H1 → ∀ Q : VK, (∀ p H2, Ex H1 H2 → H2 p = some (.lst xs) → Q (.ref p) H2) → te σ H1 Q
def EvS (K : PySem.W.Frag) (te : TE) (σ : L2.St) (H : Hp) (xs : List V) : Prop := ∀ H1, Ex H H1 → ∀ Q : VK, (∀ p H2, Ex H1 H2 → SqL K H2 p xs → Q (.ref p) H2) → te σ H1 Q
section
variable {K : PySem.W.Frag} {σ : L2.St} {H H' : Hp} {ta tb te : TE} {xs ys : List V} {a : Addr}
theorem EvL.r (h : EvL te σ H xs) : EvR te σ H xs := fun H1 e Q q => h H1 e Q fun p H2 _ e2 h2 => q p H2 e2 h2
theorem Ev.r (h : Ev te σ H (.ref a)) (hx : H a = some (.lst xs)) : EvR te σ H xs := fun H1 e Q q => h H1 e Q fun H2 e2 => q a H2 e2 (e2 _ _ (e _ _ hx))
theorem EvR.s (h : EvR te σ H xs) : EvS K te σ H xs := fun H1 e Q q => h H1 e Q fun p H2 e2 h2 => q p H2 e2 (sq_of h2)
theorem Ev.s (h : Ev te σ H (.ref a)) (hx : SqL K H a xs) : EvS K te σ H xs := fun H1 e Q q => h H1 e Q fun H2 e2 => q a H2 e2 (ex_l e2 (ex_l e hx))
theorem EvR.mono (e : Ex H H') (h : EvR te σ H xs) : EvR te σ H' xs := fun H1 a Q q => h H1 (e.trans a) Q q
theorem EvS.mono (e : Ex H H') (h : EvS K te σ H xs) : EvS K te σ H' xs := fun H1 a Q q => h H1 (e.trans a) Q q
theorem EvL.is (h : EvL te σ H xs) (e : xs = ys) : EvL te σ H ys := e ▸ h
theorem EvR.is (h : EvR te σ H xs) (e : xs = ys) : EvR te σ H ys := e ▸ h
theorem el_cat (ha : EvR ta σ H xs) (hb : EvR tb σ H ys) (hl : xs.length + ys.length ≤ 100000) : EvL (tOp rCat ta tb) σ H (xs ++ ys) := fun H1 e Q q =>
  ha H1 e _ fun p H2 e2 h2 => hb H2 (e.trans e2) _ fun r H3 e3 h3 => ⟨p, r, xs, ys, rfl, rfl, e3 _ _ h2, h3, sz_of hl, fun l hl => q l _ (fresh_back (e2.trans e3) hl) ((e2.trans e3).trans (Ex.new hl)) upd_same⟩
theorem el_rep {k : Int} (ha : EvR ta σ H xs) (hb : Ev tb σ H (.int k)) (hk : -(2 ^ 63) ≤ k ∧ k < 2 ^ 63) (hl : xs.length * k.toNat ≤ 100000) : EvL (tOp rRep ta tb) σ H (List.replicate k.toNat xs).flatten := fun H1 e Q q =>
  ha H1 e _ fun p H2 e2 h2 => hb H2 (e.trans e2) _ fun H3 e3 => ⟨p, k, xs, rfl, rfl, e3 _ _ h2, hk.1, hk.2, sz_of hl, fun l hl => q l _ (fresh_back (e2.trans e3) hl) ((e2.trans e3).trans (Ex.new hl)) upd_same⟩
theorem rep_one {x : V} (n : Nat) : (List.replicate n [x]).flatten = List.replicate n x := by
  induction n with
  | zero => rfl
  | succ n ih => rw [List.replicate_succ, List.replicate_succ, List.flatten_cons, ih]; rfl
theorem el_of {te : TE} (h : EvS K te σ H xs) : EvL (tCB (rListS K) (tCons te tNil)) σ H xs := fun H1 e Q q =>
  h H1 e _ fun p H2 e2 h2 => ⟨p, xs, rfl, .inl h2, fun l hl => q l _ (fresh_back e2 hl) (e2.trans (Ex.new hl)) upd_same⟩
theorem ev_lenS (h : EvS K te σ H xs) : Ev (tCB (rLenS K) (tCons te tNil)) σ H (.int (xs.length : Int)) := fun H1 e Q q =>
  h H1 e _ fun p H2 e2 h2 => ⟨p, xs, rfl, .inl h2, q H2 e2⟩
theorem ev_sum {ns : List Int} (h : EvS K te σ H (ns.map V.int)) : Ev (tCB (rSum K) (tCons te tNil)) σ H (.int ns.sum) := fun H1 e Q q =>
  h H1 e _ fun p H2 e2 h2 => ⟨p, ns, rfl, h2, q H2 e2⟩
theorem dp_ints {K : PySem.W.Frag} {H : Hp} : ∀ ns : List Int, DpAll K H (ns.map V.int) (ns.map PyData.int)
  | [] => .nil
  | n :: r => .cons (.int n) (dp_ints r)
theorem eqv_ints : ∀ ns ms : List Int, PyData.eqvAll (ns.map PyData.int) (ms.map PyData.int) = decide (ns = ms)
  | [], [] => by simp [PyData.eqvAll]
  | [], _ :: _ => by simp [PyData.eqvAll]
  | _ :: _, [] => by simp [PyData.eqvAll]
  | n :: r, m :: t => by
    show (PyData.eqv (.int n) (.int m) && PyData.eqvAll (r.map PyData.int) (t.map PyData.int)) = _
    rw [eqv_ints r t]
    show ((n == m) && decide (r = t)) = _
    by_cases h1 : n = m <;> by_cases h2 : r = t <;> simp [h1, h2]
theorem canLay_ints : ∀ ns : List Int, PyData.canLayAll0 (ns.map PyData.int) = true
  | [] => by simp [PyData.canLayAll0]
  | n :: r => by
    show PyData.canLayAll0 (PyData.int n :: r.map PyData.int) = true
    rw [PyData.canLayAll0, canLay_ints r]
    simp [PyData.canLay0]
theorem depth_ints : ∀ ns : List Int, PyData.depthAll (ns.map PyData.int) ≤ 1
  | [] => by simp [PyData.depthAll]
  | n :: r => by
    show PyData.depthAll (PyData.int n :: r.map PyData.int) ≤ 1
    have := depth_ints r
    simp only [PyData.depthAll, PyData.depth]
    omega
theorem shaped_ints (ns : List Int) : SeqAt.shaped (.list (ns.map PyData.int)) = true := by
  unfold SeqAt.shaped
  have h1 := canLay_ints ns
  have h2 := depth_ints ns
  have h3 : PyData.depth (.list (ns.map PyData.int)) ≤ 64 := by
    rw [PyData.depth]
    omega
  rw [decide_eq_true h3, Bool.and_true]
  simpa only [PyData.canLay0] using h1
theorem ev_eqI {ns ms : List Int} (ha : EvS K ta σ H (ns.map V.int)) (hb : EvS K tb σ H (ms.map V.int)) : Ev (tOp (rEqD K) ta tb) σ H (.bl (decide (ns = ms))) := fun H1 e Q q =>
  ha H1 e _ fun p H2 e2 h2 => hb H2 (e.trans e2) _ fun r H3 e3 h3 => ⟨.list (ns.map PyData.int), .list (ms.map PyData.int), .lst (ex_l e3 h2) (dp_ints ns), .lst h3 (dp_ints ms), shaped_ints ns, shaped_ints ms, by
    show Q (.bl (PyData.eqvAll (ns.map PyData.int) (ms.map PyData.int))) H3
    rw [eqv_ints]
    exact q H3 (e2.trans e3)⟩
theorem ev_neI {ns ms : List Int} (ha : EvS K ta σ H (ns.map V.int)) (hb : EvS K tb σ H (ms.map V.int)) : Ev (tOp (rNeD K) ta tb) σ H (.bl (!decide (ns = ms))) := fun H1 e Q q =>
  ha H1 e _ fun p H2 e2 h2 => hb H2 (e.trans e2) _ fun r H3 e3 h3 => ⟨.list (ns.map PyData.int), .list (ms.map PyData.int), .lst (ex_l e3 h2) (dp_ints ns), .lst h3 (dp_ints ms), shaped_ints ns, shaped_ints ms, by
    show Q (.bl (!PyData.eqvAll (ns.map PyData.int) (ms.map PyData.int))) H3
    rw [eqv_ints]
    exact q H3 (e2.trans e3)⟩
theorem ev_ixS {i : Nat} {n : Int} {tl ti : TE} {v : V} (h : EvS K tl σ H xs) (hi : Ev ti σ H (.int n)) (ha : atI xs n = some v) : Ev (tOp (rIxL K) tl ti) σ H v := fun H1 e Q q =>
  h H1 e _ fun p H2 e2 h2 => hi H2 (e.trans e2) _ fun H3 e3 => ⟨p, xs, n, v, rfl, rfl, ex_l e3 h2, ha, q H3 (e2.trans e3)⟩
theorem el_slS {tl th : TO} {lo hi : Option Int} (h : EvS K te σ H xs) (h1 : EvO tl σ H lo) (h2 : EvO th σ H hi) : EvL (tSl (rSlL K) te tl th) σ H (cutV xs lo hi) := fun H1 e _ q =>
  h H1 e _ fun a H2 e2 hs => h1 H2 (e.trans e2) _ fun H3 e3 => h2 H3 ((e.trans e2).trans e3) _ fun H4 e4 =>
    ⟨a, xs, rfl, ex_l (e3.trans e4) hs, fun p hp => q p _ (fresh_back ((e2.trans e3).trans e4) hp) (((e2.trans e3).trans e4).trans (Ex.new hp)) upd_same⟩
theorem ev_at {n : Int} {tl ti : TE} {v : V} (h : EvS K tl σ H xs) (hi : Ev ti σ H (.int n)) (ha : atI xs n = some v) : Ev (tOp (rIxL K) tl ti) σ H v := ev_ixS (i := 0) h hi ha
theorem cut_to (xs : List V) (i : Nat) : cutV xs none (some (i : Int)) = xs.take i := by
  unfold cutV
  rw [HT.sIx_none, HT.sIx_nat, List.drop_zero, Nat.sub_zero]
  by_cases h : i ≤ xs.length
  · rw [Nat.min_eq_left h]
  · rw [Nat.min_eq_right (by omega), List.take_of_length_le (Nat.le_refl _), List.take_of_length_le (by omega)]
theorem cut_from (xs : List V) (i : Nat) : cutV xs (some (i : Int)) none = xs.drop i := by
  unfold cutV
  rw [HT.sIx_none, HT.sIx_nat]
  by_cases h : i ≤ xs.length
  · rw [Nat.min_eq_left h, List.take_of_length_le (by rw [List.length_drop]; omega)]
  · rw [Nat.min_eq_right (by omega), List.drop_of_length_le (Nat.le_refl _), List.drop_of_length_le (show xs.length ≤ i by omega), List.take_nil]
theorem cut_mid (xs : List V) (i j : Nat) : cutV xs (some (i : Int)) (some (j : Int)) = (xs.drop i).take (j - i) := by
  unfold cutV
  rw [HT.sIx_nat, HT.sIx_nat]
  by_cases h : i ≤ xs.length
  · rw [Nat.min_eq_left h]
    by_cases h2 : j ≤ xs.length
    · rw [Nat.min_eq_left h2]
    · rw [Nat.min_eq_right (by omega), List.take_of_length_le (by rw [List.length_drop]; omega), List.take_of_length_le (by rw [List.length_drop]; omega)]
  · rw [Nat.min_eq_right (by omega : xs.length ≤ i), List.drop_of_length_le (Nat.le_refl _), List.drop_of_length_le (show xs.length ≤ i by omega)]
    simp
theorem el_to {th : TE} {ns : List Int} {i : Nat} (h : EvS K te σ H (ns.map V.int)) (h2 : Ev th σ H (.int i)) : EvL (tSl (rSlL K) te tNoPart (tPart th)) σ H ((ns.take i).map V.int) :=
  EvL.is (el_slS h eo_none (eo_some h2)) (by rw [List.map_take]; exact cut_to _ i)
theorem el_from {th : TE} {ns : List Int} {i : Nat} (h : EvS K te σ H (ns.map V.int)) (h2 : Ev th σ H (.int i)) : EvL (tSl (rSlL K) te (tPart th) tNoPart) σ H ((ns.drop i).map V.int) :=
  EvL.is (el_slS h (eo_some h2) eo_none) (by rw [List.map_drop]; exact cut_from _ i)
theorem el_mid {t1 t2 : TE} {ns : List Int} {i j : Nat} (h : EvS K te σ H (ns.map V.int)) (h1 : Ev t1 σ H (.int i)) (h2 : Ev t2 σ H (.int j)) : EvL (tSl (rSlL K) te (tPart t1) (tPart t2)) σ H (((ns.drop i).take (j - i)).map V.int) :=
  EvL.is (el_slS h (eo_some h1) (eo_some h2)) (by rw [List.map_take, List.map_drop]; exact cut_mid _ i j)
section
variable {D : Ends} {tz : TS} {sp : Sp} {dvs vs : List V} {E : XK} {tA : TA}
/-- x = f(..), whatever f promises -/
theorem q_asgC {i : Nat} (h : EvA tA σ H vs) (k : ∀ H1, Ex H H1 → sp (vs ++ dvs) H1 (fun x H2 => tz D (σ.set i (some x)) H2) E) : tSeq (tAsg (tCall sp dvs E tA) (gName i)) tz D σ H := h H (Ex.refl H) _ fun H1 e => k H1 e
theorem s_asgC {i : Nat} (h : EvA tA σ H vs) (k : ∀ H1, Ex H H1 → sp (vs ++ dvs) H1 (fun x H2 => D.nx (σ.set i (some x)) H2) E) : tAsg (tCall sp dvs E tA) (gName i) D σ H := h H (Ex.refl H) _ fun H1 e => k H1 e
theorem q_dropC (h : EvA tA σ H vs) (k : ∀ H1, Ex H H1 → sp (vs ++ dvs) H1 (fun _ H2 => tz D σ H2) E) : tSeq (tDrop (tCall sp dvs E tA)) tz D σ H := h H (Ex.refl H) _ fun H1 e => k H1 e
theorem s_retC (h : EvA tA σ H vs) (k : ∀ H1, Ex H H1 → sp (vs ++ dvs) H1 D.rt E) : tRet (tCall sp dvs E tA) D σ H := h H (Ex.refl H) _ fun H1 e => k H1 e
end
theorem gl_get {ns : List Int} {i : Nat} (h : i < ns.length) : ns[i]? = some (ns.getD i 0) := by
  rw [List.getD_eq_getElem?_getD, List.getElem?_eq_getElem h]
  rfl
theorem q_asgRaw {te : TE} {i : Nat} {D : Ends} {tz : TS} (P : V → Hp → Prop) (h : ∀ Q : VK, (∀ x H2, P x H2 → Q x H2) → te σ H Q) (k : ∀ x H2, P x H2 → tz D (σ.set i (some x)) H2) : tSeq (tAsg te (gName i)) tz D σ H := h _ k
/-- a, b = a pair -/
theorem q_asgT {te : TE} {i j : Nat} {D : Ends} {tz : TS} (P : V → V → Hp → Prop) (h : ∀ Q : VK, (∀ t x y H2, P x y H2 → SqT K H2 t [x, y] → Q (.ref t) H2) → te σ H Q) (k : ∀ x y H2, P x y H2 → tz D ((σ.set i (some x)).set j (some y)) H2) :
    tSeq (tAsg te (gTup K 2 (gCons (gName i) (gCons (gName j) gNil)))) tz D σ H := h _ fun t x y H2 hP hT => ⟨t, [x, y], rfl, hT, rfl, x, [y], rfl, y, [], rfl, rfl, k x y H2 hP⟩
/-- the law's cell -/
def cellI (ns : List Int) (k : Int) : Int := ns.getD k.toNat 0
theorem cellI_in {ns : List Int} {k : Int} (h0 : 0 ≤ k) (h : k < ns.length) : ns[k.toNat]? = some (cellI ns k) := by
  unfold cellI
  rw [List.getD_eq_getElem?_getD, List.getElem?_eq_getElem (by omega)]
  rfl
theorem cellI_out {ns : List Int} {k : Int} (h : ¬ k < ns.length) : cellI ns k = 0 := by
  unfold cellI
  rw [List.getD_eq_getElem?_getD, List.getElem?_eq_none (by omega)]
  rfl
end
theorem Ex.get {H H' : Hp} {a : Addr} {o : HO} (e : Ex H H') (h : H a = some o) : H' a = some o := e a o h
local macro_rules | `(tactic| walk_at "hp") => `(tactic| first
  | assumption
  | exact upd_same
  | (refine' Ex.get (by assumption) ?h1; (case h1 => walk_at "hp")))
local macro_rules | `(tactic| walk_at "ex") => `(tactic| first
  | assumption
  | exact Ex.refl _
  | (refine' Ex.trans ?h1 (by assumption); (case h1 => walk_at "ex")))
local macro_rules | `(tactic| walk_at "sq") => `(tactic| first
  | assumption
  | (refine' sq_of ?h1; (case h1 => walk_at "hp"))
  | (refine' ex_l (by assumption) ?h1; (case h1 => walk_at "sq")))
local macro_rules | `(tactic| walk_at "evs") => `(tactic| first
  | (refine' Ev.s ?h1 ?h2; (case h1 => exact ev_var rfl); (case h2 => walk_at "sq"))
  | (refine' EvR.s ?h1; (case h1 => walk_at "evr")))
local macro_rules | `(tactic| walk_at "evr") => `(tactic| first
  | (refine' Ev.r ?h1 ?h2; (case h1 => exact ev_var rfl); (case h2 => walk_at "hp"))
  | (refine' EvL.r ?h1; (case h1 => walk_at "el")))
local macro_rules | `(tactic| walk_at "eo") => `(tactic| first
  | exact eo_none
  | (refine' eo_some ?h1; (case h1 => walk_at "ev")))
local macro_rules | `(tactic| walk_at "el") => `(tactic| first
  | (refine' el_lst ?h1 ?h2; (case h1 => walk_at "ea"); (case h2 => exact Nat.le_of_ble_eq_true rfl))
  | (refine' el_cat ?h1 ?h2 ?h3; (case h1 => walk_at "evr"); (case h2 => walk_at "evr"); (case h3 => walk_at "len"))
  | (refine' el_rep ?h1 ?h2 ?h3 ?h4; (case h1 => walk_at "evr"); (case h2 => walk_at "ev"); (case h3 => walk_at "side2"); (case h4 => walk_at "len"))
  | (refine' el_of ?h1; (case h1 => walk_at "evs"))
  | (refine' el_to ?h1 ?h2; (case h1 => walk_at "evs"); (case h2 => walk_at "ev"))
  | (refine' el_from ?h1 ?h2; (case h1 => walk_at "evs"); (case h2 => walk_at "ev"))
  | (refine' el_mid ?h1 ?h2 ?h3; (case h1 => walk_at "evs"); (case h2 => walk_at "ev"); (case h3 => walk_at "ev"))
  | (refine' el_slS ?h1 ?h2 ?h3; (case h1 => walk_at "evs"); (case h2 => walk_at "eo"); (case h3 => walk_at "eo"))
  | walk_at "elmore")
local macro_rules | `(tactic| walk_at "evmore") => `(tactic| first
  | (refine' ev_lenS ?h1; (case h1 => walk_at "evs"))
  | (refine' ev_sum ?h1; (case h1 => walk_at "evs"))
  | (refine' ev_eqI ?h1 ?h2; (case h1 => walk_at "evs"); (case h2 => walk_at "evs"))
  | (refine' ev_neI ?h1 ?h2; (case h1 => walk_at "evs"); (case h2 => walk_at "evs"))
  | (refine' ev_at ?h1 ?h2 ?h3; (case h1 => walk_at "evs"); (case h2 => walk_at "ev"); (case h3 => walk_at "at"))
  | (refine' ev_isiL ?h1 ?h2; (case h1 => walk_at "ev"); (case h2 => walk_at "hp"))
  | walk_at "evown")
local macro_rules | `(tactic| walk_at "at") => `(tactic| first
  | exact at_of rfl (at_int (by assumption))
  | exact at_of rfl (by assumption))
local macro_rules | `(tactic| walk_at "asgL") => `(tactic| (refine' q_asgL ?h ?h1; (case h => walk_at "el")))
local macro_rules | `(tactic| walk_at "retL") => `(tactic| (refine' s_retL ?h ?h1; (case h => walk_at "el")))

/-- a walk's reading said in other words -/
theorem PI.k {X : Cx} {tg e : Expr} {wi wi' : TI} (h : PI X tg e wi) (q : wi = wi') : PI X tg e wi' := q ▸ h
/-! ### comprehensions whose items are said in a list -/
theorem et_yes {σ : L2.St} {H : Hp} : EvT tYes σ H true := fun H1 _ _ q => q H1 (Ex.refl H1)
section
variable {K : PySem.W.Frag} {σ : L2.St} {H : Hp} {t1 t2 te : TE} {xs ys zs : List V} {vs : List Nat}
theorem take_snoc {zs : List V} {i : Nat} {z : V} (h : zs[i]? = some z) : zs.take (i + 1) = zs.take i ++ [z] := by
  rw [List.take_add_one, h]
  rfl
theorem el_lcZ {j1 j2 : Nat} (zs : List V) (h1 : EvS K t1 σ H xs) (h2 : EvS K t2 σ H ys) (hz : zs.length = min xs.length ys.length) (hb : zs.length ≤ 50000)
    (hw : ∀ x y, wipe (((wipe σ vs).set j1 (some x)).set j2 (some y)) vs = wipe σ vs)
    (he : ∀ (i : Nat) (x y : V) H1, Ex H H1 → xs[i]? = some x → ys[i]? = some y → ∃ z, zs[i]? = some z ∧ Ev te (((wipe σ vs).set j1 (some x)).set j2 (some y)) H1 z) :
    EvL (tLc (iZip K (tCons t1 (tCons t2 tNil))) (gTup K 2 (gCons (gName j1) (gCons (gName j2) gNil))) tYes te vs) σ H zs := fun H0 e Q q =>
  h1 H0 e _ fun p H1 e1 hp => h2 H1 (e.trans e1) _ fun r H2 e2 hr => ⟨p, r, xs, ys, rfl, ex_l e2 hp, hr, fun D hD =>
    ⟨fun i m H' => m = zs.length - i ∧ i ≤ zs.length ∧ Ex H2 H' ∧ H' D = some (.lst (zs.take i)), ⟨zs.length, rfl, Nat.zero_le _, Ex.new hD, upd_same⟩, by
      rintro i m H' ⟨rfl, hi, ex, hd⟩
      have qx : SqL K H' p xs := ex_l (e2.trans ex) hp
      have qy : SqL K H' r ys := ex_l ex hr
      by_cases hlt : i < zs.length
      · have hx : xs[i]? = some xs[i] := List.getElem?_eq_getElem (by omega)
        have hy : ys[i]? = some ys[i] := List.getElem?_eq_getElem (by omega)
        refine .inr ⟨⟨xs, ys, _, _, qx, qy, hx, hy⟩, fun H3 => i + 1 ≤ zs.length ∧ Ex H2 H3 ∧ H3 D = some (.lst (zs.take (i + 1))), fun H3 h3 => ⟨zs.length - (i + 1), by omega, rfl, h3⟩, fun v H3 hv => ?_⟩
        obtain ⟨T, x, y, rfl, hT, rfl, f1, f2⟩ := hv
        have ex3 : Ex H' (upd H' T (.tup [x, y])) := Ex.new hT
        obtain ⟨z, hz1, hz2⟩ := he i x y (upd H' T (.tup [x, y])) ((((e.trans e1).trans e2).trans ex).trans ex3) (f1 _ qx) (f2 _ qy)
        refine ⟨T, [x, y], rfl, st_of upd_same, rfl, x, [y], rfl, y, [], rfl, rfl, hw x y, ?_⟩
        refine hz2 _ (Ex.refl _) _ fun H4 e4 => ⟨zs.take i, e4 _ _ (ex3 _ _ hd), sz_lt (by rw [List.length_take]; omega), hlt, ?_, ?_⟩
        · exact Ex.mut ((ex.trans ex3).trans e4) hD
        · rw [upd_same, take_snoc hz1]
      · have ei : i = zs.length := by omega
        refine .inl ⟨⟨xs, ys, qx, qy, by omega⟩, ?_⟩
        rw [ei, List.take_length] at hd
        exact q D H' (fresh_back (e1.trans e2) hD) ((e1.trans e2).trans ex) hd⟩⟩
/-- over a list, each item kept -/
theorem el_lcS {j : Nat} (zs : List V) (h1 : EvS K t1 σ H xs) (hz : zs.length = xs.length) (hb : zs.length ≤ 50000) (hw : ∀ x, wipe ((wipe σ vs).set j (some x)) vs = wipe σ vs)
    (he : ∀ (i : Nat) (x : V) H1, Ex H H1 → xs[i]? = some x → ∃ z, zs[i]? = some z ∧ Ev te ((wipe σ vs).set j (some x)) H1 z) :
    EvL (tLc (iList K t1) (gName j) tYes te vs) σ H zs := fun H0 e Q q =>
  h1 H0 e _ fun p H1 e1 hp => ⟨p, rfl, ⟨xs, hp⟩, fun D hD => lc_list (xs := xs) (fun i H' => Ex H1 H' ∧ H' D = some (.lst (zs.take i))) ⟨Ex.new hD, upd_same⟩ (fun i H' _ h => ex_l h.1 hp)
    (fun i x H' hi h => ⟨hw x, by
      obtain ⟨z, hz1, hz2⟩ := he i x H' ((e.trans e1).trans h.1) hi
      have hl : i < xs.length := (List.getElem?_eq_some_iff.mp hi).1
      refine hz2 H' (Ex.refl _) _ fun H4 e4 => ⟨zs.take i, e4 _ _ h.2, sz_lt (by rw [List.length_take]; omega), Ex.mut (h.1.trans e4) hD, ?_⟩
      rw [upd_same, take_snoc hz1]⟩)
    (fun H' h => q D H' (fresh_back e1 hD) (e1.trans h.1) (by rw [h.2, ← hz, List.take_length]))⟩
/-- over range(n) -/
theorem el_lcR {ta : TA} {n : Int} {j : Nat} (zs : List V) (h1 : EvA ta σ H [.int n]) (hn : -100000 ≤ n) (hz : zs.length = n.toNat) (hb : zs.length ≤ 50000) (hw : ∀ x, wipe ((wipe σ vs).set j (some x)) vs = wipe σ vs)
    (he : ∀ (i : Nat) H1, Ex H H1 → i < zs.length → ∃ z, zs[i]? = some z ∧ Ev te ((wipe σ vs).set j (some (.int (i : Int)))) H1 z) :
    EvL (tLc (iRng1 ta) (gName j) tYes te vs) σ H zs := fun H0 e Q q =>
  h1 H0 e _ fun H1 e1 => ⟨n, rfl, by omega, by omega, fun D hD => lc_range (lo := 0) (n := n.toNat) (fun i H' => Ex H1 H' ∧ H' D = some (.lst (zs.take i))) ⟨Ex.new hD, upd_same⟩
    (fun i H' hi h => by
      have e0 : (0 : Int) + (i : Int) = (i : Int) := Int.zero_add _
      rw [e0]
      obtain ⟨z, hz1, hz2⟩ := he i H' ((e.trans e1).trans h.1) (by omega)
      refine ⟨hw _, hz2 H' (Ex.refl _) _ fun H4 e4 => ⟨zs.take i, e4 _ _ h.2, sz_lt (by rw [List.length_take]; omega), Ex.mut (h.1.trans e4) hD, ?_⟩⟩
      rw [upd_same, take_snoc hz1])
    (fun H' h => q D H' (fresh_back e1 hD) (e1.trans h.1) (by rw [h.2, show n.toNat = zs.length by omega, List.take_length]))⟩
/-- y = [.. for x in f(..)], whatever f promises -/
theorem s_asgLC {sp : Sp} {dvs args : List V} {E : XK} {ta : TA} {g : TG} {tt : TT} {D : Ends} {i : Nat} (h : EvA ta σ H args) (k : ∀ H1, Ex H H1 → sp (args ++ dvs) H1 (fun x H2 => tAsg (tLc (iList K (tC x)) g tt te vs) (gName i) D σ H2) E) :
    tAsg (tLc (iList K (tCall sp dvs E ta)) g tt te vs) (gName i) D σ H := h H (Ex.refl H) _ fun H1 e => k H1 e
theorem q_asgLC {sp : Sp} {dvs args : List V} {E : XK} {ta : TA} {g : TG} {tt : TT} {D : Ends} {i : Nat} {tz : TS} (h : EvA ta σ H args) (k : ∀ H1, Ex H H1 → sp (args ++ dvs) H1 (fun x H2 => tSeq (tAsg (tLc (iList K (tC x)) g tt te vs) (gName i)) tz D σ H2) E) :
    tSeq (tAsg (tLc (iList K (tCall sp dvs E ta)) g tt te vs) (gName i)) tz D σ H := h H (Ex.refl H) _ fun H1 e => k H1 e
theorem s_retLC {sp : Sp} {dvs args : List V} {E : XK} {ta : TA} {g : TG} {tt : TT} {D : Ends} (h : EvA ta σ H args) (k : ∀ H1, Ex H H1 → sp (args ++ dvs) H1 (fun x H2 => tRet (tLc (iList K (tC x)) g tt te vs) D σ H2) E) :
    tRet (tLc (iList K (tCall sp dvs E ta)) g tt te vs) D σ H := h H (Ex.refl H) _ fun H1 e => k H1 e
end

/-! ### data at any depth -/
mutual
theorem dp_ex {K : PySem.W.Frag} {H H' : Hp} (e : Ex H H') : ∀ (d : PyData) (v : V), Dp K H v d → Dp K H' v d
  | .none, _, h => by cases h; exact .non
  | .bool b, _, h => by cases h; exact .bl b
  | .int i, _, h => by cases h; exact .int i
  | .str x, _, h => by cases h; exact .str x
  | .list ds, _, h => by cases h with | lst hs ha => exact .lst (ex_l e hs) (dpa_ex e ds _ ha)
  | .tuple ds, _, h => by cases h with | tup hs ha => exact .tup (ex_t e hs) (dpa_ex e ds _ ha)
  | .dict _, _, h => by cases h
theorem dpa_ex {K : PySem.W.Frag} {H H' : Hp} (e : Ex H H') : ∀ (ds : List PyData) (vs : List V), DpAll K H vs ds → DpAll K H' vs ds
  | [], _, h => by cases h; exact .nil
  | d :: ds, _, h => by cases h with | cons h1 h2 => exact .cons (dp_ex e d _ h1) (dpa_ex e ds _ h2)
end
def EvD (K : PySem.W.Frag) (te : TE) (σ : L2.St) (H : Hp) (d : PyData) : Prop := ∀ H1, Ex H H1 → ∀ Q : VK, (∀ v H2, Ex H1 H2 → Dp K H2 v d → Q v H2) → te σ H1 Q
section
variable {K : PySem.W.Frag} {σ : L2.St} {H : Hp} {te ta tb t1 t2 t3 : TE} {d d1 d2 d3 : PyData} {v : V}
theorem EvD.of (h : Ev te σ H v) (hd : Dp K H v d) : EvD K te σ H d := fun H1 e Q q => h H1 e _ fun H2 e2 => q v H2 e2 (dp_ex (e.trans e2) d v hd)
theorem EvS.toD {ns : List Int} (h : EvS K te σ H (ns.map V.int)) : EvD K te σ H (.list (ns.map .int)) := fun H1 e Q q => h H1 e _ fun p H2 e2 hp => q (.ref p) H2 e2 (.lst hp (dp_ints ns))
theorem ed_tup2 (h1 : EvD K t1 σ H d1) (h2 : EvD K t2 σ H d2) : EvD K (tTup (tCons t1 (tCons t2 tNil))) σ H (.tuple [d1, d2]) := fun H1 e Q q => h1 H1 e _ fun v H2 e2 hv => h2 H2 (e.trans e2) _ fun u H3 e3 hu =>
  ⟨sz_of (show 2 ≤ 100000 by decide), fun p hp => q (.ref p) _ ((e2.trans e3).trans (Ex.new hp)) (.tup (st_of upd_same) (.cons (dp_ex (e3.trans (Ex.new hp)) _ _ hv) (.cons (dp_ex (Ex.new hp) _ _ hu) .nil)))⟩
theorem ev_eqDD (h1 : EvD K ta σ H d) (h2 : EvD K tb σ H d) (hs : SeqAt.shaped d = true) : Ev (tOp (rEqD K) ta tb) σ H (.bl true) := fun H1 e Q q => h1 H1 e _ fun v H2 e2 hv => h2 H2 (e.trans e2) _ fun u H3 e3 hu =>
  ⟨d, d, dp_ex e3 d v hv, hu, hs, hs, by rw [SeqAt.eqv_refl d (SeqAt.canLay_of_shaped hs)]; exact q H3 (e2.trans e3)⟩
theorem ev_neDD (h1 : EvD K ta σ H d) (h2 : EvD K tb σ H d) (hs : SeqAt.shaped d = true) : Ev (tOp (rNeD K) ta tb) σ H (.bl false) := fun H1 e Q q => h1 H1 e _ fun v H2 e2 hv => h2 H2 (e.trans e2) _ fun u H3 e3 hu =>
  ⟨d, d, dp_ex e3 d v hv, hu, hs, hs, by rw [SeqAt.eqv_refl d (SeqAt.canLay_of_shaped hs)]; exact q H3 (e2.trans e3)⟩
end
theorem shaped_pair (ns ms : List Int) : SeqAt.shaped (.tuple [.list (ns.map .int), .list (ms.map .int)]) = true := by
  unfold SeqAt.shaped
  have h1 := canLay_ints ns
  have h2 := depth_ints ns
  have h3 := canLay_ints ms
  have h4 := depth_ints ms
  rw [Bool.and_eq_true, decide_eq_true_iff]
  refine ⟨by simp only [PyData.canLay0, PyData.canLayAll0, h1, h3, Bool.and_self], ?_⟩
  simp only [PyData.depth, PyData.depthAll]
  omega

/-! ### calls with keywords, defaults -/
theorem kwAllN {K : PySem.W.Frag} {D : Addr} : ∀ p ∈ ([] : List (Str × V)), ∃ u, PySem.W.nsIn K D p.1 = some (some u) ∧ RelV p.2 u := fun p hp => by cases hp
theorem kwAllC {K : PySem.W.Frag} {D : Addr} {q : Str × V} {l : List (Str × V)} (h : ∃ u, PySem.W.nsIn K D q.1 = some (some u) ∧ RelV q.2 u) (hl : ∀ p ∈ l, ∃ u, PySem.W.nsIn K D p.1 = some (some u) ∧ RelV p.2 u) : ∀ p ∈ q :: l, ∃ u, PySem.W.nsIn K D p.1 = some (some u) ∧ RelV p.2 u := fun p hp => by
  rcases List.mem_cons.mp hp with rfl | hp
  · exact h
  · exact hl p hp
theorem kwAll1 {K : PySem.W.Frag} {D : Addr} {q : Str × V} (h : ∃ u, PySem.W.nsIn K D q.1 = some (some u) ∧ RelV q.2 u) : ∀ p ∈ [q], ∃ u, PySem.W.nsIn K D p.1 = some (some u) ∧ RelV p.2 u := fun p hp => by
  rcases List.mem_cons.mp hp with rfl | hp
  · exact h
  · cases hp
section
variable {K : PySem.W.Frag} {x qual : Str} {params : Arguments} {body : List Stmt} {scope : Scope} {dvs : List V} {kws : List (Str × V)} {f : Addr} {fd : FuncData} {ps : List Str}
/-- f(a, .., k = v, ..), nothing left to a default, no defaults of place -/
theorem fund_kb0 {g : List Value → List Value → List Value} {gV : List V → List V → List V} (F : FunD K x qual params body scope [] kws f fd) (n : Nat) (ks : List Str)
    (hrel : ∀ {vs : List V} {us : List Value} {zs : List V} {ws : List Value}, Vals vs us → Vals zs ws → Vals (gV vs zs) (g us ws))
    (h : ∀ (kV doc pm : Value) (an : Option Addr) (cdv ct : Value) (us ws : List Value), us.length = n → ws.length = ks.length → bindArgs (PySem.W.fnOf x qual params body scope .none kV doc pm an cdv ct) ⟨us, ks.zip ws⟩ = pure (ps.zip (g us ws))) :
    KBn K fd ps n ks g gV := by
  obtain ⟨oc, od, dV, kV, doc, pm, an, cdv, ct, osl, rfl, lk, hcd, hD, hK⟩ := F.ex
  rcases hD with ⟨_, rfl⟩ | ⟨e, _⟩
  · exact ⟨fun s us ws X l1 l2 => .of_eq (h kV doc pm an cdv ct us ws l1 l2), hrel⟩
  · exact absurd rfl e
/-- the same of a def with defaults of place -/
theorem fund_kb1 {g : List Value → List Value → List Value} {gV : List V → List V → List V} (F : FunD K x qual params body scope dvs kws f fd) (hd : dvs ≠ []) (n : Nat) (ks : List Str)
    (hrel : ∀ {vs : List V} {us : List Value} {zs : List V} {ws : List Value}, Vals vs us → Vals zs ws → Vals (gV vs zs) (g us ws))
    (h : ∀ (T : Addr) (kV doc pm : Value) (an : Option Addr) (cdv ct : Value) (us its ws : List Value), us.length = n → its.length = dvs.length → ws.length = ks.length →
      ∃ k, bindArgs (PySem.W.fnOf x qual params body scope (.ref T) kV doc pm an cdv ct) ⟨us, ks.zip ws⟩ = seqItems? (.ref T) >>= k ∧ k (some its.toArray) = pure (ps.zip (g us ws))) :
    KBn K fd ps n ks g gV := by
  obtain ⟨oc, od, dV, kV, doc, pm, an, cdv, ct, osl, rfl, lk, hcd, hD, hK⟩ := F.ex
  rcases hD with ⟨e, _⟩ | ⟨_, T, o, its, m, rfl, lT, oT, rT⟩
  · exact absurd e hd
  · refine ⟨fun s us ws X l1 l2 => ?_, hrel⟩
    obtain ⟨k, e1, e2⟩ := h T kV doc pm an cdv ct us its ws l1 rT.length.symm l2
    refine BindsTo.of_looks fun M => ?_
    rw [e1]
    exact looks_items X lT oT (.of_pure e2)
end

/-! ### x == y by x's own method -/
def rEqO (C : Addr) (sp : Sp) (E : XK) (K : PySem.W.Frag) : R2 := fun x y H Q => ∃ (a dx : Addr) (fs : List (Str × V)) (t : Value), x = .ref a ∧ H a = some (.ins C dx fs) ∧ TyX K H y t ∧ PySem.W.notFirst K C t = true ∧ sp [.ref a, y] H (fun v H' => (∃ b, v = .bl b) ∧ Q v H') E
structure TyC (K : PySem.W.Frag) (C : Addr) : Prop where
  ha : PySem.W.findIn K (.ref C) "__class__" = some (some (.builtin "object.__class__"))
  hn : PySem.W.specialIn K (.builtin "object.__class__") "__get__" = some (some (.builtin "getset_descriptor.__get__"))
  ht : PySem.W.takesIn K (.builtin "object.__class__") = some true
  hm : PySem.W.mroIn K C (.type "object") = some true
theorem TyC.ins {K : PySem.W.Frag} {C : Addr} (t : TyC K C) (c : Cls K C) {H : Hp} {a dx : Addr} {fs : List (Str × V)} (h : H a = some (.ins C dx fs)) : ∀ H1, Ex H H1 → TyX K H1 (.ref a) (.ref C) := fun H1 e => .base (.ins (e _ _ h) c t.ha t.hn t.ht t.hm)
/-- isinstance(x, C), C an own class -/
theorem ev_isiO {K : PySem.W.Frag} {σ : L2.St} {H : Hp} {ta : TE} {x : V} {t : Value} {C : Addr} {b : Bool} (ha : Ev ta σ H x) (ht : ∀ H1, Ex H H1 → TyX K H1 x t) (hk : PySem.W.kitOne K t (.ref C) = some b) : Ev (tCB (rIsi K) (tCons ta (tCons (tC (.ref C)) tNil))) σ H (.bl b) :=
  ev_cb (ea_cons ha (ea_cons ev_c ea_nil)) fun H1 e Q q => ⟨x, .ref C, t, _, b, rfl, .own C, ht H1 e, hk, q H1 (Ex.refl H1)⟩
theorem ev_eqO {K : PySem.W.Frag} {σ : L2.St} {H : Hp} {ta tb : TE} {C a dx : Addr} {fs : List (Str × V)} {y : V} {t : Value} {sp : Sp} {E : XK} {b : Bool} (ha : Ev ta σ H (.ref a)) (hx : H a = some (.ins C dx fs)) (hb : Ev tb σ H y) (ht : ∀ H1, Ex H H1 → TyX K H1 y t) (hn : PySem.W.notFirst K C t = true) (hs : SpV sp [.ref a, y] H (.bl b)) : Ev (tOp (rEqO C sp E K) ta tb) σ H (.bl b) := fun H1 e Q q =>
  ha H1 e _ fun H2 e2 => hb H2 (e.trans e2) _ fun H3 e3 => ⟨a, dx, fs, t, rfl, ((e.trans e2).trans e3) _ _ hx, ht H3 ((e.trans e2).trans e3), hn, hs H3 ((e.trans e2).trans e3) _ (fun H4 e4 => ⟨⟨b, rfl⟩, q H4 ((e2.trans e3).trans e4)⟩) E⟩
theorem op_eqO {X : Cx} {CX : CXT} {C f : Addr} {fd : FuncData} {ps : List Str} {sp : Sp} {E : XK} {n : Nat} (F : FnOk X.prog X.w X.K X.mg X.base CX n f fd ps sp) (hs : PySem.W.findIn X.K (.ref C) "__eq__" = some (some (.ref f))) (hf : PySem.W.isFn X.K (.ref f) = true)
    (hb : Binds X.K fd ps []) (hx : Passes CX X E) (hr : Room n X.A) : OpR X (compareOp .Eq) (rEqO C sp E X.K) := by
  intro pins s σ H x y v u Q I rx ry hq
  obtain ⟨a, dx, fs, t, rfl, ha, ty, hn, hsp⟩ := hq
  cases rx
  obtain ⟨mA, J, _⟩ := ins_get I.hok ha
  obtain ⟨od, J, _⟩ := J.look
  obtain ⟨Pt, Z, hP, _⟩ := kit_of I ry ty
  obtain ⟨m, hF⟩ := I.fr
  show wpAny (model X.prog X.w) X.A (richCompare .Eq (.ref a) u) (EP X pins σ Q) X.xe s
  refine PySem.W.cmp_K (op := .Eq) (tb := t) hr.units0 hF I.ok.mod.kin J (Z.ty _ _ I.kIn hP) hn hs hf ?_
  have hl := F.len _ _ _ _ hsp
  have r2 : Vals [V.ref a, y] [Value.ref a, u] := .cons rfl (.cons ry .nil)
  refine wpAny_call (codeAny_mono (F.run X.A X.stack s H ⟨[.ref a, u], []⟩ [.ref a, u] [.ref a, y] _ E hr I.env0 (by
    have := hb s [.ref a, u] I.kIn (by simpa using hl)
    simpa using this) r2 hsp) fun r s' hq => ?_)
  cases r with
  | error e => exact hx pins σ H s e s' I hq
  | ok fl =>
    cases fl with
    | ret w =>
      obtain ⟨z, H', I', rz, ⟨b, ez⟩, q⟩ := I.after hq
      subst ez
      cases rz
      exact ⟨.bl b, H', I', rfl, q⟩
    | next => exact False.elim hq
    | brk => exact False.elim hq
    | cont => exact False.elim hq
theorem kit_cls' {K : PySem.W.Frag} {C : Addr} {t : Value} (hd : PySem.W.hasDictIn K C = true) (ht : PySem.W.typeIn K (.ref C) = some (.type "type")) (hs : PySem.W.subIn K t (.ref C) = some false) (hn : (t == Value.ref C) = false) : PySem.W.kitOne K t (.ref C) = some false ∧ PySem.W.notFirst K C t = true := by
  obtain ⟨cd, hc, _⟩ := PySem.W.any_some hd
  refine ⟨?_, ?_⟩
  · unfold PySem.W.kitOne PySem.W.kitCls
    rw [hn, if_neg (by decide)]
    show (if ((PySem.W.clsIn K C).isSome && PySem.W.typeIn K (.ref C) == some (.type "type")) = true then PySem.W.subIn K t (.ref C) else none) = _
    rw [hc, ht, if_pos (by simp), hs]
  · unfold PySem.W.notFirst
    rw [hs, hn]
    simp
theorem kit_ty {K : PySem.W.Frag} {C : Addr} {T : String} (hd : PySem.W.hasDictIn K C = true) (ht : PySem.W.typeIn K (.ref C) = some (.type "type")) (hs : PySem.W.subIn K (.type T) (.ref C) = some false) : PySem.W.kitOne K (.type T) (.ref C) = some false ∧ PySem.W.notFirst K C (.type T) = true := kit_cls' hd ht hs rfl
theorem kit_self {K : PySem.W.Frag} {C : Addr} : PySem.W.kitOne K (.ref C) (.ref C) = some true ∧ PySem.W.notFirst K C (.ref C) = true := by
  refine ⟨?_, ?_⟩
  · unfold PySem.W.kitOne
    rw [if_pos (by simp)]
  · unfold PySem.W.notFirst
    simp
theorem kit_ref {K : PySem.W.Frag} {C D : Addr} (hd : PySem.W.hasDictIn K C = true) (ht : PySem.W.typeIn K (.ref C) = some (.type "type")) (hz : PySem.W.subIn K (.ref C) (.ref C) = some true) (hs : PySem.W.subIn K (.ref D) (.ref C) = some false) : PySem.W.kitOne K (.ref D) (.ref C) = some false ∧ PySem.W.notFirst K C (.ref D) = true :=
  kit_cls' hd ht hs (by
    cases h : (Value.ref D == Value.ref C) with
    | false => rfl
    | true =>
      have e := eq_of_beq h
      injection e with e
      subst e
      rw [hz] at hs
      cases hs)

set_option genInjectivity false
set_option genSizeOf false
/-- what the top has left -/
structure TX (K : PySem.W.Frag) (mg : Str → Option Value) where
  a_Comments_init : Addr
  d_Comments_init : FuncData
  F_Comments_init : Fun K "__init__" "Comments.__init__" s_Comments_init a_Comments_init d_Comments_init
  b_Comments_init : Binds K d_Comments_init ["self", "vendor", "entries"] []
  a_Comments_values_of : Addr
  d_Comments_values_of : FuncData
  F_Comments_values_of : Fun K "values_of" "Comments.values_of" s_Comments_values_of a_Comments_values_of d_Comments_values_of
  b_Comments_values_of : Binds K d_Comments_values_of ["self", "name"] []
  a_Comments_with_values : Addr
  d_Comments_with_values : FuncData
  F_Comments_with_values : Fun K "with_values" "Comments.with_values" s_Comments_with_values a_Comments_with_values d_Comments_with_values
  b_Comments_with_values : Binds K d_Comments_with_values ["self", "name", "values"] []
  a_match : Addr
  d_match : FuncData
  F_match : Fun K "_match" "_match" s_match a_match d_match
  b_match : Binds K d_match ["name", "other"] []
  g_match : mg "_match" = some (.ref a_match)
  a_upper_case : Addr
  d_upper_case : FuncData
  F_upper_case : Fun K "_upper_case" "_upper_case" s_upper_case a_upper_case d_upper_case
  b_upper_case : Binds K d_upper_case ["name"] []
  g_upper_case : mg "_upper_case" = some (.ref a_upper_case)
  a_law_refill : Addr
  d_law_refill : FuncData
  F_law_refill : Fun K "_law_refill" "_law_refill" s_law_refill a_law_refill d_law_refill
  b_law_refill : Binds K d_law_refill ["script", "k"] []
  g_law_refill : mg "_law_refill" = some (.ref a_law_refill)
  a_law_draw : Addr
  d_law_draw : FuncData
  F_law_draw : Fun K "_law_draw" "_law_draw" s_law_draw a_law_draw d_law_draw
  b_law_draw : Binds K d_law_draw ["state", "script", "size"] []
  g_law_draw : mg "_law_draw" = some (.ref a_law_draw)
  a_law_text : Addr
  d_law_text : FuncData
  F_law_text : Fun K "_law_text" "_law_text" s_law_text a_law_text d_law_text
  b_law_text : Binds K d_law_text ["state", "script", "most"] []
  g_law_text : mg "_law_text" = some (.ref a_law_text)
  a_law_name : Addr
  d_law_name : FuncData
  F_law_name : Fun K "_law_name" "_law_name" s_law_name a_law_name d_law_name
  b_law_name : Binds K d_law_name ["state", "script"] []
  g_law_name : mg "_law_name" = some (.ref a_law_name)
  a_law_entries : Addr
  d_law_entries : FuncData
  F_law_entries : Fun K "_law_entries" "_law_entries" s_law_entries a_law_entries d_law_entries
  b_law_entries : Binds K d_law_entries ["state", "script", "most"] []
  g_law_entries : mg "_law_entries" = some (.ref a_law_entries)
  a_law_upper : Addr
  d_law_upper : FuncData
  F_law_upper : Fun K "_law_upper" "_law_upper" s_law_upper a_law_upper d_law_upper
  b_law_upper : Binds K d_law_upper ["name"] []
  g_law_upper : mg "_law_upper" = some (.ref a_law_upper)
  a_law_turned : Addr
  d_law_turned : FuncData
  F_law_turned : Fun K "_law_turned" "_law_turned" s_law_turned a_law_turned d_law_turned
  b_law_turned : Binds K d_law_turned ["state", "script", "name"] []
  g_law_turned : mg "_law_turned" = some (.ref a_law_turned)
  a_law_changed : Addr
  d_law_changed : FuncData
  F_law_changed : Fun K "_law_changed" "_law_changed" s_law_changed a_law_changed d_law_changed
  b_law_changed : Binds K d_law_changed ["entries", "name", "texts"] []
  g_law_changed : mg "_law_changed" = some (.ref a_law_changed)
  a_law : Addr
  d_law : FuncData
  F_law : Fun K "law" "law" s_law a_law d_law
  b_law : Binds K d_law ["script"] []
  g_law : mg "law" = some (.ref a_law)
  C_Comments : Addr
  cl_Comments : Cls K C_Comments
  g_Comments : mg "Comments" = some (.ref C_Comments)
  M_Comments : Mk K C_Comments a_Comments_init
  me_Comments_values_of : Meth K C_Comments "values_of" a_Comments_values_of
  me_Comments_with_values : Meth K C_Comments "with_values" a_Comments_with_values
  n_Comments_vendor : NoAttr K C_Comments "vendor"
  n_Comments_entries : NoAttr K C_Comments "entries"
  m_list : mg "list" = none
  m_len : mg "len" = none
  m_int : mg "int" = none
  m_range : mg "range" = none
  m_isinstance : mg "isinstance" = none
section
variable {P : Program} {w : World} {K : PySem.W.Frag} {mg : Str → Option Value} {base : Heap}
/-! ### int(x), bits of a number -/
theorem Ev.is {σ : L2.St} {H : Hp} {te : TE} {x y : V} (h : Ev te σ H x) (e : x = y) : Ev te σ H y := e ▸ h
theorem ev_int1 {σ : L2.St} {H : Hp} {te : TE} {i : Int} (h : Ev te σ H (.int i)) : Ev (tCB (fun xs H Q => (∃ i, xs = [V.int i] ∧ Q (V.int i) H) ∨ ∃ k, xs = [V.bl k] ∧ Q (V.int (if k = true then 1 else 0)) H) (tCons te tNil)) σ H (.int i) :=
  ev_cb (ea_cons h ea_nil) fun H1 _ Q q => .inl ⟨i, rfl, q H1 (Ex.refl H1)⟩
theorem q_augR {σ : L2.St} {H : Hp} {te : TE} {D : Ends} {tz : TS} {i : Nat} {g : Int → Int → V} {a b : Int} (h1 : σ[i]? = some (some (.int a))) (h : Ev te σ H (.int b)) (k : ∀ H1, Ex H H1 → tz D (σ.set i (some (g a b))) H1) : tSeq (tAug i te (rI0 g)) tz D σ H :=
  ⟨_, h1, h H (Ex.refl H) _ fun H1 e => ⟨a, b, rfl, rfl, k H1 e⟩⟩
theorem s_augR {σ : L2.St} {H : Hp} {te : TE} {D : Ends} {i : Nat} {g : Int → Int → V} {a b : Int} (h1 : σ[i]? = some (some (.int a))) (h : Ev te σ H (.int b)) (k : ∀ H1, Ex H H1 → D.nx (σ.set i (some (g a b))) H1) : tAug i te (rI0 g) D σ H :=
  ⟨_, h1, h H (Ex.refl H) _ fun H1 e => ⟨a, b, rfl, rfl, k H1 e⟩⟩
theorem ev_atT {K : PySem.W.Frag} {σ : L2.St} {H : Hp} {tl ti : TE} {t : Addr} {xs : List V} {n : Int} {v : V} (h : Ev tl σ H (.ref t)) (hT : SqT K H t xs) (hi : Ev ti σ H (.int n)) (ha : atI xs n = some v) : Ev (tOp (rIxT K) tl ti) σ H v := fun H1 e Q q =>
  h H1 e _ fun H2 e2 => hi H2 (e.trans e2) _ fun H3 e3 => ⟨t, xs, n, v, rfl, rfl, ex_t ((e.trans e2).trans e3) hT, ha, q H3 (e2.trans e3)⟩
local macro_rules | `(tactic| walk_at "side") => `(tactic| first
  | omega
  | (show CDivW _ _; exact ⟨by omega, by decide⟩)
  | (show CDivW _ _; exact wide_div (b := 80) (by omega) (by omega) (by decide) (by decide)))
local macro_rules | `(tactic| walk_at "evown") => `(tactic| (refine' ev_int1 ?h1; (case h1 => walk_at "ev")))
/-- numbers from 0 on, as such -/
def cs (ds : List Nat) : List Int := ds.map fun d : Nat => (d : Int)
theorem cs_of {ns : List Int} {b : Int} (h : ∀ n ∈ ns, 0 ≤ n ∧ n < b) : ∃ ds : List Nat, ns = cs ds ∧ ds.length = ns.length ∧ ∀ d ∈ ds, (d : Int) < b := by
  refine ⟨ns.map Int.toNat, ?_, List.length_map .., fun d hd => ?_⟩
  · unfold cs
    rw [List.map_map]
    conv => lhs; rw [← List.map_id ns]
    refine List.map_congr_left fun n hn => ?_
    have := (h n hn).1
    show n = ((n.toNat : Nat) : Int)
    omega
  · obtain ⟨n, hn, rfl⟩ := List.mem_map.mp hd
    have := h n hn
    omega
theorem cs_len (ds : List Nat) : (cs ds).length = ds.length := List.length_map ..
theorem cs_at {ds : List Nat} {i : Nat} {d : Nat} (h : ds[i]? = some d) : (cs ds)[i]? = some (d : Int) := by unfold cs; rw [List.getElem?_map, h]; rfl
theorem cs_take (ds : List Nat) (i : Nat) : (cs ds).take i = cs (ds.take i) := by unfold cs; rw [List.map_take]
theorem cs_drop (ds : List Nat) (i : Nat) : (cs ds).drop i = cs (ds.drop i) := by unfold cs; rw [List.map_drop]
theorem cs_append (ds es : List Nat) : cs (ds ++ es) = cs ds ++ cs es := List.map_append ..

theorem ev_all {σ : L2.St} {H : Hp} {te : TE} {bs : List Bool} {b : Bool} (h : EvS K te σ H (bs.map V.bl)) (hb : bs.all id = b) : Ev (tCB (rAll K) (tCons te tNil)) σ H (.bl b) := fun H1 e Q q => h H1 e _ fun p H2 e2 hp => ⟨p, bs, rfl, hp, by rw [hb]; exact q H2 e2⟩

/-! ### from what is evaluated to what follows -/
theorem ev_go {te : TE} {σ : L2.St} {H : Hp} {v : V} {Q : VK} (h : Ev te σ H v) (k : ∀ H2, Ex H H2 → Q v H2) : te σ H Q := h H (Ex.refl H) Q k
theorem et_go {t : TT} {σ : L2.St} {H : Hp} {b : Bool} {Q : Bool → Hp → Prop} (h : EvT t σ H b) (k : ∀ H2, Ex H H2 → Q b H2) : t σ H Q := h H (Ex.refl H) Q k
theorem el_go {te : TE} {σ : L2.St} {H : Hp} {xs : List V} {Q : VK} (h : EvL te σ H xs) (k : ∀ p H2, H p = none → Ex H H2 → H2 p = some (.lst xs) → Q (.ref p) H2) : te σ H Q := h H (Ex.refl H) Q k
theorem eu_go {te : TE} {σ : L2.St} {H : Hp} {xs : List V} {Q : VK} (h : EvU te σ H xs) (k : ∀ p H2, H p = none → Ex H H2 → H2 p = some (.tup xs) → Q (.ref p) H2) : te σ H Q := h H (Ex.refl H) Q k
theorem ea_go {t : TA} {σ : L2.St} {H : Hp} {vs : List V} {Q : List V → Hp → Prop} (h : EvA t σ H vs) (k : ∀ H2, Ex H H2 → Q vs H2) : t σ H Q := h H (Ex.refl H) Q k
/-! ### the law's state, a list of two numbers, which draws change -/
theorem et_tru {σ : L2.St} {H : Hp} {te : TE} {a : Addr} {xs : List V} (h : Ev te σ H (.ref a)) (hs : SqL K H a xs) : EvT (fun σ H Q => te σ H fun x H' => ∃ k, TruV K x H' k ∧ Q k H') σ H (!xs.isEmpty) := fun H1 e Q q => h H1 e _ fun H2 e2 => ⟨_, .inl ⟨xs, ex_l (e.trans e2) hs, rfl⟩, q H2 e2⟩
def StAt (H : Hp) (s : Addr) : Prop := ∃ k c : Int, H s = some (.lst [.int k, .int c])
def Fr (s : Addr) (H H' : Hp) : Prop := (∀ b o, b ≠ s → H b = some o → H' b = some o) ∧ StAt H' s
theorem Fr.refl {s : Addr} {H : Hp} (st : StAt H s) : Fr s H H := ⟨fun _ _ _ h => h, st⟩
theorem Fr.ex {s : Addr} {H H' : Hp} (st : StAt H s) (e : Ex H H') : Fr s H H' := ⟨fun b o _ h => e b o h, by obtain ⟨k, c, h⟩ := st; exact ⟨k, c, e _ _ h⟩⟩
theorem Fr.trans {s : Addr} {H H1 H2 : Hp} (h : Fr s H H1) (g : Fr s H1 H2) : Fr s H H2 := ⟨fun b o n e => g.1 b o n (h.1 b o n e), g.2⟩
theorem Fr.tex {s : Addr} {H H1 H2 : Hp} (h : Fr s H H1) (e : Ex H1 H2) : Fr s H H2 := h.trans (Fr.ex h.2 e)
theorem Fr.fresh {s p : Addr} {H H' : Hp} (h : Fr s H H') (hp : H' p = none) : H p = none := by
  have hs : p ≠ s := by
    rintro rfl
    obtain ⟨k, c, g⟩ := h.2
    rw [g] at hp
    cases hp
  cases e : H p with
  | none => rfl
  | some o =>
    have := h.1 p o hs e
    rw [this] at hp
    cases hp
theorem ne_st {s p : Addr} {H : Hp} (st : StAt H s) (hp : H p = none) : p ≠ s := by
  rintro rfl
  obtain ⟨k, c, g⟩ := st
  rw [g] at hp
  cases hp
theorem Fr.mut {s p : Addr} {H H1 : Hp} {o : HO} (h : Fr s H H1) (hp : H p = none) (hs : p ≠ s) : Fr s H (upd H1 p o) := ⟨fun b u n e => by rw [upd_ne (ne_of_none e hp)]; exact h.1 b u n e, by obtain ⟨k, c, g⟩ := h.2; exact ⟨k, c, by rw [upd_ne (Ne.symm hs)]; exact g⟩⟩
theorem Fr.l {s a : Addr} {H H' : Hp} {xs : List V} (h : Fr s H H') (hs : a ≠ s) (q : H a = some (.lst xs)) : H' a = some (.lst xs) := h.1 a _ hs q
/-- a list, seen through all draws -/
def Scr (K : PySem.W.Frag) (s a : Addr) (H : Hp) (xs : List V) : Prop := ∀ H', Fr s H H' → SqL K H' a xs
theorem scr_mk {s a : Addr} {H H1 : Hp} {xs : List V} (hs : H s = none) (e : Ex H H1) (q : SqL K H a xs) : Scr K s a H1 xs := fun H' fr => by
  rcases q with q | q
  · rcases q with q | ⟨o, q⟩
    · exact .inl (.inl (fr.1 _ _ (ne_of_none q hs) (e _ _ q)))
    · exact .inl (.inr ⟨o, fr.1 _ _ (ne_of_none q hs) (e _ _ q)⟩)
  · exact .inr q
def DrS (K : PySem.W.Frag) (H : Hp) (s a : Addr) (ns : List Int) : Prop := StAt H s ∧ Scr K s a H (ns.map V.int)
theorem DrS.fr {H H' : Hp} {s a : Addr} {ns : List Int} (h : DrS K H s a ns) (f : Fr s H H') : DrS K H' s a ns := ⟨f.2, fun H2 g => h.2 H2 (f.trans g)⟩
theorem DrS.ex {H H' : Hp} {s a : Addr} {ns : List Int} (h : DrS K H s a ns) (e : Ex H H') : DrS K H' s a ns := h.fr (Fr.ex h.1 e)
theorem DrS.sq {H : Hp} {s a : Addr} {ns : List Int} (h : DrS K H s a ns) : SqL K H a (ns.map V.int) := h.2 H (Fr.refl h.1)
/-! numbers, tests that draw on the way -/
def EvI (s : Addr) (te : TE) (σ : L2.St) (H : Hp) (p : Int → Prop) : Prop := ∀ Q : VK, (∀ i H2, Fr s H H2 → p i → Q (.int i) H2) → te σ H Q
def EvTW (s : Addr) (t : TT) (σ : L2.St) (H : Hp) (p : Bool → Prop) : Prop := ∀ Q : Bool → Hp → Prop, (∀ b H2, Fr s H H2 → p b → Q b H2) → t σ H Q
section
variable {s : Addr} {σ : L2.St} {H : Hp} {ta tb te : TE} {p q : Int → Prop}
theorem wi_ev {i : Int} (st : StAt H s) (h : Ev te σ H (.int i)) : EvI s te σ H (fun z => z = i) := fun Q q => h H (Ex.refl H) _ fun H2 e2 => q i H2 (Fr.ex st e2) rfl
theorem wi_imp {p q : Int → Prop} (h : EvI s te σ H p) (hi : ∀ z, p z → q z) : EvI s te σ H q := fun Q k => h Q fun i H2 f hp => k i H2 f (hi i hp)
theorem wi_op {g : Int → Int → Int} (ha : EvI s ta σ H p) (hb : ∀ H1, Fr s H H1 → EvI s tb σ H1 q) : EvI s (tOp (rI0 fun i j => .int (g i j)) ta tb) σ H (fun z => ∃ i j, p i ∧ q j ∧ z = g i j) := fun Q k =>
  ha _ fun i H1 f1 hp => hb H1 f1 _ fun j H2 f2 hq => ⟨i, j, rfl, rfl, k _ H2 (f1.trans f2) ⟨i, j, hp, hq, rfl⟩⟩
theorem wi_opC {C : Int → Int → Prop} {g : Int → Int → Int} (ha : EvI s ta σ H p) (hb : ∀ H1, Fr s H H1 → EvI s tb σ H1 q) (hc : ∀ i j, p i → q j → C i j) : EvI s (tOp (rI C fun i j => .int (g i j)) ta tb) σ H (fun z => ∃ i j, p i ∧ q j ∧ z = g i j) := fun Q k =>
  ha _ fun i H1 f1 hp => hb H1 f1 _ fun j H2 f2 hq => ⟨i, j, rfl, rfl, hc i j hp hq, k _ H2 (f1.trans f2) ⟨i, j, hp, hq, rfl⟩⟩
theorem wt_cmp {g : Int → Int → Bool} (ha : EvI s ta σ H p) (hb : ∀ H1, Fr s H H1 → EvI s tb σ H1 q) : EvTW s (tTest (tOp (rI0 fun i j => .bl (g i j)) ta tb)) σ H (fun b => ∃ i j, p i ∧ q j ∧ b = g i j) := fun Q k =>
  ha _ fun i H1 f1 hp => hb H1 f1 _ fun j H2 f2 hq => ⟨i, j, rfl, rfl, g i j, rfl, k _ H2 (f1.trans f2) ⟨i, j, hp, hq, rfl⟩⟩
theorem wt_eq (ha : EvI s ta σ H p) (hb : ∀ H1, Fr s H H1 → EvI s tb σ H1 q) : EvTW s (tTest (tOp rEq ta tb)) σ H (fun b => ∃ i j, p i ∧ q j ∧ b = decide (i = j)) := fun Q k =>
  ha _ fun i H1 f1 hp => hb H1 f1 _ fun j H2 f2 hq => ⟨rfl, decide (V.int i = V.int j), rfl, k _ H2 (f1.trans f2) ⟨i, j, hp, hq, by simp⟩⟩
theorem wt_ev {t : TT} {b : Bool} (st : StAt H s) (h : EvT t σ H b) : EvTW s t σ H (fun z => z = b) := fun Q q => h H (Ex.refl H) _ fun H2 e2 => q b H2 (Fr.ex st e2) rfl
theorem wt_and {t u : TT} {p q : Bool → Prop} (h1 : EvTW s t σ H p) (h2 : ∀ H1, Fr s H H1 → p true → EvTW s u σ H1 q) : EvTW s (tAnd t u) σ H (fun b => (p false ∧ b = false) ∨ (p true ∧ q b)) := fun Q k => h1 _ fun b H1 f1 hb => by
  cases b with
  | true => exact h2 H1 f1 hb _ fun c H2 f2 hc => k c H2 (f1.trans f2) (.inr ⟨hb, hc⟩)
  | false => exact k false H1 f1 (.inl ⟨hb, rfl⟩)
theorem wt_not {t : TT} {p : Bool → Prop} (h1 : EvTW s t σ H p) : EvTW s (tNot t) σ H (fun b => p (!b)) := fun Q k => h1 _ fun b H1 f1 hb => k (!b) H1 f1 (by show p (!!b); rw [Bool.not_not]; exact hb)
variable {D : Ends} {tz tu : TS}
theorem qw_asg {j : Nat} (h : EvI s te σ H p) (k : ∀ i H1, Fr s H H1 → p i → tz D (σ.set j (some (.int i))) H1) : tSeq (tAsg te (gName j)) tz D σ H := h _ k
theorem sw_asg {j : Nat} (h : EvI s te σ H p) (k : ∀ i H1, Fr s H H1 → p i → D.nx (σ.set j (some (.int i))) H1) : tAsg te (gName j) D σ H := h _ k
theorem sw_ret (h : EvI s te σ H p) (k : ∀ i H1, Fr s H H1 → p i → D.rt (.int i) H1) : tRet te D σ H := h _ k
theorem qw_when {t : TT} {p : Bool → Prop} (h : EvTW s t σ H p) (h1 : p true → ∀ H1, Fr s H H1 → tu { D with nx := tz D } σ H1) (h2 : p false → ∀ H1, Fr s H H1 → tz D σ H1) : tSeq (tIfS t tu tNext) tz D σ H := h _ fun b H1 f hb => by
  cases b with
  | true => exact h1 hb H1 f
  | false => exact h2 hb H1 f
theorem sw_when {t : TT} {p : Bool → Prop} (h : EvTW s t σ H p) (h1 : p true → ∀ H1, Fr s H H1 → tu D σ H1) (h2 : p false → ∀ H1, Fr s H H1 → D.nx σ H1) : tIfS t tu tNext D σ H := h _ fun b H1 f hb => by
  cases b with
  | true => exact h1 hb H1 f
  | false => exact h2 hb H1 f
theorem sw_if {t : TT} {tw : TS} {p : Bool → Prop} (h : EvTW s t σ H p) (h1 : p true → ∀ H1, Fr s H H1 → tu D σ H1) (h2 : p false → ∀ H1, Fr s H H1 → tw D σ H1) : tIfS t tu tw D σ H := h _ fun b H1 f hb => by
  cases b with
  | true => exact h1 hb H1 f
  | false => exact h2 hb H1 f
theorem qw_forR1 {j : Nat} (h : EvI s te σ H p) (hp : ∀ i, p i → 0 ≤ i ∧ i ≤ 100000) (Pv : Int → Nat → L2.St → Hp → Prop) (h0 : ∀ n H1, p n → Fr s H H1 → Pv n 0 σ H1)
    (hs : ∀ n (i : Nat) σ' H', p n → (i : Int) < n → Pv n i σ' H' → tu { D with nx := Pv n (i + 1), ct := Pv n (i + 1), bk := tz D } (σ'.set j (some (.int (i : Int)))) H') (hd : ∀ n σ' H', p n → Pv n n.toNat σ' H' → tz D σ' H') : tSeq (tFor (iRng1 (tCons te tNil)) (gName j) tu) tz D σ H :=
  h _ fun n H1 f hn => ⟨n, rfl, by have := hp n hn; omega, by have := hp n hn; omega, for_range (D := { D with nx := tz D }) (lo := 0) (n := n.toNat) (Pv n) (h0 n H1 hn f) (fun i σ' H' hi q => by
    have e0 : (0 : Int) + (i : Int) = (i : Int) := Int.zero_add _
    show tu { D with nx := Pv n (i + 1), ct := Pv n (i + 1), bk := tz D } (σ'.set j (some (.int ((0 : Int) + (i : Int))))) H'
    rw [e0]
    exact hs n i σ' H' hn (by have := hp n hn; omega) q) fun σ' H' q => hd n σ' H' hn q⟩
end
/-- [e for j in range(n)] whose element draws -/
theorem tlc_rngW {ta : TA} {te : TE} {vs : List Nat} {n : Int} {j : Nat} {σ : L2.St} {H : Hp} {Q : VK} (h : EvA ta σ H [.int n]) (hn : -100000 ≤ n ∧ n ≤ 100000)
    (k : ∀ H1, Ex H H1 → ∀ Dl, H1 Dl = none → ∃ Pv : Nat → Hp → Prop, Pv 0 (upd H1 Dl (.lst [])) ∧ (∀ (i : Nat) H', i < n.toNat → Pv i H' → wipe ((wipe σ vs).set j (some (.int (i : Int)))) vs = wipe σ vs ∧ te ((wipe σ vs).set j (some (.int (i : Int)))) H' fun y H4 => ∃ acc, H4 Dl = some (.lst acc) ∧ acc.length < sizeLine ∧ Pv (i + 1) (upd H4 Dl (.lst (acc ++ [y])))) ∧ (∀ H', Pv n.toNat H' → Q (.ref Dl) H')) :
    tLc (iRng1 ta) (gName j) tYes te vs σ H Q := h H (Ex.refl H) _ fun H1 e1 => ⟨n, rfl, by omega, by omega, fun Dl hD => by
  obtain ⟨Pv, h0, hs, hd⟩ := k H1 e1 Dl hD
  refine lc_range (lo := 0) (n := n.toNat) Pv h0 (fun i H' hi p => ?_) hd
  rw [Int.zero_add]
  exact hs i H' hi p⟩
/-- xs[j] = e, e of a kind -/
theorem q_setLR {σ : L2.St} {H : Hp} {te ta tb : TE} {l : Addr} {xs : List V} {j : Nat} {D : Ends} {tz : TS} {P : V → Prop} (h : ∀ Q : VK, (∀ v H1, Ex H H1 → P v → Q v H1) → te σ H Q) (hl : H l = some (.lst xs)) (ho : ∀ H1, Ev ta σ H1 (.ref l)) (hi : ∀ H1, Ev tb σ H1 (.int (j : Int))) (hj : j < xs.length) (k : ∀ v H1, P v → Ex H H1 → tz D σ (upd H1 l (.lst (xs.set j v)))) : tSeq (tAsg te (gSub ta tb rSetL)) tz D σ H :=
  h _ fun v H1 e1 hv => ho H1 H1 (Ex.refl _) _ fun H2 e2 => hi H2 H2 (Ex.refl _) _ fun H3 e3 => ⟨l, xs, (j : Int), j, rfl, rfl, ((e1.trans e2).trans e3) l _ hl, ixN_nat hj, k v H3 hv ((e1.trans e2).trans e3)⟩
/-! ### the law's draws -/
def sp_refill (K : PySem.W.Frag) : Sp := fun vs H Q _ => ∃ (a : Addr) (ns : List Int) (k : Int), vs = [.ref a, .int k] ∧ SqL K H a (ns.map V.int) ∧ ∀ c : Int, RetV (.int c) H Q
theorem ok_law_refill (T : TX K mg) : FnOk P w K mg base CX0 1 T.a_law_refill T.d_law_refill ["script", "k"] (sp_refill K) := by
  refine T.F_law_refill.ok sc_law_refill (fun vs H Q E h => by obtain ⟨a, ns, k, rfl, _⟩ := h; rfl) (fun cdv A outer s0 H vs Q E hr h => ?_)
  obtain ⟨a, ns, k, rfl, hS, q⟩ := h
  refine ⟨_, (pss_cons (ps_set (i := 2) sc_law_refill.nd rfl (Or.inl rfl) pe_int)
      (pss_cons (ps_if (pt_truth (pv 0) (by intro _; rfl)) (pss_one (ps_set (i := 2) sc_law_refill.nd rfl (Or.inl rfl) (pe_ix (r := rIxL K) ix_list (pv 0) (pe_op op_mod (pv 1) (pe_callB (r := rLenS K) call_len_seq (by rfl) T.m_len PySem.boot_len (pa_cons (pv 0) pa_nil))) (fun _ _ => rfl)))) pss_nil)
      (pss_cons (ps_if (pt_cmpR op_lt (pv 2) pe_int (nomark _)) (pss_one (ps_set (i := 2) sc_law_refill.nd rfl (Or.inl rfl) (pe_op op_sub pe_int (pe_op op_mul pe_int (pv 2))))) pss_nil)
      (pss_cons (ps_if (PW.pt (pw_and (pt_cmpR op_ge (pv 2) (pe_op op_pow pe_int pe_int) (nomark _)) (pw_and1 (pt_cmpR op_lt (pv 1) (pe_callB (r := rLenS K) call_len_seq (by rfl) T.m_len PySem.boot_len (pa_cons (pv 0) pa_nil)) (nomark _))))) (pss_one (ps_ret (pv 2))) pss_nil)
      (pss_one (ps_ret (pe_op op_mod (pe_callTy call_int1 (by rfl) T.m_int PyProof.Rows.boot_int (pa_cons (pe_op op_add (pe_op op_mul (pe_callTy call_int1 (by rfl) T.m_int PyProof.Rows.boot_int (pa_cons (pe_op op_add (pe_op op_add (pe_op op_mul (pv 2) pe_int) (pe_op op_mul (pv 1) pe_int)) pe_int) pa_nil)) pe_int) pe_int) pa_nil)) pe_int))))))), ?_⟩
  refine q_asg ev_c fun H1 e1 => ?_
  have hl : (ns.map V.int).length = ns.length := List.length_map ..
  have rest : ∀ (c : Int) (H2 : Hp), Ex H H2 → tSeq (tIfS (tTest (tOp (rI0 fun i j => .bl (decide (i < j))) (tVar 2) (tC (.int 0)))) (tAsg (tOp (rI0 fun i j => .int (i - j)) (tC (.int 1)) (tOp (rI CMul fun i j => .int (i * j)) (tC (.int 2)) (tVar 2))) (gName 2)) tNext) (tSeq (tIfS (tAnd (tTest (tOp (rI0 fun i j => .bl (decide (j ≤ i))) (tVar 2) (tOp (rI CPow fun i j => .int (i ^ j.toNat)) (tC (.int 10)) (tC (.int 18))))) (tTest (tOp (rI0 fun i j => .bl (decide (i < j))) (tVar 1) (tCB (rLenS K) (tCons (tVar 0) tNil))))) (tRet (tVar 2)) tNext) (tRet (tOp (rI (fun _ j => 0 < j) fun i j => .int (i % j)) (tCB (fun xs H Q => (∃ i, xs = [V.int i] ∧ Q (V.int i) H) ∨ ∃ k, xs = [V.bl k] ∧ Q (V.int (if k = true then 1 else 0)) H) (tCons (tOp (rI0 fun i j => .int (i + j)) (tOp (rI CMul fun i j => .int (i * j)) (tCB (fun xs H Q => (∃ i, xs = [V.int i] ∧ Q (V.int i) H) ∨ ∃ k, xs = [V.bl k] ∧ Q (V.int (if k = true then 1 else 0)) H) (tCons (tOp (rI0 fun i j => .int (i + j)) (tOp (rI0 fun i j => .int (i + j)) (tOp (rI CMul fun i j => .int (i * j)) (tVar 2) (tC (.int 48271))) (tOp (rI CMul fun i j => .int (i * j)) (tVar 1) (tC (.int 69621)))) (tC (.int 12345))) tNil)) (tC (.int 40692))) (tC (.int 7))) tNil)) (tC (.int 2147483399))))) { nx := fun _ H' => Q .non H', rt := Q } [some (.ref a), some (.int k), some (.int c)] H2 := fun c H2 e2 => by
    obtain ⟨c1, hc1⟩ : ∃ c1 : Int, (if c < 0 then 1 - 2 * c else c) = c1 := ⟨_, rfl⟩
    refine q_ifAsg (b := decide (c < 0)) (v := .int c1) (et_test (ev_I0 (ev_var rfl) ev_c)) (fun h => Ev.is (ev_I0 ev_c (ev_I ev_c (ev_var rfl) (.inl (by decide)))) (congrArg V.int (by rw [← hc1, if_pos (of_decide_eq_true h)]))) (fun h => by rw [← hc1, if_neg (of_decide_eq_false h)]; rfl) fun H3 e3 => ?_
    refine q_when (et_and (et_test (ev_I0 (ev_var rfl) (ev_I ev_c ev_c ⟨by decide, by decide, by decide⟩))) fun _ => et_test (ev_I0 (ev_var rfl) (ev_lenS (Ev.s (ev_var rfl) (ex_l (e2.trans e3) hS))))) (fun _ H4 e4 => ?_) (fun _ H4 e4 => ?_)
    · exact s_ret (ev_var rfl) fun H5 e5 => (q _).go ((e2.trans e3).trans (e4.trans e5))
    · exact s_ret (ev_I (ev_int1 (ev_I0 (ev_I (ev_int1 (ev_I0 (ev_I0 (ev_I (ev_var rfl) ev_c (.inr (by decide))) (ev_I (ev_var rfl) ev_c (.inr (by decide)))) ev_c)) ev_c (.inr (by decide))) ev_c)) ev_c (by decide)) fun H5 e5 => (q _).go ((e2.trans e3).trans (e4.trans e5))
  refine q_when (et_tru (ev_var rfl) (ex_l e1 hS)) (fun hb H2 e2 => ?_) (fun _ H2 e2 => rest 0 H2 (e1.trans e2))
  have h0 : 0 < ns.length := by
    cases ns with
    | nil => cases hb
    | cons x r => rw [List.length_cons]; omega
  have h1 := Int.emod_nonneg k (show (ns.length : Int) ≠ 0 by omega)
  have h2 := Int.emod_lt_of_pos k (show (0 : Int) < ns.length by omega)
  refine s_asg (v := .int (ns.getD (k % (ns.length : Int)).toNat 0)) (ev_ixS (i := 0) (n := k % (ns.length : Int)) (Ev.s (ev_var rfl) (ex_l (e1.trans e2) hS)) (ev_I (ev_var rfl) (Ev.is (ev_lenS (Ev.s (ev_var rfl) (ex_l (e1.trans e2) hS))) (by rw [hl])) (by omega)) (at_of (j := (k % (ns.length : Int)).toNat) (by omega) (at_int (gl_get (by omega))))) fun H3 e3 => rest _ H3 (e1.trans (e2.trans e3))
def sp_draw (K : PySem.W.Frag) : Sp := fun vs H Q _ => ∃ (s a : Addr) (ns : List Int) (n : Int), vs = [.ref s, .ref a, .int n] ∧ DrS K H s a ns ∧ 0 < n ∧ n ≤ 2 ^ 80 ∧ ∀ (d : Nat) H', (d : Int) < n → Fr s H H' → Q (.int (d : Int)) H'
theorem ok_law_draw (T : TX K mg) : FnOk P w K mg base CX0 2 T.a_law_draw T.d_law_draw ["state", "script", "size"] (sp_draw K) := by
  refine T.F_law_draw.ok sc_law_draw (fun vs H Q E h => by obtain ⟨s, a, ns, n, rfl, _⟩ := h; rfl) (fun cdv A outer s0 H vs Q E hr h => ?_)
  obtain ⟨s, a, ns, n, rfl, hd, hn0, hn, k⟩ := h
  have hn' : n ≤ 1208925819614629174706176 := hn
  have hlog : n.natAbs.log2 < 9000 := by
    have : n.natAbs < 2 ^ 81 := by omega
    have := (Nat.log2_lt (n := n.natAbs) (k := 81) (by omega)).mpr this
    omega
  refine ⟨_, (pss_cut (ps_if (pt_cmpR op_eq (pe_ix (r := rIxL K) ix_list (pv 0) pe_int (fun _ _ => rfl)) pe_int (nomark _)) (pss_cons (ps_asg (pe_call (ok_law_refill T) (hr.mono (by decide)) (by rfl) T.g_law_refill T.F_law_refill.kp T.b_law_refill .nil pass0 (pa_cons (pv 1) (pa_cons (pe_ix (r := rIxL K) ix_list (pv 0) pe_int (fun _ _ => rfl)) pa_nil))) (pg_sub (pv 0) pe_int set_list))
        (pss_one (ps_asg (pe_op op_add (pe_ix (r := rIxL K) ix_list (pv 0) pe_int (fun _ _ => rfl)) pe_int) (pg_sub (pv 0) pe_int set_list)))) pss_nil)
      (pss_cons (ps_set (i := 3) sc_law_draw.nd rfl (Or.inl rfl) (pe_op op_mod (pe_callTy call_int1 (by rfl) T.m_int PyProof.Rows.boot_int (pa_cons (pe_ix (r := rIxL K) ix_list (pv 0) pe_int (fun _ _ => rfl)) pa_nil)) (pv 2)))
      (pss_cons (ps_asg (pe_op op_fdivW (pe_ix (r := rIxL K) ix_list (pv 0) pe_int (fun _ _ => rfl)) (pv 2)) (pg_sub (pv 0) pe_int set_list))
      (pss_one (ps_ret (pv 3)))))), ?_⟩
  refine q_cut (M := fun σ' H' => ∃ kk cc : Int, σ' = [some (.ref s), some (.ref a), some (.int n), none] ∧ (∀ b o, b ≠ s → H b = some o → H' b = some o) ∧ H' s = some (.lst [.int kk, .int cc])) ?_ ?_
  · obtain ⟨kk, cc, g⟩ := hd.1
    refine s_when (et_test (ev_eq (ev_ixS (i := 0) (n := 1) (Ev.s (ev_var rfl) (sq_of g)) ev_c (at_of (j := 1) rfl rfl)) ev_c rfl)) (fun _ H1 e1 => ?_) (fun _ H1 e1 => ⟨kk, cc, rfl, fun b o _ h => e1 b o h, e1 _ _ g⟩)
    have g1 := e1 _ _ g
    refine q_setLR (l := s) (xs := [.int kk, .int cc]) (j := 1) (P := fun v => ∃ c : Int, v = .int c) (fun Q' q' => (ea_cons (ev_var rfl) (ea_cons (ev_ixS (K := K) (i := 0) (n := 0) (v := .int kk) (xs := [.int kk, .int cc]) (Ev.s (ev_var rfl) (sq_of g1)) ev_c (at_of (j := 0) rfl rfl)) ea_nil)) H1 (Ex.refl _) _ fun H2 e2 => ⟨a, ns, kk, rfl, (hd.ex (e1.trans e2)).sq, fun c H3 e3 => q' _ _ (e2.trans e3) ⟨c, rfl⟩⟩) g1 (fun _ => ev_var rfl) (fun _ => ev_c) (Nat.le_of_ble_eq_true rfl) fun v H2 hv e2 => ?_
    obtain ⟨c, rfl⟩ := hv
    have u2 : (upd H2 s (.lst [V.int kk, V.int c])) s = some (.lst [V.int kk, V.int c]) := upd_same
    refine s_setL (l := s) (j := 0) (v := .int (kk + 1)) u2 (ev_I0 (ev_ixS (i := 0) (n := 0) (Ev.s (ev_var rfl) (sq_of u2)) ev_c (at_of (j := 0) rfl rfl)) ev_c) (ev_var rfl) ev_c (Nat.le_of_ble_eq_true rfl) fun H3 e3 => ⟨kk + 1, c, rfl, fun b o hb h => ?_, upd_same⟩
    rw [upd_ne hb]
    exact e3 _ _ (by rw [upd_ne hb]; exact e2 _ _ (e1 _ _ h))
  · rintro σ' H1 ⟨kk, cc, rfl, fr, g⟩
    have h0 := Int.emod_nonneg cc (show n ≠ 0 by omega)
    have h1 := Int.emod_lt_of_pos cc hn0
    obtain ⟨d, hd'⟩ : ∃ d : Nat, cc % n = (d : Int) := ⟨(cc % n).toNat, by omega⟩
    refine q_asg (v := .int (d : Int)) (Ev.is (ev_I (ev_int1 (ev_ixS (i := 0) (n := 1) (Ev.s (ev_var rfl) (sq_of g)) ev_c (at_of (j := 1) rfl rfl))) (ev_var rfl) hn0) (congrArg V.int hd')) fun H2 e2 => ?_
    refine q_setL (l := s) (j := 1) (v := .int (cc / n)) (e2 _ _ g) (ev_I (ev_ixS (i := 0) (n := 1) (Ev.s (ev_var rfl) (sq_of (e2 _ _ g))) ev_c (at_of (j := 1) rfl rfl)) (ev_var rfl) ⟨hn0, hlog⟩) (ev_var rfl) ev_c (Nat.le_of_ble_eq_true rfl) fun H3 e3 => ?_
    refine s_ret (v := .int (d : Int)) (ev_var rfl) fun H4 e4 => k d H4 (by omega) ⟨fun b o hb h => e4 _ _ (by rw [upd_ne hb]; exact e3 _ _ (e2 _ _ (fr b o hb h))), ⟨kk, cc / n, e4 _ _ upd_same⟩⟩
theorem wi_draw {s a : Addr} {ns : List Int} {σ : L2.St} {H : Hp} {tn : TE} {E : XK} {n : Int} {i j : Nat} (hd : DrS K H s a ns) (h1 : σ[i]? = some (some (.ref s))) (h2 : σ[j]? = some (some (.ref a))) (h3 : Ev tn σ H (.int n)) (h0 : 0 < n) (hn : n ≤ 2 ^ 80) :
    EvI s (tCall (sp_draw K) [] E (tCons (tVar i) (tCons (tVar j) (tCons tn tNil)))) σ H (fun z => ∃ d : Nat, z = (d : Int) ∧ (d : Int) < n) := fun Q q =>
  (ea_cons (ev_var h1) (ea_cons (ev_var h2) (ea_cons h3 ea_nil))) H (Ex.refl _) _ fun H1 e1 => ⟨s, a, ns, n, rfl, hd.ex e1, h0, hn, fun d H2 hdn f => q _ H2 ((Fr.ex hd.1 e1).trans f) ⟨d, rfl, hdn⟩⟩
theorem and_mask255 (x : Nat) : Builtin.bitAnd (x : Int) 255 = ((x % 256 : Nat) : Int) := by
  have h := _root_.Bits.bitAnd_mask (x := (x : Int)) 8 (by omega)
  have e : (2 : Int) ^ 8 - 1 = 255 := rfl
  rw [e] at h
  rw [h]
  have e2 : (2 : Int) ^ 8 = 256 := rfl
  rw [e2]
  omega
def bigB (x n : Nat) : List Nat := (List.range n).map fun k => x / 2 ^ (8 * (n - 1 - k)) % 256
theorem bigB_len (x n : Nat) : (bigB x n).length = n := by unfold bigB; rw [List.length_map, List.length_range]
theorem bigB_lt (x n : Nat) : ∀ d ∈ bigB x n, d < 256 := fun d hd => by
  unfold bigB at hd
  obtain ⟨k, _, rfl⟩ := List.mem_map.mp hd
  exact Nat.mod_lt _ (by decide)
theorem p2n (j : Nat) : ((2 : Int) ^ j) = ((2 ^ j : Nat) : Int) := by rw [Int.natCast_pow]; rfl
theorem ev_byte {σ : L2.St} {H : Hp} {t1 t2 : TE} {x j : Nat} (h1 : Ev t1 σ H (.int (x : Int))) (h2 : Ev t2 σ H (.int (j : Int))) : Ev (tOp (rI0 fun i j => .int (Builtin.bitAnd i j)) (tOp (rI (fun _ j => 0 ≤ j) fun i j => .int (i / 2 ^ j.toNat)) t1 t2) (tC (.int 255))) σ H (.int ((x / 2 ^ j % 256 : Nat) : Int)) :=
  Ev.is (ev_I0 (Ev.is (ev_I h1 h2 (by omega)) (congrArg V.int (show (x : Int) / 2 ^ (j : Int).toNat = ((x / 2 ^ j : Nat) : Int) by rw [Int.toNat_natCast, p2n, Int.natCast_ediv]))) ev_c) (congrArg V.int (and_mask255 _))

theorem cs_get {ds : List Nat} {i : Nat} {x : V} (hx : ((cs ds).map V.int)[i]? = some x) : ∃ d, ds[i]? = some d ∧ i < ds.length ∧ x = V.int (d : Int) := by
  obtain ⟨n, hn, hi, rfl⟩ := int_at hx
  unfold cs at hn
  rw [List.getElem?_map] at hn
  cases e : ds[i]? with
  | none => rw [e] at hn; cases hn
  | some d =>
    rw [e] at hn
    exact ⟨d, rfl, (List.getElem?_eq_some_iff.mp e).1, by rw [← Option.some.inj hn]⟩

/-! ### new lists, draws on the way -/
def EvLW (s : Addr) (te : TE) (σ : L2.St) (H : Hp) (P : List V → Prop) : Prop := ∀ Q : VK, (∀ p xs H2, H p = none → Fr s H H2 → H2 p = some (.lst xs) → P xs → Q (.ref p) H2) → te σ H Q
section
variable {s : Addr} {σ : L2.St} {H : Hp} {ta tb te : TE} {D : Ends} {tz tu : TS} {P : List V → Prop}
theorem wl_cat {xs : List V} (st : StAt H s) (ha : EvL ta σ H xs) (hb : ∀ H1, Fr s H H1 → EvLW s tb σ H1 P) (hl : ∀ ys, P ys → xs.length + ys.length ≤ 100000) : EvLW s (tOp rCat ta tb) σ H (fun zs => ∃ ys, P ys ∧ zs = xs ++ ys) := fun Q k =>
  ha H (Ex.refl _) _ fun p H1 hp e1 g1 => hb H1 (Fr.ex st e1) _ fun r ys H2 hr f2 g2 hy => ⟨p, r, xs, ys, rfl, rfl, f2.l (ne_st st hp) g1, g2, sz_of (hl ys hy), fun l hl' => by
    have f02 : Fr s H H2 := (Fr.ex st e1).trans f2
    exact k l _ _ (f02.fresh hl') (f02.tex (Ex.new hl')) upd_same ⟨ys, hy, rfl⟩⟩
theorem qw_asgL {i : Nat} (h : EvLW s te σ H P) (k : ∀ p xs H1, H p = none → Fr s H H1 → H1 p = some (.lst xs) → P xs → tz D (σ.set i (some (.ref p))) H1) : tSeq (tAsg te (gName i)) tz D σ H := h _ k
theorem sw_asgL {i : Nat} (h : EvLW s te σ H P) (k : ∀ p xs H1, H p = none → Fr s H H1 → H1 p = some (.lst xs) → P xs → D.nx (σ.set i (some (.ref p))) H1) : tAsg te (gName i) D σ H := h _ k
/-- [e for j in range(n)], n drawn, e draws -/
theorem tlc_rngWW {te0 : TE} {vs : List Nat} {j : Nat} {Q : VK} {p : Int → Prop} (h : EvI s te0 σ H p) (hp : ∀ i, p i → 0 ≤ i ∧ i ≤ 100000)
    (k : ∀ n H1, p n → Fr s H H1 → ∀ Dl, H1 Dl = none → ∃ Pv : Nat → Hp → Prop, Pv 0 (upd H1 Dl (.lst [])) ∧ (∀ (i : Nat) H', i < n.toNat → Pv i H' → wipe ((wipe σ vs).set j (some (.int (i : Int)))) vs = wipe σ vs ∧ te ((wipe σ vs).set j (some (.int (i : Int)))) H' fun y H4 => ∃ acc, H4 Dl = some (.lst acc) ∧ acc.length < sizeLine ∧ Pv (i + 1) (upd H4 Dl (.lst (acc ++ [y])))) ∧ (∀ H', Pv n.toNat H' → Q (.ref Dl) H')) :
    tLc (iRng1 (tCons te0 tNil)) (gName j) tYes te vs σ H Q := h _ fun n H1 f1 hn => ⟨n, rfl, by have := hp n hn; omega, by have := hp n hn; omega, fun Dl hD => by
  obtain ⟨Pv, h0, hs, hd⟩ := k n H1 hn f1 Dl hD
  refine lc_range (lo := 0) (n := n.toNat) Pv h0 (fun i H' hi p => ?_) hd
  rw [Int.zero_add]
  exact hs i H' hi p⟩
end
theorem sw_setLR {s : Addr} {σ : L2.St} {H : Hp} {te ta tb : TE} {l : Addr} {xs : List V} {j : Nat} {D : Ends} {P : V → Prop} (h : ∀ Q : VK, (∀ v H1, Fr s H H1 → P v → Q v H1) → te σ H Q) (hls : l ≠ s) (hl : H l = some (.lst xs)) (ho : ∀ H1, Ev ta σ H1 (.ref l)) (hi : ∀ H1, Ev tb σ H1 (.int (j : Int))) (hj : j < xs.length) (k : ∀ v H1, P v → Fr s H H1 → D.nx σ (upd H1 l (.lst (xs.set j v)))) : tAsg te (gSub ta tb rSetL) D σ H :=
  h _ fun v H1 f1 hv => ho H1 H1 (Ex.refl _) _ fun H2 e2 => hi H2 H2 (Ex.refl _) _ fun H3 e3 => ⟨l, xs, (j : Int), j, rfl, rfl, (e2.trans e3) l _ (f1.l hls hl), ixN_nat hj, k v H3 hv (f1.tex (e2.trans e3))⟩
theorem qw_setLR {s : Addr} {σ : L2.St} {H : Hp} {te ta tb : TE} {l : Addr} {xs : List V} {j : Nat} {D : Ends} {tz : TS} {P : V → Prop} (h : ∀ Q : VK, (∀ v H1, Fr s H H1 → P v → Q v H1) → te σ H Q) (hls : l ≠ s) (hl : H l = some (.lst xs)) (ho : ∀ H1, Ev ta σ H1 (.ref l)) (hi : ∀ H1, Ev tb σ H1 (.int (j : Int))) (hj : j < xs.length) (k : ∀ v H1, P v → Fr s H H1 → tz D σ (upd H1 l (.lst (xs.set j v)))) : tSeq (tAsg te (gSub ta tb rSetL)) tz D σ H := sw_setLR (D := { D with nx := tz D }) h hls hl ho hi hj k
/-- a list of mine may change -/
theorem Fr.upd {s l : Addr} {H1 : Hp} {o : HO} (h : StAt H1 s) (hl : l ≠ s) : StAt (upd H1 l o) s := by obtain ⟨k, c, g⟩ := h; exact ⟨k, c, by rw [upd_ne (Ne.symm hl)]; exact g⟩
theorem cs_inj {a b : List Nat} (h : cs a = cs b) : a = b := by
  unfold cs at h
  exact (List.map_inj_right fun x y e => Int.ofNat.inj e).mp h
theorem cs_eqd (a b : List Nat) : decide (cs a = cs b) = decide (a = b) := decide_eq_decide.mpr ⟨cs_inj, fun h => by rw [h]⟩
theorem cs_set (ds : List Nat) (i d : Nat) : (cs ds).set i (d : Int) = cs (ds.set i d) := by unfold cs; rw [List.map_set]

/-! ### objects: fields, methods, making -/
section
variable {K : PySem.W.Frag} {σ : L2.St} {H : Hp} {to te tv : TE} {a C : Addr} {dx : Addr} {fs : List (Str × V)} {f m : Str} {v : V} {D : Ends} {tz : TS} {sp : Sp} {dvs vs : List V} {E : XK} {t : TA}
theorem ev_fld (c : Cls K C) (hn : NoAttr K C f) (h : Ev to σ H (.ref a)) (hx : H a = some (.ins C dx fs)) (hl : fs.lookup f = some v) : Ev (tFld K to f) σ H v := fun H1 e Q q => h H1 e _ fun H2 e2 => ⟨a, C, dx, fs, v, rfl, (e.trans e2) _ _ hx, c, hn, hl, q H2 e2⟩
theorem q_fld (c : Cls K C) (hn : NoAttr K C f) (hv : Ev tv σ H v) (h : Ev to σ H (.ref a)) (hx : H a = some (.ins C dx fs)) (hl : fs.length < 1000) (k : ∀ H1, Ex H H1 → tz D σ (upd H1 a (.ins C dx (putF f v fs)))) : tSeq (sFld K to tv f) tz D σ H :=
  hv H (Ex.refl H) _ fun H1 e1 => h H1 e1 _ fun H2 e2 => ⟨a, C, dx, fs, rfl, (e1.trans e2) _ _ hx, c, hn, hl, k H2 (e1.trans e2)⟩
theorem s_fld (c : Cls K C) (hn : NoAttr K C f) (hv : Ev tv σ H v) (h : Ev to σ H (.ref a)) (hx : H a = some (.ins C dx fs)) (hl : fs.length < 1000) (k : ∀ H1, Ex H H1 → D.nx σ (upd H1 a (.ins C dx (putF f v fs)))) : sFld K to tv f D σ H :=
  hv H (Ex.refl H) _ fun H1 e1 => h H1 e1 _ fun H2 e2 => ⟨a, C, dx, fs, rfl, (e1.trans e2) _ _ hx, c, hn, hl, k H2 (e1.trans e2)⟩
theorem q_fldL {xs : List V} (c : Cls K C) (hn : NoAttr K C f) (hv : EvL tv σ H xs) (h : ∀ H1, Ex H H1 → Ev to σ H1 (.ref a)) (hx : H a = some (.ins C dx fs)) (hl : fs.length < 1000) (k : ∀ p H1, H p = none → Ex H H1 → H1 p = some (.lst xs) → tz D σ (upd H1 a (.ins C dx (putF f (.ref p) fs)))) : tSeq (sFld K to tv f) tz D σ H :=
  hv H (Ex.refl H) _ fun p H1 hp e1 g1 => h H1 e1 H1 (Ex.refl H1) _ fun H2 e2 => ⟨a, C, dx, fs, rfl, (e1.trans e2) _ _ hx, c, hn, hl, k p H2 hp (e1.trans e2) (e2 _ _ g1)⟩
/-- o.m(..), whatever m promises -/
theorem mth (h : Ev to σ H (.ref a)) (hx : H a = some (.ins C dx fs)) (hm : fs.lookup m = none) (ha : EvA t σ H vs) {Q : VK} (k : ∀ H1, Ex H H1 → sp (.ref a :: (vs ++ dvs)) H1 Q E) : tMeth C m sp dvs E to t σ H Q :=
  h H (Ex.refl H) _ fun H1 e1 => ⟨a, dx, fs, rfl, e1 _ _ hx, hm, ha H1 e1 _ fun H2 e2 => k H2 (e1.trans e2)⟩
theorem q_dropM (h : Ev to σ H (.ref a)) (hx : H a = some (.ins C dx fs)) (hm : fs.lookup m = none) (ha : EvA t σ H vs) (k : ∀ H1, Ex H H1 → sp (.ref a :: (vs ++ dvs)) H1 (fun _ H2 => tz D σ H2) E) : tSeq (tDrop (tMeth C m sp dvs E to t)) tz D σ H := mth h hx hm ha k
theorem s_dropM (h : Ev to σ H (.ref a)) (hx : H a = some (.ins C dx fs)) (hm : fs.lookup m = none) (ha : EvA t σ H vs) (k : ∀ H1, Ex H H1 → sp (.ref a :: (vs ++ dvs)) H1 (fun _ H2 => D.nx σ H2) E) : tDrop (tMeth C m sp dvs E to t) D σ H := mth h hx hm ha k
theorem q_asgM {i : Nat} (h : Ev to σ H (.ref a)) (hx : H a = some (.ins C dx fs)) (hm : fs.lookup m = none) (ha : EvA t σ H vs) (k : ∀ H1, Ex H H1 → sp (.ref a :: (vs ++ dvs)) H1 (fun x H2 => tz D (σ.set i (some x)) H2) E) : tSeq (tAsg (tMeth C m sp dvs E to t) (gName i)) tz D σ H := mth h hx hm ha k
theorem s_retM (h : Ev to σ H (.ref a)) (hx : H a = some (.ins C dx fs)) (hm : fs.lookup m = none) (ha : EvA t σ H vs) (k : ∀ H1, Ex H H1 → sp (.ref a :: (vs ++ dvs)) H1 D.rt E) : tRet (tMeth C m sp dvs E to t) D σ H := mth h hx hm ha k
/-- a method that changes nothing and gives a value -/
theorem ev_mth (h : Ev to σ H (.ref a)) (hx : H a = some (.ins C dx fs)) (hm : fs.lookup m = none) (ha : EvA t σ H vs) (k : SpV sp (.ref a :: (vs ++ dvs)) H v) : Ev (tMeth C m sp dvs E to t) σ H v := fun H1 e Q q =>
  h H1 e _ fun H2 e2 => ⟨a, dx, fs, rfl, (e.trans e2) _ _ hx, hm, ha H2 (e.trans e2) _ fun H3 e3 => k H3 ((e.trans e2).trans e3) Q (fun H4 e4 => q H4 ((e2.trans e3).trans e4)) E⟩
end
theorem fresh_ne {H : Hp} {p q : Addr} {o : HO} (hp : H p = none) (hq : H q = some o) : q ≠ p := ne_of_none hq hp
theorem bitNot_eq (x : Int) : Builtin.bitNot x = -x - 1 := rfl
theorem bitAnd_maskZ (x : Int) (k : Nat) : Builtin.bitAnd x (2 ^ k - 1) = x % 2 ^ k := by
  by_cases h : 0 ≤ x
  · exact _root_.Bits.bitAnd_mask k h
  · have hp : (1 : Int) ≤ 2 ^ k := by
      have : 0 < 2 ^ k := Nat.two_pow_pos k
      have h2 : ((2 : Int) ^ k) = ((2 ^ k : Nat) : Int) := by rw [Int.natCast_pow]; rfl
      omega
    rw [PyProof.Rows.bitAnd_np h (by omega), Nat.and_comm]
    have h2 : ((2 : Int) ^ k) = ((2 ^ k : Nat) : Int) := by rw [Int.natCast_pow]; rfl
    have h3 : ((2 : Int) ^ k - 1).toNat = 2 ^ k - 1 := by omega
    rw [h3, Nat.and_two_pow_sub_one_eq_mod, bitNot_eq]
    have h4 : ((-x - 1).toNat : Int) = -x - 1 := by omega
    rw [h2, Int.natCast_emod, h4]
    generalize 2 ^ k = m at *
    have hm : (0 : Int) < (m : Int) := by omega
    have e1 := Int.emod_add_mul_ediv x m
    have e2 := Int.emod_add_mul_ediv (-x - 1) m
    have a1 := Int.emod_nonneg x (by omega : (m : Int) ≠ 0)
    have a2 := Int.emod_lt_of_pos x hm
    have b1 := Int.emod_nonneg (-x - 1) (by omega : (m : Int) ≠ 0)
    have b2 := Int.emod_lt_of_pos (-x - 1) hm
    generalize x % (m : Int) = r at *
    generalize (-x - 1) % (m : Int) = s at *
    generalize x / (m : Int) = p at *
    generalize (-x - 1) / (m : Int) = q at *
    -- r + s + 1 is a multiple of m between 1 and 2m - 1
    have e3 : r + s + 1 = m * (-(p + q)) := by
      rw [Int.mul_neg, Int.mul_add]
      omega
    have h5 : -(p + q) = 1 := by
      have c1 : 0 < (m : Int) * (-(p + q)) := by omega
      have c2 : (m : Int) * (-(p + q)) < m * 2 := by omega
      have c3 := Int.pos_of_mul_pos_right (a := (m : Int)) (b := -(p + q)) (by exact c1) hm
      have c4 : -(p + q) < 2 := Int.lt_of_mul_lt_mul_left c2 (by omega)
      omega
    rw [h5, Int.mul_one] at e3
    omega
theorem q_fldaugI {K : PySem.W.Frag} {σ : L2.St} {H : Hp} {to tv : TE} {a C dx : Addr} {fs : List (Str × V)} {f : Str} {i j : Int} {D : Ends} {tz : TS} (c : Cls K C) (hn : NoAttr K C f) (h : Ev to σ H (.ref a)) (hx : H a = some (.ins C dx fs)) (hl : fs.lookup f = some (.int i)) (hv : Ev tv σ H (.int j)) (hz : fs.length < 1000)
    (k : ∀ H1, Ex H H1 → tz D σ (upd H1 a (.ins C dx (putF f (.int (i + j)) fs)))) : tSeq (sFldAug K to tv rAdd f) tz D σ H :=
  h H (Ex.refl H) _ fun H1 e1 => ⟨a, C, dx, fs, .int i, rfl, e1 _ _ hx, c, hn, hl, hv H1 e1 _ fun H2 e2 => ⟨i, j, rfl, rfl, dx, fs, (e1.trans e2) _ _ hx, hz, k H2 (e1.trans e2)⟩⟩
/-- [e for j in range(n)] whose element changes objects -/
theorem tlc_rngM {ta : TA} {te : TE} {vs : List Nat} {n : Int} {j : Nat} {σ : L2.St} {H : Hp} {Q : VK} (h : EvA ta σ H [.int n]) (hn : -100000 ≤ n ∧ n ≤ 100000)
    (k : ∀ H1, Ex H H1 → ∀ Dl, H1 Dl = none → ∃ Pv : Nat → Hp → Prop, Pv 0 (upd H1 Dl (.lst [])) ∧ (∀ (i : Nat) H', i < n.toNat → Pv i H' → wipe ((wipe σ vs).set j (some (.int (i : Int)))) vs = wipe σ vs ∧ te ((wipe σ vs).set j (some (.int (i : Int)))) H' fun y H4 => ∃ acc, H4 Dl = some (.lst acc) ∧ acc.length < sizeLine ∧ Pv (i + 1) (upd H4 Dl (.lst (acc ++ [y])))) ∧ (∀ H', Pv n.toNat H' → Q (.ref Dl) H')) :
    tLc (iRng1 ta) (gName j) tYes te vs σ H Q := h H (Ex.refl H) _ fun H1 e1 => ⟨n, rfl, by omega, by omega, fun Dl hD => by
  obtain ⟨Pv, h0, hs, hd⟩ := k H1 e1 Dl hD
  refine lc_range (lo := 0) (n := n.toNat) Pv h0 (fun i H' hi p => ?_) hd
  rw [Int.zero_add]
  exact hs i H' hi p⟩

/-! ### objects that are made once -/
def FrO (a : Addr) (H H' : Hp) : Prop := ∀ b o, b ≠ a → H b = some o → H' b = some o
theorem FrO.ex {a : Addr} {H H' : Hp} (e : Ex H H') : FrO a H H' := fun b o _ h => e b o h
theorem FrO.trans {a : Addr} {H H1 H2 : Hp} (x : FrO a H H1) (y : FrO a H1 H2) : FrO a H H2 := fun b o hb h => y b o hb (x b o hb h)
theorem FrO.upd {a : Addr} {H H' : Hp} {o : HO} (f : FrO a H H') : FrO a H (upd H' a o) := fun b u hb h => by rw [upd_ne hb]; exact f b u hb h
def EvN (te : TE) (σ : L2.St) (H : Hp) (R : Addr → Hp → Prop) : Prop := ∀ H1, Ex H H1 → ∀ Q : VK, (∀ p H2, H1 p = none → Ex H1 H2 → R p H2 → Q (.ref p) H2) → te σ H1 Q
section
variable {K : PySem.W.Frag} {σ : L2.St} {H : Hp} {te ta tb : TE} {C : Addr} {sp : Sp} {dvs vs zs : List V} {E : XK} {t tk : TA} {R : Addr → Hp → Prop} {D : Ends} {tz : TS} {n m i : Nat} {gV : List V → List V → List V}
theorem en_make (h : EvA t σ H vs) (k : ∀ a dx H1 (Q : VK) (E : XK), Ex H H1 → H1 a = some (.ins C dx []) → (∀ H', FrO a H1 H' → R a H' → Q .non H') → sp (.ref a :: (vs ++ dvs)) H1 Q E) : EvN (tMake C sp dvs E t) σ H R := fun H1 e Q q =>
  h H1 e _ fun H2 e2 => fun x dx hx hdx hne => k x dx _ _ _ ((e.trans e2).trans (Ex.mut (Ex.new hdx) hx)) upd_same fun H' hF hR => ⟨rfl, q x H' (fresh_back e2 hx) (fun b o hb => hF b o (fresh_ne hx (e2 b o hb)) ((Ex.mut (Ex.new hdx) hx) b o (e2 b o hb))) hR⟩
theorem en_makeK (h : EvA t σ H vs) (hz : EvA tk σ H zs) (l1 : vs.length = n) (l2 : zs.length = m) (k : ∀ a dx H1 (Q : VK) (E : XK), Ex H H1 → H1 a = some (.ins C dx []) → (∀ H', FrO a H1 H' → R a H' → Q .non H') → sp (gV (.ref a :: vs) zs) H1 Q E) : EvN (tMakeK C n m sp gV E t tk) σ H R := fun H1 e Q q =>
  h H1 e _ fun H2 e2 => hz H2 (e.trans e2) _ fun H3 e3 => ⟨l1, l2, fun x dx hx hdx hne => k x dx _ _ _ (((e.trans e2).trans e3).trans (Ex.mut (Ex.new hdx) hx)) upd_same fun H' hF hR => ⟨rfl, q x H' (fresh_back (e2.trans e3) hx) (fun b o hb => hF b o (fresh_ne hx ((e2.trans e3) b o hb)) ((Ex.mut (Ex.new hdx) hx) b o ((e2.trans e3) b o hb))) hR⟩⟩
theorem en_makeF (h : EvA t σ H vs) (k : ∀ a dx H1 (Q : VK) (E : XK), Ex H H1 → H a = none → H1 a = some (.ins C dx []) → (∀ H', FrO a H1 H' → R a H' → Q .non H') → sp (.ref a :: (vs ++ dvs)) H1 Q E) : EvN (tMake C sp dvs E t) σ H R := fun H1 e Q q =>
  h H1 e _ fun H2 e2 => fun x dx hx hdx hne => k x dx _ _ _ ((e.trans e2).trans (Ex.mut (Ex.new hdx) hx)) (fresh_back (e.trans e2) hx) upd_same fun H' hF hR => ⟨rfl, q x H' (fresh_back e2 hx) (fun b o hb => hF b o (fresh_ne hx (e2 b o hb)) ((Ex.mut (Ex.new hdx) hx) b o (e2 b o hb))) hR⟩
theorem en_makeKF (h : EvA t σ H vs) (hz : EvA tk σ H zs) (l1 : vs.length = n) (l2 : zs.length = m) (k : ∀ a dx H1 (Q : VK) (E : XK), Ex H H1 → H a = none → H1 a = some (.ins C dx []) → (∀ H', FrO a H1 H' → R a H' → Q .non H') → sp (gV (.ref a :: vs) zs) H1 Q E) : EvN (tMakeK C n m sp gV E t tk) σ H R := fun H1 e Q q =>
  h H1 e _ fun H2 e2 => hz H2 (e.trans e2) _ fun H3 e3 => ⟨l1, l2, fun x dx hx hdx hne => k x dx _ _ _ (((e.trans e2).trans e3).trans (Ex.mut (Ex.new hdx) hx)) (fresh_back ((e.trans e2).trans e3) hx) upd_same fun H' hF hR => ⟨rfl, q x H' (fresh_back (e2.trans e3) hx) (fun b o hb => hF b o (fresh_ne hx ((e2.trans e3) b o hb)) ((Ex.mut (Ex.new hdx) hx) b o ((e2.trans e3) b o hb))) hR⟩⟩
/-- what stood before the object was made stands -/
theorem FrO.after {a : Addr} {H0 G H' : Hp} (f : FrO a G H') (e : Ex H0 G) (hn : H0 a = none) : Ex H0 H' := fun b o hb => f b o (by rintro rfl; rw [hn] at hb; cases hb) (e b o hb)
theorem q_asgN (h : EvN te σ H R) (k : ∀ p H1, H p = none → Ex H H1 → R p H1 → tz D (σ.set i (some (.ref p))) H1) : tSeq (tAsg te (gName i)) tz D σ H := h H (Ex.refl H) _ k
theorem s_asgN (h : EvN te σ H R) (k : ∀ p H1, H p = none → Ex H H1 → R p H1 → D.nx (σ.set i (some (.ref p))) H1) : tAsg te (gName i) D σ H := h H (Ex.refl H) _ k
theorem s_retN (h : EvN te σ H R) (k : ∀ p H1, H p = none → Ex H H1 → R p H1 → D.rt (.ref p) H1) : tRet te D σ H := h H (Ex.refl H) _ k
theorem el_if {c : TT} {b : Bool} {xs : List V} (h : EvT c σ H b) (h1 : b = true → EvL ta σ H xs) (h2 : b = false → EvL tb σ H xs) : EvL (tIf c ta tb) σ H xs := fun H1 e Q q => h H1 e _ fun H2 e2 => by
  cases b with
  | true =>
    rw [if_pos rfl]
    exact h1 rfl H2 (e.trans e2) Q fun p H3 hp e3 g => q p H3 (fresh_back e2 hp) (e2.trans e3) g
  | false =>
    rw [if_neg (by decide)]
    exact h2 rfl H2 (e.trans e2) Q fun p H3 hp e3 g => q p H3 (fresh_back e2 hp) (e2.trans e3) g
theorem s_fldL {a dx : Addr} {fs : List (Str × V)} {f : Str} {to tv : TE} {xs : List V} (c : Cls K C) (hn : NoAttr K C f) (hv : EvL tv σ H xs) (h : ∀ H1, Ex H H1 → Ev to σ H1 (.ref a)) (hx : H a = some (.ins C dx fs)) (hl : fs.length < 1000) (k : ∀ p H1, H p = none → Ex H H1 → H1 p = some (.lst xs) → D.nx σ (upd H1 a (.ins C dx (putF f (.ref p) fs)))) : sFld K to tv f D σ H :=
  hv H (Ex.refl H) _ fun p H1 hp e1 g1 => h H1 e1 H1 (Ex.refl H1) _ fun H2 e2 => ⟨a, C, dx, fs, rfl, (e1.trans e2) _ _ hx, c, hn, hl, k p H2 hp (e1.trans e2) (e2 _ _ g1)⟩
end

/-! ### arguments some of which are new objects -/
def EvAP (t : TA) (σ : L2.St) (H : Hp) (R : List V → Hp → Prop) : Prop := ∀ H1, Ex H H1 → ∀ Q : List V → Hp → Prop, (∀ vs H2, Ex H1 H2 → R vs H2 → Q vs H2) → t σ H1 Q
section
variable {K : PySem.W.Frag} {σ : L2.St} {H : Hp} {te : TE} {tr t : TA} {x : V} {xs : List V} {R : List V → Hp → Prop} {C : Addr} {sp : Sp} {dvs : List V} {E : XK} {S : Addr → Hp → Prop} {D : Ends} {tz : TS} {i : Nat}
theorem ap_nil : EvAP tNil σ H fun vs _ => vs = [] := fun H1 _ _ q => q [] H1 (Ex.refl H1) rfl
theorem ap_ev (h : Ev te σ H x) (hr : EvAP tr σ H R) : EvAP (tCons te tr) σ H fun vs G => ∃ r, vs = x :: r ∧ R r G := fun H1 e Q q =>
  h H1 e _ fun H2 e2 => hr H2 (e.trans e2) _ fun vs H3 e3 hR => q (x :: vs) H3 (e2.trans e3) ⟨vs, rfl, hR⟩
theorem ap_l (h : EvL te σ H xs) (hr : EvAP tr σ H R) : EvAP (tCons te tr) σ H fun vs G => ∃ p r, vs = .ref p :: r ∧ H p = none ∧ G p = some (.lst xs) ∧ R r G := fun H1 e Q q =>
  h H1 e _ fun p H2 hp e2 g => hr H2 (e.trans e2) _ fun vs H3 e3 hR => q (.ref p :: vs) H3 (e2.trans e3) ⟨p, vs, rfl, fresh_back e hp, e3 _ _ g, hR⟩
theorem ap_u (h : EvU te σ H xs) (hr : EvAP tr σ H R) : EvAP (tCons te tr) σ H fun vs G => ∃ p r, vs = .ref p :: r ∧ H p = none ∧ G p = some (.tup xs) ∧ R r G := fun H1 e Q q =>
  h H1 e _ fun p H2 hp e2 g => hr H2 (e.trans e2) _ fun vs H3 e3 hR => q (.ref p :: vs) H3 (e2.trans e3) ⟨p, vs, rfl, fresh_back e hp, e3 _ _ g, hR⟩
theorem en_makeAP (h : EvAP t σ H R) (k : ∀ vs a dx H1 (Q : VK) (E : XK), Ex H H1 → (∃ G, Ex G H1 ∧ R vs G) → H1 a = some (.ins C dx []) → (∀ H', FrO a H1 H' → S a H' → Q .non H') → sp (.ref a :: (vs ++ dvs)) H1 Q E) : EvN (tMake C sp dvs E t) σ H S := fun H1 e Q q =>
  h H1 e _ fun vs H2 e2 hR => fun x dx hx hdx hne => k vs x dx _ _ _ ((e.trans e2).trans (Ex.mut (Ex.new hdx) hx)) ⟨H2, Ex.mut (Ex.new hdx) hx, hR⟩ upd_same fun H' hF hS => ⟨rfl, q x H' (fresh_back e2 hx) (fun b o hb => hF b o (fresh_ne hx (e2 b o hb)) ((Ex.mut (Ex.new hdx) hx) b o (e2 b o hb))) hS⟩
theorem q_asgAP (h : EvAP t σ H R) (k : ∀ vs H1, Ex H H1 → R vs H1 → sp (vs ++ dvs) H1 (fun x H2 => tz D (σ.set i (some x)) H2) E) : tSeq (tAsg (tCall sp dvs E t) (gName i)) tz D σ H := h H (Ex.refl H) _ fun vs H1 e hR => k vs H1 e hR
theorem s_retAP (h : EvAP t σ H R) (k : ∀ vs H1, Ex H H1 → R vs H1 → sp (vs ++ dvs) H1 D.rt E) : tRet (tCall sp dvs E t) D σ H := h H (Ex.refl H) _ fun vs H1 e hR => k vs H1 e hR
end

/-! ### values of which something is told -/
def EvX (te : TE) (σ : L2.St) (H : Hp) (S : V → Hp → Prop) : Prop := ∀ H1, Ex H H1 → ∀ Q : VK, (∀ v H2, Ex H1 H2 → S v H2 → Q v H2) → te σ H1 Q
def Up (S : V → Hp → Prop) : Prop := ∀ v H H', Ex H H' → S v H → S v H'
section
variable {K : PySem.W.Frag} {σ : L2.St} {H : Hp} {te ta tb : TE} {tr t : TA} {R : List V → Hp → Prop} {C : Addr} {sp : Sp} {dvs : List V} {E : XK} {S S' S2 : V → Hp → Prop} {D : Ends} {tz : TS} {i : Nat}
theorem Ev.x {v : V} (h : Ev te σ H v) (hS : ∀ H1, Ex H H1 → S v H1) : EvX te σ H S := fun H1 e Q q => h H1 e _ fun H2 e2 => q v H2 e2 (hS H2 (e.trans e2))
theorem EvN.x {R' : Addr → Hp → Prop} (h : EvN te σ H R') (hS : ∀ p H1, Ex H H1 → R' p H1 → S (.ref p) H1) : EvX te σ H S := fun H1 e Q q => h H1 e _ fun p H2 _ e2 hR => q (.ref p) H2 e2 (hS p H2 (e.trans e2) hR)
theorem ex_call1 (h : EvX te σ H S) (k : ∀ v H1 (Q : VK) (E : XK), Ex H H1 → S v H1 → (∀ v' H2, Ex H1 H2 → S' v' H2 → Q v' H2) → sp ([v] ++ dvs) H1 Q E) : EvX (tCall sp dvs E (tCons te tNil)) σ H S' := fun H1 e Q q =>
  h H1 e _ fun v H2 e2 hS => k v H2 _ _ (e.trans e2) hS fun v' H3 e3 hS' => q v' H3 (e2.trans e3) hS'
theorem ex_call2 (h : EvX ta σ H S) (hu : Up S) (h2 : EvX tb σ H S2) (k : ∀ v w H1 (Q : VK) (E : XK), Ex H H1 → S v H1 → S2 w H1 → (∀ v' H2, Ex H1 H2 → S' v' H2 → Q v' H2) → sp ([v, w] ++ dvs) H1 Q E) : EvX (tCall sp dvs E (tCons ta (tCons tb tNil))) σ H S' := fun H1 e Q q =>
  h H1 e _ fun v H2 e2 hS => h2 H2 (e.trans e2) _ fun w H3 e3 hS2 => k v w H3 _ _ ((e.trans e2).trans e3) (hu _ _ _ e3 hS) hS2 fun v' H4 e4 hS' => q v' H4 ((e2.trans e3).trans e4) hS'
theorem EvX.val {v : V} (h : EvX te σ H fun x _ => x = v) : Ev te σ H v := fun H1 e Q q => h H1 e _ fun x H2 e2 hx => by rw [hx]; exact q H2 e2
theorem q_asgX (h : EvX te σ H S) (k : ∀ v H1, Ex H H1 → S v H1 → tz D (σ.set i (some v)) H1) : tSeq (tAsg te (gName i)) tz D σ H := h H (Ex.refl H) _ fun v H1 e hS => k v H1 e hS
theorem ap_x (h : EvX te σ H S) (hu : Up S) (hr : EvAP tr σ H R) : EvAP (tCons te tr) σ H fun vs G => ∃ v r, vs = v :: r ∧ S v G ∧ R r G := fun H1 e Q q =>
  h H1 e _ fun v H2 e2 hS => hr H2 (e.trans e2) _ fun vs H3 e3 hR => q (v :: vs) H3 (e2.trans e3) ⟨v, vs, rfl, hu _ _ _ e3 hS, hR⟩
theorem s_retAPL (h : EvAP t σ H R) (hl : ∀ vs G, R vs G → vs.length ≤ 100000) (k : ∀ p vs H1 H2, H p = none → Ex H H1 → R vs H1 → Ex H1 H2 → H2 p = some (.lst vs) → D.rt (.ref p) H2) : tRet (tLst t) D σ H := h H (Ex.refl H) _ fun vs H1 e hR => ⟨sz_of (hl vs H1 hR), fun p hp => k p vs H1 _ (fresh_back e hp) e hR (Ex.new hp) upd_same⟩
theorem ev_eqX {K : PySem.W.Frag} {b : Bool} (ha : EvX ta σ H S) (hu : Up S) (hb : EvX tb σ H S2) (h : ∀ x y G, Ex H G → S x G → S2 y G → ∃ a dx fs t, x = .ref a ∧ G a = some (.ins C dx fs) ∧ TyX K G y t ∧ PySem.W.notFirst K C t = true ∧ SpV sp [.ref a, y] G (.bl b)) : Ev (tOp (rEqO C sp E K) ta tb) σ H (.bl b) := fun H1 e Q q =>
  ha H1 e _ fun x H2 e2 hS => hb H2 (e.trans e2) _ fun y H3 e3 hS2 => by
    obtain ⟨a, dx, fs, t, rfl, h1, h2, h3, h4⟩ := h x y H3 ((e.trans e2).trans e3) (hu _ _ _ e3 hS) hS2
    exact ⟨a, dx, fs, t, rfl, h1, h2, h3, h4 H3 (Ex.refl _) _ (fun H4 e4 => ⟨⟨b, rfl⟩, q H4 ((e2.trans e3).trans e4)⟩) E⟩
theorem ev_eqDv {d d' : PyData} (h1 : EvD K ta σ H d) (h2 : EvD K tb σ H d') (hs : SeqAt.shaped d = true) (hs' : SeqAt.shaped d' = true) : Ev (tOp (rEqD K) ta tb) σ H (.bl (PyData.eqv d d')) := fun H1 e Q q => h1 H1 e _ fun v H2 e2 hv => h2 H2 (e.trans e2) _ fun u H3 e3 hu =>
  ⟨d, d', dp_ex e3 d v hv, hu, hs, hs', q H3 (e2.trans e3)⟩
theorem ev_neDv {d d' : PyData} (h1 : EvD K ta σ H d) (h2 : EvD K tb σ H d') (hs : SeqAt.shaped d = true) (hs' : SeqAt.shaped d' = true) : Ev (tOp (rNeD K) ta tb) σ H (.bl (!PyData.eqv d d')) := fun H1 e Q q => h1 H1 e _ fun v H2 e2 hv => h2 H2 (e.trans e2) _ fun u H3 e3 hu =>
  ⟨d, d', dp_ex e3 d v hv, hu, hs, hs', q H3 (e2.trans e3)⟩
end

-- K52A
/-! ### entries: names and values -/
abbrev En := List Int × List Int
def upI (p : Int) : Int := if 97 ≤ p ∧ p ≤ 122 then p - 32 else p
def upS (l : List Int) : List Int := l.map upI
def mt (n m : List Int) : Bool := decide (upS n = upS m)
theorem mt_of {n m x : List Int} (h : upS m = upS x) : mt n m = mt n x := by unfold mt; rw [h]
def hitE (nm : List Int) (es : List En) : List En := es.filter fun e => mt e.1 nm
def missE (nm : List Int) (es : List En) : List En := es.filter fun e => !mt e.1 nm
def valsO (es : List En) (nm : List Int) : List (List Int) := (hitE nm es).map (·.2)
def atO (nm : List Int) : List En → Option Nat
  | [] => none
  | e :: r => if mt e.1 nm = true then some 0 else (atO nm r).map (· + 1)
def insE (nm : List Int) (vs : List (List Int)) : List En := vs.map fun v => (nm, v)
def putE (k : List En) (a : Nat) (ins : List En) : List En := k.take a ++ ins ++ k.drop a
def withV (es : List En) (nm : List Int) (vs : List (List Int)) : List En := putE (missE nm es) ((atO nm es).getD (missE nm es).length) (insE nm vs)
theorem atO_snoc (nm : List Int) (e : En) : ∀ es : List En, atO nm (es ++ [e]) = match atO nm es with | some k => some k | none => if mt e.1 nm = true then some (missE nm es).length else none
  | [] => by
    show (if mt e.1 nm = true then some 0 else none) = _
    rfl
  | x :: r => by
    rw [List.cons_append]
    show (if mt x.1 nm = true then some 0 else (atO nm (r ++ [e])).map (· + 1)) = match (if mt x.1 nm = true then some 0 else (atO nm r).map (· + 1)) with | some k => some k | none => if mt e.1 nm = true then some (missE nm (x :: r)).length else none
    by_cases h : mt x.1 nm = true
    · rw [if_pos h, if_pos h]
    · rw [if_neg h, if_neg h, atO_snoc nm e r]
      cases ha : atO nm r with
      | some k => rfl
      | none =>
        show (if mt e.1 nm = true then some (missE nm r).length else none).map (· + 1) = if mt e.1 nm = true then some (missE nm (x :: r)).length else none
        have hl : (missE nm (x :: r)).length = (missE nm r).length + 1 := by
          unfold missE
          rw [List.filter_cons_of_pos (by simp [h])]
          rfl
        rw [hl]
        split <;> rfl
theorem atO_le {nm : List Int} : ∀ {es : List En} {k : Nat}, atO nm es = some k → k ≤ (missE nm es).length
  | [], k, h => by cases h
  | x :: r, k, h => by
    by_cases hx : mt x.1 nm = true
    · have : (if mt x.1 nm = true then some 0 else (atO nm r).map (· + 1)) = some k := h
      rw [if_pos hx] at this
      cases this
      exact Nat.zero_le _
    · have : (if mt x.1 nm = true then some 0 else (atO nm r).map (· + 1)) = some k := h
      rw [if_neg hx] at this
      obtain ⟨j, hj, rfl⟩ := Option.map_eq_some_iff.mp this
      have := atO_le hj
      have hl : (missE nm (x :: r)).length = (missE nm r).length + 1 := by
        unfold missE
        rw [List.filter_cons_of_pos (by simp [hx])]
        rfl
      omega
theorem missE_snoc (nm : List Int) (es : List En) (e : En) : missE nm (es ++ [e]) = if mt e.1 nm = true then missE nm es else missE nm es ++ [e] := by
  unfold missE
  rw [List.filter_append]
  by_cases h : mt e.1 nm = true
  · rw [if_pos h, List.filter_cons_of_neg (by simp [h]), List.filter_nil, List.append_nil]
  · rw [if_neg h, List.filter_cons_of_pos (by simp [h]), List.filter_nil]
theorem missE_none {nm : List Int} {es : List En} (h : ∀ e ∈ es, mt e.1 nm = true) : missE nm es = [] := List.filter_eq_nil_iff.mpr fun e he => by simp [h e he]
theorem missE_self (nm : List Int) (es : List En) : missE nm (missE nm es) = missE nm es := by
  unfold missE
  rw [List.filter_filter]
  simp
theorem insE_mt {nm x : List Int} {vs : List (List Int)} (h : upS x = upS nm) : ∀ e ∈ insE nm vs, mt e.1 x = true := fun e he => by
  obtain ⟨v, _, rfl⟩ := List.mem_map.mp he
  unfold mt
  rw [h, decide_eq_true rfl]
theorem missE_put (es : List En) (nm : List Int) (vs : List (List Int)) : missE nm (withV es nm vs) = missE nm es := by
  unfold withV putE
  generalize (atO nm es).getD (missE nm es).length = a
  have h1 : missE nm (insE nm vs) = [] := missE_none (insE_mt rfl)
  have h2 := missE_self nm es
  generalize missE nm es = k at *
  unfold missE at *
  rw [List.filter_append, List.filter_append, h1, List.append_nil, ← List.filter_append, List.take_append_drop, h2]
theorem hitE_miss {nm x : List Int} (h : upS x = upS nm) (es : List En) : hitE x (missE nm es) = [] := by
  unfold hitE missE
  rw [List.filter_filter]
  refine List.filter_eq_nil_iff.mpr fun e _ => ?_
  rw [mt_of h]
  simp
theorem valsO_with {nm x : List Int} (h : upS x = upS nm) (es : List En) (vs : List (List Int)) : valsO (withV es nm vs) x = vs := by
  unfold valsO withV putE
  generalize (atO nm es).getD (missE nm es).length = a
  have h1 := hitE_miss h es
  have h2 : hitE x (insE nm vs) = insE nm vs := List.filter_eq_self.mpr (insE_mt h)
  have ht : hitE x ((missE nm es).take a) = [] := List.filter_eq_nil_iff.mpr fun e he => List.filter_eq_nil_iff.mp h1 e (List.mem_of_mem_take he)
  have hd : hitE x ((missE nm es).drop a) = [] := List.filter_eq_nil_iff.mpr fun e he => List.filter_eq_nil_iff.mp h1 e (List.mem_of_mem_drop he)
  unfold hitE at *
  rw [List.filter_append, List.filter_append, ht, hd, h2, List.append_nil, List.nil_append]
  unfold insE
  rw [List.map_map]
  exact List.map_id _
theorem valsO_of {es : List En} {nm x : List Int} (h : upS x = upS nm) : valsO es x = valsO es nm := by
  unfold valsO hitE
  congr 1
  exact List.filter_congr fun e _ => mt_of h
/-! ### where entries stand -/
def EnsN (N : Addr → Prop) (H : Hp) (as : List Addr) (es : List En) : Prop := as.length = es.length ∧ ∀ (j : Nat) (a : Addr) (e : En), as[j]? = some a → es[j]? = some e → N a ∧ ∃ pn pv, H a = some (.tup [.ref pn, .ref pv]) ∧ N pn ∧ H pn = some (.lst (e.1.map V.int)) ∧ N pv ∧ H pv = some (.lst (e.2.map V.int))
def TxN (N : Addr → Prop) (H : Hp) (as : List Addr) (rs : List (List Int)) : Prop := as.length = rs.length ∧ ∀ (j : Nat) (a : Addr) (r : List Int), as[j]? = some a → rs[j]? = some r → N a ∧ H a = some (.lst (r.map V.int))
def Kp (N : Addr → Prop) (H H' : Hp) : Prop := ∀ b o, N b → H b = some o → H' b = some o
theorem Kp.ex {N : Addr → Prop} {H H' : Hp} (e : Ex H H') : Kp N H H' := fun b o _ h => e b o h
theorem Kp.trans {N : Addr → Prop} {H H1 H2 : Hp} (h : Kp N H H1) (g : Kp N H1 H2) : Kp N H H2 := fun b o n e => g b o n (h b o n e)
theorem Kp.mut {N : Addr → Prop} {H H1 : Hp} {p : Addr} {o : HO} (h : Kp N H H1) (hp : N p → H p = none) : Kp N H (upd H1 p o) := fun b u n e => by
  have : b ≠ p := by rintro rfl; rw [hp n] at e; cases e
  rw [upd_ne this]
  exact h b u n e
theorem Kp.fr {N : Addr → Prop} {s : Addr} {H H' : Hp} (f : Fr s H H') (hs : ¬ N s) : Kp N H H' := fun b o n e => f.1 b o (by rintro rfl; exact hs n) e
theorem EnsN.kp {N : Addr → Prop} {H H' : Hp} {as : List Addr} {es : List En} (h : EnsN N H as es) (k : Kp N H H') : EnsN N H' as es := ⟨h.1, fun j a e h1 h2 => by
  obtain ⟨n0, pn, pv, g1, n1, g2, n2, g3⟩ := h.2 j a e h1 h2
  exact ⟨n0, pn, pv, k _ _ n0 g1, n1, k _ _ n1 g2, n2, k _ _ n2 g3⟩⟩
theorem EnsN.ex {N : Addr → Prop} {H H' : Hp} {as : List Addr} {es : List En} (h : EnsN N H as es) (e : Ex H H') : EnsN N H' as es := h.kp (Kp.ex e)
theorem EnsN.imp {N M : Addr → Prop} {H : Hp} {as : List Addr} {es : List En} (h : EnsN N H as es) (i : ∀ b, H b ≠ none → N b → M b) : EnsN M H as es := ⟨h.1, fun j a e h1 h2 => by
  obtain ⟨n0, pn, pv, g1, n1, g2, n2, g3⟩ := h.2 j a e h1 h2
  exact ⟨i _ (by rw [g1]; exact fun z => nomatch z) n0, pn, pv, g1, i _ (by rw [g2]; exact fun z => nomatch z) n1, g2, i _ (by rw [g3]; exact fun z => nomatch z) n2, g3⟩⟩
theorem TxN.kp {N : Addr → Prop} {H H' : Hp} {as : List Addr} {rs : List (List Int)} (h : TxN N H as rs) (k : Kp N H H') : TxN N H' as rs := ⟨h.1, fun j a r h1 h2 => ⟨(h.2 j a r h1 h2).1, k _ _ (h.2 j a r h1 h2).1 (h.2 j a r h1 h2).2⟩⟩
theorem TxN.ex {N : Addr → Prop} {H H' : Hp} {as : List Addr} {rs : List (List Int)} (h : TxN N H as rs) (e : Ex H H') : TxN N H' as rs := h.kp (Kp.ex e)
theorem TxN.imp {N M : Addr → Prop} {H : Hp} {as : List Addr} {rs : List (List Int)} (h : TxN N H as rs) (i : ∀ b, H b ≠ none → N b → M b) : TxN M H as rs := ⟨h.1, fun j a r h1 h2 => ⟨i _ (by rw [(h.2 j a r h1 h2).2]; exact fun z => nomatch z) (h.2 j a r h1 h2).1, (h.2 j a r h1 h2).2⟩⟩
theorem EnsN.nil {N : Addr → Prop} {H : Hp} : EnsN N H [] [] := ⟨rfl, fun j a e h _ => by cases h⟩
theorem TxN.nil {N : Addr → Prop} {H : Hp} : TxN N H [] [] := ⟨rfl, fun j a e h _ => by cases h⟩
theorem snoc_at {α β : Type} {as : List α} {es : List β} (hl : as.length = es.length) {a b : α} {e u : β} {j : Nat} (h1 : (as ++ [a])[j]? = some b) (h2 : (es ++ [e])[j]? = some u) : (as[j]? = some b ∧ es[j]? = some u) ∨ (b = a ∧ u = e) := by
  by_cases hj : j < as.length
  · rw [List.getElem?_append_left hj] at h1
    rw [List.getElem?_append_left (by rw [← hl]; exact hj)] at h2
    exact .inl ⟨h1, h2⟩
  · rw [List.getElem?_append_right (by omega)] at h1
    rw [List.getElem?_append_right (by rw [← hl]; omega), ← hl] at h2
    have hj0 := (List.getElem?_eq_some_iff.mp h1).1
    have : j - as.length = 0 := by simp at hj0; omega
    rw [this] at h1 h2
    cases h1
    cases h2
    exact .inr ⟨rfl, rfl⟩
theorem EnsN.snoc {N : Addr → Prop} {H : Hp} {as : List Addr} {es : List En} {a pn pv : Addr} {e : En} (h : EnsN N H as es) (n0 : N a) (g : H a = some (.tup [.ref pn, .ref pv])) (n1 : N pn) (g1 : H pn = some (.lst (e.1.map V.int))) (n2 : N pv) (g2 : H pv = some (.lst (e.2.map V.int))) : EnsN N H (as ++ [a]) (es ++ [e]) := ⟨by rw [List.length_append, List.length_append, h.1]; rfl, fun j b u h1 h2 => by
  rcases snoc_at h.1 h1 h2 with ⟨h1, h2⟩ | ⟨rfl, rfl⟩
  · exact h.2 j b u h1 h2
  · exact ⟨n0, pn, pv, g, n1, g1, n2, g2⟩⟩
theorem TxN.snoc {N : Addr → Prop} {H : Hp} {as : List Addr} {rs : List (List Int)} {a : Addr} {r : List Int} (h : TxN N H as rs) (n0 : N a) (g : H a = some (.lst (r.map V.int))) : TxN N H (as ++ [a]) (rs ++ [r]) := ⟨by rw [List.length_append, List.length_append, h.1]; rfl, fun j b u h1 h2 => by
  rcases snoc_at h.1 h1 h2 with ⟨h1, h2⟩ | ⟨rfl, rfl⟩
  · exact h.2 j b u h1 h2
  · exact ⟨n0, g⟩⟩
theorem EnsN.app {N : Addr → Prop} {H : Hp} {as bs : List Addr} {es fs : List En} (h : EnsN N H as es) (g : EnsN N H bs fs) : EnsN N H (as ++ bs) (es ++ fs) := ⟨by rw [List.length_append, List.length_append, h.1, g.1], fun j b u h1 h2 => by
  by_cases hj : j < as.length
  · rw [List.getElem?_append_left hj] at h1
    rw [List.getElem?_append_left (by rw [← h.1]; exact hj)] at h2
    exact h.2 j b u h1 h2
  · rw [List.getElem?_append_right (by omega)] at h1
    rw [List.getElem?_append_right (by rw [← h.1]; omega), ← h.1] at h2
    exact g.2 _ b u h1 h2⟩
theorem EnsN.take {N : Addr → Prop} {H : Hp} {as : List Addr} {es : List En} (h : EnsN N H as es) (k : Nat) : EnsN N H (as.take k) (es.take k) := ⟨by rw [List.length_take, List.length_take, h.1], fun j b u h1 h2 => by
  rw [List.getElem?_take] at h1 h2
  split at h1
  · rename_i hk
    rw [if_pos hk] at h2
    exact h.2 j b u h1 h2
  · cases h1⟩
theorem EnsN.drop {N : Addr → Prop} {H : Hp} {as : List Addr} {es : List En} (h : EnsN N H as es) (k : Nat) : EnsN N H (as.drop k) (es.drop k) := ⟨by rw [List.length_drop, List.length_drop, h.1], fun j b u h1 h2 => by
  rw [List.getElem?_drop] at h1 h2
  exact h.2 _ b u h1 h2⟩
theorem EnsN.get {N : Addr → Prop} {H : Hp} {as : List Addr} {es : List En} (h : EnsN N H as es) {i : Nat} {x : V} (hx : (as.map V.ref)[i]? = some x) : ∃ a e, as[i]? = some a ∧ es[i]? = some e ∧ x = .ref a ∧ i < es.length ∧ N a ∧ ∃ pn pv, H a = some (.tup [.ref pn, .ref pv]) ∧ N pn ∧ H pn = some (.lst (e.1.map V.int)) ∧ N pv ∧ H pv = some (.lst (e.2.map V.int)) := by
  rw [List.getElem?_map] at hx
  obtain ⟨a, h1, rfl⟩ := Option.map_eq_some_iff.mp hx
  have hi := (List.getElem?_eq_some_iff.mp h1).1
  have h2 : es[i]? = some (es[i]'(by have := h.1; omega)) := List.getElem?_eq_getElem _
  exact ⟨a, _, h1, h2, rfl, by have := h.1; omega, h.2 i a _ h1 h2⟩
theorem TxN.get {N : Addr → Prop} {H : Hp} {as : List Addr} {rs : List (List Int)} (h : TxN N H as rs) {i : Nat} {x : V} (hx : (as.map V.ref)[i]? = some x) : ∃ a r, as[i]? = some a ∧ rs[i]? = some r ∧ x = .ref a ∧ i < rs.length ∧ N a ∧ H a = some (.lst (r.map V.int)) := by
  rw [List.getElem?_map] at hx
  obtain ⟨a, h1, rfl⟩ := Option.map_eq_some_iff.mp hx
  have hi := (List.getElem?_eq_some_iff.mp h1).1
  have h2 : rs[i]? = some (rs[i]'(by have := h.1; omega)) := List.getElem?_eq_getElem _
  exact ⟨a, _, h1, h2, rfl, by have := h.1; omega, h.2 i a _ h1 h2⟩
theorem take_at {α : Type} {l : List α} {i : Nat} {x : α} (h : l[i]? = some x) : l.take (i + 1) = l.take i ++ [x] := by rw [List.take_add_one, h]; rfl
/-! as data -/
def enD (es : List En) : PyData := .list (es.map fun e => PyData.tuple [.list (e.1.map PyData.int), .list (e.2.map PyData.int)])
def txD (rs : List (List Int)) : PyData := .list (rs.map fun r => PyData.list (r.map PyData.int))
theorem dp_ens {N : Addr → Prop} {H : Hp} : ∀ {as : List Addr} {es : List En}, EnsN N H as es → DpAll K H (as.map V.ref) (es.map fun e => PyData.tuple [.list (e.1.map PyData.int), .list (e.2.map PyData.int)])
  | [], [], _ => .nil
  | a :: as, e :: es, h => by
    obtain ⟨_, pn, pv, g, _, g1, _, g2⟩ := h.2 0 a e rfl rfl
    exact .cons (.tup (st_of g) (.cons (.lst (sq_of g1) (dp_ints _)) (.cons (.lst (sq_of g2) (dp_ints _)) .nil))) (dp_ens ⟨by have := h.1; simpa using this, fun j b q h1 h2 => h.2 (j + 1) b q h1 h2⟩)
  | [], _ :: _, h => by have := h.1; simp at this
  | _ :: _, [], h => by have := h.1; simp at this
theorem dp_txs {N : Addr → Prop} {H : Hp} : ∀ {as : List Addr} {rs : List (List Int)}, TxN N H as rs → DpAll K H (as.map V.ref) (rs.map fun r => PyData.list (r.map PyData.int))
  | [], [], _ => .nil
  | a :: as, r :: rs, h => .cons (.lst (sq_of (h.2 0 a r rfl rfl).2) (dp_ints _)) (dp_txs ⟨by have := h.1; simpa using this, fun j b q h1 h2 => h.2 (j + 1) b q h1 h2⟩)
  | [], _ :: _, h => by have := h.1; simp at this
  | _ :: _, [], h => by have := h.1; simp at this
theorem lay_en : ∀ es : List En, PyData.canLayAll0 (es.map fun e => PyData.tuple [.list (e.1.map PyData.int), .list (e.2.map PyData.int)]) = true ∧ PyData.depthAll (es.map fun e => PyData.tuple [.list (e.1.map PyData.int), .list (e.2.map PyData.int)]) ≤ 3
  | [] => ⟨rfl, by simp [PyData.depthAll]⟩
  | e :: es => by
    obtain ⟨h1, h2⟩ := lay_en es
    have a1 := canLay_ints e.1
    have a2 := depth_ints e.1
    have b1 := canLay_ints e.2
    have b2 := depth_ints e.2
    refine ⟨by simp only [List.map_cons, PyData.canLayAll0, PyData.canLay0, h1, a1, b1, Bool.and_self], ?_⟩
    simp only [List.map_cons, PyData.depthAll, PyData.depth]
    omega
theorem lay_tx : ∀ rs : List (List Int), PyData.canLayAll0 (rs.map fun r => PyData.list (r.map PyData.int)) = true ∧ PyData.depthAll (rs.map fun r => PyData.list (r.map PyData.int)) ≤ 2
  | [] => ⟨rfl, by simp [PyData.depthAll]⟩
  | r :: rs => by
    obtain ⟨h1, h2⟩ := lay_tx rs
    have h3 := canLay_ints r
    have h4 := depth_ints r
    refine ⟨by simp only [List.map_cons, PyData.canLayAll0, PyData.canLay0, h1, h3, Bool.and_self], ?_⟩
    simp only [List.map_cons, PyData.depthAll, PyData.depth]
    omega
theorem shaped_en (es : List En) : SeqAt.shaped (enD es) = true := by
  obtain ⟨h1, h2⟩ := lay_en es
  unfold SeqAt.shaped enD
  rw [Bool.and_eq_true, decide_eq_true_iff]
  refine ⟨by simp only [PyData.canLay0, h1], ?_⟩
  simp only [PyData.depth]
  omega
theorem shaped_tx (rs : List (List Int)) : SeqAt.shaped (txD rs) = true := by
  obtain ⟨h1, h2⟩ := lay_tx rs
  unfold SeqAt.shaped txD
  rw [Bool.and_eq_true, decide_eq_true_iff]
  refine ⟨by simp only [PyData.canLay0, h1], ?_⟩
  simp only [PyData.depth]
  omega
theorem ed_ens {N : Addr → Prop} {te : TE} {σ : L2.St} {H : Hp} {p : Addr} {as : List Addr} {es : List En} (h : Ev te σ H (.ref p)) (g : H p = some (.lst (as.map V.ref))) (hE : EnsN N H as es) : EvD K te σ H (enD es) := EvD.of h (.lst (sq_of g) (dp_ens hE))
theorem ed_txs {N : Addr → Prop} {te : TE} {σ : L2.St} {H : Hp} {p : Addr} {as : List Addr} {rs : List (List Int)} (h : Ev te σ H (.ref p)) (g : H p = some (.lst (as.map V.ref))) (hE : TxN N H as rs) : EvD K te σ H (txD rs) := EvD.of h (.lst (sq_of g) (dp_txs hE))
/-- a comprehension over a list, with tests, each item whatever its reading says -/
theorem tlc_lstF {t1 te : TE} {tt : TT} {g : TG} {vs : List Nat} {xs : List V} {σ : L2.St} {H : Hp} {Q : VK} (h : EvS K t1 σ H xs)
    (k : ∀ p H1, Ex H H1 → SqL K H1 p xs → ∀ Dl, H1 Dl = none → ∃ Pv : Nat → Hp → Prop, Pv 0 (upd H1 Dl (.lst [])) ∧ (∀ (i : Nat) H', Pv i H' → SqL K H' p xs) ∧ (∀ (i : Nat) (x : V) H', xs[i]? = some x → Pv i H' → g x (wipe σ vs) H' fun σ2 H2 => wipe σ2 vs = wipe σ vs ∧ tt σ2 H2 fun b H3 => if b = true then te σ2 H3 fun y H4 => ∃ acc, H4 Dl = some (.lst acc) ∧ acc.length < sizeLine ∧ Pv (i + 1) (upd H4 Dl (.lst (acc ++ [y]))) else Pv (i + 1) H3) ∧ (∀ H', Pv xs.length H' → Q (.ref Dl) H')) :
    tLc (iList K t1) g tt te vs σ H Q := h H (Ex.refl H) _ fun p H1 e1 hp => ⟨p, rfl, ⟨xs, hp⟩, fun Dl hD => by
  obtain ⟨Pv, h0, hl, hs, hd⟩ := k p H1 e1 hp Dl hD
  exact lc_list Pv h0 (fun i H' _ q => hl i H' q) (fun i x H' hi q => hs i x H' hi q) hd⟩
theorem tlc_lstG {t1 te : TE} {g : TG} {vs : List Nat} {xs : List V} {σ : L2.St} {H : Hp} {Q : VK} (h : EvS K t1 σ H xs)
    (k : ∀ p H1, Ex H H1 → SqL K H1 p xs → ∀ Dl, H1 Dl = none → ∃ Pv : Nat → Hp → Prop, Pv 0 (upd H1 Dl (.lst [])) ∧ (∀ (i : Nat) H', Pv i H' → SqL K H' p xs) ∧ (∀ (i : Nat) (x : V) H', xs[i]? = some x → Pv i H' → g x (wipe σ vs) H' fun σ2 H2 => wipe σ2 vs = wipe σ vs ∧ te σ2 H2 fun y H4 => ∃ acc, H4 Dl = some (.lst acc) ∧ acc.length < sizeLine ∧ Pv (i + 1) (upd H4 Dl (.lst (acc ++ [y])))) ∧ (∀ H', Pv xs.length H' → Q (.ref Dl) H')) :
    tLc (iList K t1) g tYes te vs σ H Q := tlc_lstF h k
theorem ne_known {H : Hp} {a b : Addr} (ha : H a = none) (hb : H b ≠ none) : a ≠ b := by rintro rfl; exact hb ha

-- K52B
theorem ex_go {te : TE} {σ : L2.St} {H : Hp} {S : V → Hp → Prop} {Q : VK} (h : EvX te σ H S) (k : ∀ v H2, Ex H H2 → S v H2 → Q v H2) : te σ H Q := h H (Ex.refl H) Q k
theorem ex_tupF {t : TA} {σ : L2.St} {H : Hp} {R : List V → Hp → Prop} (h : EvAP t σ H R) (hl : ∀ vs G, R vs G → vs.length ≤ 100000) : EvX (tTup t) σ H (fun v G => ∃ p vs G0, v = .ref p ∧ H p = none ∧ G p = some (.tup vs) ∧ Ex G0 G ∧ R vs G0) := fun H1 e Q q => h H1 e _ fun vs H2 e2 hR => ⟨sz_of (hl vs H2 hR), fun p hp => q (.ref p) _ (e2.trans (Ex.new hp)) ⟨p, vs, H2, rfl, fresh_back (e.trans e2) hp, upd_same, Ex.new hp, hR⟩⟩

/-! ### names compared -/
theorem upS_len (ns : List Int) : (upS ns).length = ns.length := List.length_map ..
def sp_up (K : PySem.W.Frag) : Sp := fun vs H Q _ => ∃ (a : Addr) (ns : List Int), vs = [.ref a] ∧ SqL K H a (ns.map V.int) ∧ ns.length ≤ 10000 ∧ RetL ((upS ns).map V.int) H Q
theorem ok_upper_case (T : TX K mg) : FnOk P w K mg base CX0 1 T.a_upper_case T.d_upper_case ["name"] (sp_up K) := by
  refine T.F_upper_case.ok sc_upper_case (fun vs H Q E h => by obtain ⟨a, ns, rfl, _⟩ := h; rfl) (fun cdv A outer s H vs Q E hr h => ?_)
  obtain ⟨a, ns, rfl, hS, hl, k⟩ := h
  refine ⟨_, (pss_one (ps_ret (pe_lc (own := [("point", 1)]) (g := gName 1) (tt := tYes) rfl sc_upper_case.nd (pi_list (pv 0)) (blkOk_by (N := ["name", "point"]) (sc := defScope s_upper_case) (by decide +kernel)) (fun _ _ _ _ _ => pg_name (i := 1) sc_upper_case.nd rfl (Or.inl rfl)) (fun _ _ _ _ _ => pts_nil) (fun _ _ _ _ _ => (pe_ifExp (pt_chain op_le op_le pe_int (pv 1) pe_int) (pe_op op_sub (pv 1) pe_int) (pv 1)))))), ?_⟩
  refine s_retL (el_lcS (K := K) ((upS ns).map V.int) (Ev.s (ev_var rfl) hS) (by rw [List.length_map, List.length_map, upS_len]) (by rw [List.length_map, upS_len]; omega) (fun _ => rfl) fun i x G eG hx => ?_) k
  obtain ⟨p, hp, hi, rfl⟩ := int_at hx
  refine ⟨.int (upI p), at_int (by unfold upS; rw [List.getElem?_map, hp]; rfl), ?_⟩
  refine ev_if (et_test (ev_chain (g := fun i j => decide (i ≤ j)) (g' := fun i j => decide (i ≤ j)) ev_c (ev_var rfl) ev_c)) (fun h => Ev.is (ev_I0 (g := fun i j => .int (i - j)) (ev_var rfl) ev_c) (congrArg V.int ?_)) (fun h => Ev.is (ev_var rfl) (congrArg V.int ?_))
  · rw [Bool.and_eq_true, decide_eq_true_eq, decide_eq_true_eq] at h
    unfold upI
    rw [if_pos h]
  · unfold upI
    rw [if_neg]
    rintro ⟨h1, h2⟩
    rw [decide_eq_true h1, decide_eq_true h2] at h
    cases h
theorem ok_law_upper (T : TX K mg) : FnOk P w K mg base CX0 1 T.a_law_upper T.d_law_upper ["name"] (sp_up K) := by
  refine T.F_law_upper.ok sc_law_upper (fun vs H Q E h => by obtain ⟨a, ns, rfl, _⟩ := h; rfl) (fun cdv A outer s H vs Q E hr h => ?_)
  obtain ⟨a, ns, rfl, hS, hl, k⟩ := h
  refine ⟨_, (pss_one (ps_ret (pe_lc (own := [("point", 1)]) (g := gName 1) (tt := tYes) rfl sc_law_upper.nd (pi_list (pv 0)) (blkOk_by (N := ["name", "point"]) (sc := defScope s_law_upper) (by decide +kernel)) (fun _ _ _ _ _ => pg_name (i := 1) sc_law_upper.nd rfl (Or.inl rfl)) (fun _ _ _ _ _ => pts_nil) (fun _ _ _ _ _ => (pe_op op_sub (pv 1) (pe_op op_mul pe_int (pe_callTy call_int1 (by rfl) T.m_int PyProof.Rows.boot_int (pa_cons (pe_chain op_le op_le pe_int (pv 1) pe_int) pa_nil)))))))), ?_⟩
  refine s_retL (el_lcS (K := K) ((upS ns).map V.int) (Ev.s (ev_var rfl) hS) (by rw [List.length_map, List.length_map, upS_len]) (by rw [List.length_map, upS_len]; omega) (fun _ => rfl) fun i x G eG hx => ?_) k
  obtain ⟨p, hp, hi, rfl⟩ := int_at hx
  refine ⟨.int (upI p), at_int (by unfold upS; rw [List.getElem?_map, hp]; rfl), ?_⟩
  refine Ev.is (ev_I0 (g := fun i j => .int (i - j)) (ev_var rfl) (ev_I (j := if (decide (97 ≤ p) && decide (p ≤ 122)) = true then 1 else 0) ev_c (ev_cb (ea_cons (ev_chain (g := fun i j => decide (i ≤ j)) (g' := fun i j => decide (i ≤ j)) ev_c (ev_var rfl) ev_c) ea_nil) fun H1 e Q q => .inr ⟨_, rfl, q H1 (Ex.refl _)⟩) (.inl (by decide)))) (congrArg V.int ?_)
  unfold upI
  by_cases h : 97 ≤ p ∧ p ≤ 122
  · rw [if_pos h, if_pos (by rw [decide_eq_true h.1, decide_eq_true h.2]; rfl)]
    rfl
  · rw [if_neg h, if_neg (by rw [Bool.and_eq_true, decide_eq_true_eq, decide_eq_true_eq]; exact h), Int.mul_zero, Int.sub_zero]
theorem es_up {te : TE} {σ : L2.St} {H : Hp} {E : XK} {ns : List Int} (h : EvS K te σ H (ns.map V.int)) (hl : ns.length ≤ 10000) : EvS K (tCall (sp_up K) [] E (tCons te tNil)) σ H ((upS ns).map V.int) := fun H1 e Q q =>
  h H1 e _ fun p H2 e2 hp => ⟨p, ns, rfl, hp, hl, fun r H3 _ e3 g => q r H3 (e2.trans e3) (sq_of g)⟩
def sp_match (K : PySem.W.Frag) : Sp := fun vs H Q _ => ∃ (a b : Addr) (ns ms : List Int), vs = [.ref a, .ref b] ∧ SqL K H a (ns.map V.int) ∧ SqL K H b (ms.map V.int) ∧ ns.length ≤ 10000 ∧ ms.length ≤ 10000 ∧ RetV (.bl (mt ns ms)) H Q
theorem ok_match (T : TX K mg) : FnOk P w K mg base CX0 2 T.a_match T.d_match ["name", "other"] (sp_match K) := by
  refine T.F_match.ok sc_match (fun vs H Q E h => by obtain ⟨a, b, ns, ms, rfl, _⟩ := h; rfl) (fun cdv A outer s H vs Q E hr h => ?_)
  obtain ⟨a, b, ns, ms, rfl, hS, hS2, hl, hl2, k⟩ := h
  refine ⟨_, (pss_one (ps_ret (pe_cmpR (op_eqD (hu64 hr)) (pe_call (ok_upper_case T) (hr.mono (by decide)) (by rfl) T.g_upper_case T.F_upper_case.kp T.b_upper_case .nil pass0 (pa_cons (pv 0) pa_nil)) (pe_call (ok_upper_case T) (hr.mono (by decide)) (by rfl) T.g_upper_case T.F_upper_case.kp T.b_upper_case .nil pass0 (pa_cons (pv 1) pa_nil)) (nomark _)))), ?_⟩
  exact s_ret (ev_eqI (K := K) (es_up (Ev.s (ev_var rfl) hS) hl) (es_up (Ev.s (ev_var rfl) hS2) hl2)) fun H1 e1 => k.go e1
theorem ev_match {t1 t2 : TE} {σ : L2.St} {H : Hp} {E : XK} {ns ms : List Int} (h : EvS K t1 σ H (ns.map V.int)) (h2 : EvS K t2 σ H (ms.map V.int)) (hl : ns.length ≤ 10000) (hl2 : ms.length ≤ 10000) : Ev (tCall (sp_match K) [] E (tCons t1 (tCons t2 tNil))) σ H (.bl (mt ns ms)) := fun H1 e Q q =>
  h H1 e _ fun p H2 e2 hp => h2 H2 (e.trans e2) _ fun r H3 e3 hr => ⟨p, r, ns, ms, rfl, ex_l e3 hp, hr, hl, hl2, fun H4 e4 => q H4 ((e2.trans e3).trans e4)⟩

/-! ### comments -/
def fsC (x0 x1 : V) : List (Str × V) := [("vendor", x0), ("entries", x1)]
def CmN (N : Addr → Prop) (C : Addr) (H : Hp) (c : Addr) (vd : List Int) (es : List En) : Prop := ∃ (dx pv pe : Addr) (as : List Addr), N c ∧ H c = some (.ins C dx (fsC (.ref pv) (.ref pe))) ∧ N pv ∧ H pv = some (.lst (vd.map V.int)) ∧ N pe ∧ H pe = some (.lst (as.map V.ref)) ∧ EnsN N H as es
theorem CmN.kp {N : Addr → Prop} {C : Addr} {H H' : Hp} {c : Addr} {vd : List Int} {es : List En} (h : CmN N C H c vd es) (k : Kp N H H') : CmN N C H' c vd es := by
  obtain ⟨dx, pv, pe, as, n0, g0, n1, g1, n2, g2, hE⟩ := h
  exact ⟨dx, pv, pe, as, n0, k _ _ n0 g0, n1, k _ _ n1 g1, n2, k _ _ n2 g2, hE.kp k⟩
theorem CmN.ex {N : Addr → Prop} {C : Addr} {H H' : Hp} {c : Addr} {vd : List Int} {es : List En} (h : CmN N C H c vd es) (e : Ex H H') : CmN N C H' c vd es := h.kp (Kp.ex e)
theorem CmN.imp {N M : Addr → Prop} {C : Addr} {H : Hp} {c : Addr} {vd : List Int} {es : List En} (h : CmN N C H c vd es) (i : ∀ b, H b ≠ none → N b → M b) : CmN M C H c vd es := by
  obtain ⟨dx, pv, pe, as, n0, g0, n1, g1, n2, g2, hE⟩ := h
  exact ⟨dx, pv, pe, as, i _ (by rw [g0]; exact fun z => nomatch z) n0, g0, i _ (by rw [g1]; exact fun z => nomatch z) n1, g1, i _ (by rw [g2]; exact fun z => nomatch z) n2, g2, hE.imp i⟩
theorem EnsN.fro {H H' : Hp} {a C dx : Addr} {fs : List (Str × V)} {as : List Addr} {es : List En} (h : EnsN (fun _ => True) H as es) (ha : H a = some (.ins C dx fs)) (f : FrO a H H') : EnsN (fun _ => True) H' as es := ⟨h.1, fun j b e h1 h2 => by
  obtain ⟨n0, pn, pv, g1, n1, g2, n2, g3⟩ := h.2 j b e h1 h2
  exact ⟨n0, pn, pv, f _ _ (by rintro rfl; rw [ha] at g1; cases g1) g1, n1, f _ _ (by rintro rfl; rw [ha] at g2; cases g2) g2, n2, f _ _ (by rintro rfl; rw [ha] at g3; cases g3) g3⟩⟩
theorem s_fldX {σ : L2.St} {H : Hp} {to tv : TE} {a C dx : Addr} {fs : List (Str × V)} {f : Str} {D : Ends} {S : V → Hp → Prop} (c : Cls K C) (hn : NoAttr K C f) (hv : EvX tv σ H S) (hu : Up S) (h : ∀ H1, Ex H H1 → Ev to σ H1 (.ref a)) (hx : H a = some (.ins C dx fs)) (hl : fs.length < 1000)
    (k : ∀ v H1, Ex H H1 → S v H1 → D.nx σ (upd H1 a (.ins C dx (putF f v fs)))) : sFld K to tv f D σ H :=
  hv H (Ex.refl H) _ fun v H1 e1 hS => h H1 e1 H1 (Ex.refl H1) _ fun H2 e2 => ⟨a, C, dx, fs, rfl, (e1.trans e2) _ _ hx, c, hn, hl, k v H2 (e1.trans e2) (hu _ _ _ e2 hS)⟩
def sp_cinit (C : Addr) : Sp := fun vs H Q _ => ∃ (a dx v l : Addr) (as : List Addr) (vd : List Int) (es : List En), vs = [.ref a, .ref v, .ref l] ∧ H a = some (.ins C dx []) ∧ H v = some (.lst (vd.map V.int)) ∧ H l = some (.lst (as.map V.ref)) ∧ EnsN (fun _ => True) H as es ∧ es.length ≤ 1000 ∧
  ∀ H', FrO a H H' → (∃ (pv pe : Addr) (as' : List Addr), H' a = some (.ins C dx (fsC (.ref pv) (.ref pe))) ∧ H pv = none ∧ H' pv = some (.lst (vd.map V.int)) ∧ H pe = none ∧ H' pe = some (.lst (as'.map V.ref)) ∧ EnsN (fun b => H b = none) H' as' es) → Q .non H'
theorem ok_Comments_init (T : TX K mg) : FnOk P w K mg base CX0 1 T.a_Comments_init T.d_Comments_init ["self", "vendor", "entries"] (sp_cinit T.C_Comments) := by
  refine T.F_Comments_init.ok sc_Comments_init (fun vs H Q E h => by obtain ⟨a, dx, v, l, as, vd, es, rfl, _⟩ := h; rfl) (fun cdv A outer s H vs Q E hr h => ?_)
  obtain ⟨a, dx, v, l, as, vd, es, rfl, ha, gv, gl, hE, hel, k⟩ := h
  refine ⟨_, (pss_cons (ps_fld (pv 0) (pe_callTy (r := rListS K) call_list_of (by rfl) T.m_list PyProof.Rows.boot_list (pa_cons (pv 1) pa_nil)) rfl)
      (pss_one (ps_fld (pv 0) (pe_lc (own := [("name", 3), ("value", 4)]) (g := (gTup K 2 (gCons (gName 3) (gCons (gName 4) gNil)))) (tt := tYes) rfl sc_Comments_init.nd (pi_list (pv 2)) (blkOk_by (N := ["self", "vendor", "entries", "name", "value"]) (sc := defScope s_Comments_init) (by decide +kernel)) (fun _ _ _ _ _ => (pg_tup rfl (pgs_cons (pg_name (i := 3) sc_Comments_init.nd rfl (Or.inl rfl)) (pgs_cons (pg_name (i := 4) sc_Comments_init.nd rfl (Or.inl rfl)) pgs_nil)))) (fun _ _ _ _ _ => pts_nil) (fun _ _ _ _ _ => (pe_tup (pa_cons (pe_callTy (r := rListS K) call_list_of (by rfl) T.m_list PyProof.Rows.boot_list (pa_cons (pv 3) pa_nil)) (pa_cons (pe_callTy (r := rListS K) call_list_of (by rfl) T.m_list PyProof.Rows.boot_list (pa_cons (pv 4) pa_nil)) pa_nil))))) rfl))), ?_⟩
  refine q_fldL T.cl_Comments T.n_Comments_vendor (el_of (K := K) (Ev.s (ev_var rfl) (sq_of gv))) (fun _ _ => ev_var rfl) ha (by decide) fun pv H1 hpv e1 g1 => ?_
  have hpva : pv ≠ a := by rintro rfl; rw [ha] at hpv; cases hpv
  have f1 : FrO a H (upd H1 a (.ins T.C_Comments dx (putF "vendor" (.ref pv) []))) := (FrO.ex e1).upd
  have ga : upd H1 a (.ins T.C_Comments dx (putF "vendor" (.ref pv) [])) a = some (.ins T.C_Comments dx (putF "vendor" (.ref pv) [])) := upd_same
  have gpv : upd H1 a (.ins T.C_Comments dx (putF "vendor" (.ref pv) [])) pv = some (.lst (vd.map V.int)) := by rw [upd_ne hpva]; exact g1
  generalize upd H1 a (.ins T.C_Comments dx (putF "vendor" (.ref pv) [])) = H2 at *
  have gl2 := f1 _ _ (by rintro rfl; rw [ha] at gl; cases gl) gl
  have hE2 := hE.fro ha f1
  have back : ∀ b, H2 b = none → H b = none := fun b hb => by
    cases h : H b with
    | none => rfl
    | some o =>
      by_cases hba : b = a
      · rw [hba, ga] at hb; cases hb
      · rw [f1 b o hba h] at hb; cases hb
  refine s_fldX (S := fun v G => ∃ (p : Addr) (as' : List Addr), v = .ref p ∧ H2 p = none ∧ G p = some (.lst (as'.map V.ref)) ∧ EnsN (fun b => H2 b = none) G as' es) T.cl_Comments T.n_Comments_entries (fun G0 eG0 Q0 q0 => ?_) (fun v G G' e ⟨p, as', h1, h2, h3, h4⟩ => ⟨p, as', h1, h2, e _ _ h3, h4.ex e⟩) (fun _ _ => ev_var rfl) ga (Nat.le_of_ble_eq_true rfl) fun v H3 e3 hS => ?_
  · refine tlc_lstG (K := K) (Ev.s (ev_var rfl) (sq_of (eG0 _ _ gl2))) fun p1 H3 e3 hp1 Dl hDl => ⟨fun i H' => ∃ as', Ex H3 H' ∧ H' Dl = some (.lst (as'.map V.ref)) ∧ EnsN (fun b => H3 b = none ∧ b ≠ Dl) H' as' (es.take i), ⟨[], Ex.new hDl, upd_same, EnsN.nil⟩, fun i H' h => by obtain ⟨_, ex, _⟩ := h; exact ex_l ex hp1, fun i x H' hx h => ?_, fun H' h => ?_⟩
    · obtain ⟨as', ex, gD, hEp⟩ := h
      obtain ⟨ai, e, hai, hei, rfl, hi, _, pn, pw, g0, _, g1', _, g2'⟩ := (hE2.ex (eG0.trans (e3.trans ex))).get hx
      refine ⟨ai, [.ref pn, .ref pw], rfl, st_of g0, rfl, _, _, rfl, _, _, rfl, rfl, rfl, ?_⟩
      refine ex_go (te := tTup (tCons (tCB (rListS K) (tCons (tVar 3) tNil)) (tCons (tCB (rListS K) (tCons (tVar 4) tNil)) tNil))) (σ := [some (.ref a), some (.ref v), some (.ref l), some (.ref pn), some (.ref pw)]) (H := H') (ex_tupF (ap_l (el_of (K := K) (Ev.s (ev_var rfl) (sq_of g1'))) (ap_l (el_of (K := K) (Ev.s (ev_var rfl) (sq_of g2'))) ap_nil)) (fun vs G hR => by obtain ⟨_, _, rfl, _, _, _, _, rfl, _, _, rfl⟩ := hR; exact Nat.le_of_ble_eq_true rfl)) fun v H5 e5 hv => ?_
      obtain ⟨pt, vs, G5, rfl, hpt, gpt, eG5, q1, _, rfl, hq1, gq1, q2, _, rfl, hq2, gq2, rfl⟩ := hv
      have neD : ∀ {b : Addr}, H' b = none → b ≠ Dl := fun hb => ne_known hb (by rw [gD]; exact fun z => nomatch z)
      have kp : Kp (fun b => H3 b = none ∧ b ≠ Dl) H' (upd H5 Dl (.lst (as'.map V.ref ++ [.ref pt]))) := (Kp.ex e5).mut fun h => absurd rfl h.2
      refine ⟨_, e5 _ _ gD, sz_lt (by rw [List.length_map, hEp.1, List.length_take]; omega), as' ++ [pt], Ex.mut (ex.trans e5) hDl, by rw [upd_same, List.map_append]; rfl, ?_⟩
      rw [take_at hei]
      exact (hEp.kp kp).snoc ⟨fresh_back ex hpt, neD hpt⟩ (by rw [upd_ne (neD hpt)]; exact gpt) ⟨fresh_back ex hq1, neD hq1⟩ (by rw [upd_ne (neD hq1)]; exact eG5 _ _ gq1) ⟨fresh_back ex hq2, neD hq2⟩ (by rw [upd_ne (neD hq2)]; exact eG5 _ _ gq2)
    · obtain ⟨as', ex, gD, hEp⟩ := h
      rw [List.length_map, hE.1, List.take_length] at hEp
      exact q0 _ _ (e3.trans ex) ⟨Dl, as', rfl, fresh_back (eG0.trans e3) hDl, gD, hEp.imp fun b _ h => fresh_back (eG0.trans e3) h.1⟩
  · obtain ⟨pe, as', rfl, hpe, gpe, hE'⟩ := hS
    have hpea : pe ≠ a := ne_known hpe (by rw [ga]; exact fun z => nomatch z)
    have kp : Kp (fun b => H2 b = none) H3 (upd H3 a (.ins T.C_Comments dx (putF "entries" (.ref pe) (putF "vendor" (.ref pv) [])))) := fun b o n g => by
      rw [upd_ne (ne_known n (by rw [ga]; exact fun z => nomatch z))]
      exact g
    refine k _ ((f1.trans (FrO.ex e3)).upd) ⟨pv, pe, as', upd_same, hpv, ?_, back _ hpe, ?_, (hE'.kp kp).imp fun b _ h => back b h⟩
    · rw [upd_ne hpva]
      exact e3 _ _ gpv
    · rw [upd_ne hpea]
      exact gpe
theorem en_makeAPF {t : TA} {σ : L2.St} {H : Hp} {R : List V → Hp → Prop} {C : Addr} {sp : Sp} {dvs : List V} {E : XK} {S : Addr → Hp → Prop} (h : EvAP t σ H R) (k : ∀ vs a dx H1 (Q : VK) (E : XK), Ex H H1 → H a = none → (∃ G, Ex G H1 ∧ R vs G) → H1 a = some (.ins C dx []) → (∀ H', FrO a H1 H' → S a H' → Q .non H') → sp (.ref a :: (vs ++ dvs)) H1 Q E) : EvN (tMake C sp dvs E t) σ H S := fun H1 e Q q =>
  h H1 e _ fun vs H2 e2 hR => fun x dx hx hdx hne => k vs x dx _ _ _ ((e.trans e2).trans (Ex.mut (Ex.new hdx) hx)) (fresh_back (e.trans e2) hx) ⟨H2, Ex.mut (Ex.new hdx) hx, hR⟩ upd_same fun H' hF hS => ⟨rfl, q x H' (fresh_back e2 hx) (fun b o hb => hF b o (fresh_ne hx (e2 b o hb)) ((Ex.mut (Ex.new hdx) hx) b o (e2 b o hb))) hS⟩
def EsAt (es : List En) : V → Hp → Prop := fun v G => ∃ (l : Addr) (as : List Addr), v = .ref l ∧ G l = some (.lst (as.map V.ref)) ∧ EnsN (fun _ => True) G as es
theorem EsAt.up (es : List En) : Up (EsAt es) := fun v G G' e ⟨l, as, h1, h2, h3⟩ => ⟨l, as, h1, e _ _ h2, h3.ex e⟩
theorem en_cm (T : TX K mg) {σ : L2.St} {H : Hp} {t1 t2 : TE} {E : XK} {v : Addr} {vd : List Int} {es : List En} (h1 : Ev t1 σ H (.ref v)) (gv : H v = some (.lst (vd.map V.int))) (h2 : EvX t2 σ H (EsAt es)) (hl : es.length ≤ 1000) : EvN (tMake T.C_Comments (sp_cinit T.C_Comments) [] E (tCons t1 (tCons t2 tNil))) σ H (fun c G => CmN (fun b => H b = none) T.C_Comments G c vd es) :=
  en_makeAPF (ap_ev h1 (ap_x h2 (EsAt.up es) ap_nil)) fun vs a dx H1 Q E eH ha0 hG ha kk => by
    obtain ⟨G, eG, r1, rfl, v2, r2, rfl, hS, rfl⟩ := hG
    obtain ⟨l, as, rfl, gl, hE⟩ := EsAt.up es _ _ _ eG hS
    exact ⟨a, dx, v, l, as, vd, es, rfl, ha, eH _ _ gv, gl, hE, hl, fun H' hF ⟨pv, pe, as', g0, n1, g1, n2, g2, hE'⟩ => kk H' hF ⟨dx, pv, pe, as', ha0, g0, fresh_back eH n1, g1, fresh_back eH n2, g2, hE'.imp fun b _ h => fresh_back eH h⟩⟩
theorem cm_get {C : Addr} {H : Hp} {c : Addr} {vd : List Int} {es : List En} {N : Addr → Prop} (h : CmN N C H c vd es) : ∃ (dx pv pe : Addr) (as : List Addr), H c = some (.ins C dx (fsC (.ref pv) (.ref pe))) ∧ H pv = some (.lst (vd.map V.int)) ∧ H pe = some (.lst (as.map V.ref)) ∧ EnsN (fun _ => True) H as es := by
  obtain ⟨dx, pv, pe, as, _, g0, _, g1, _, g2, hE⟩ := h
  exact ⟨dx, pv, pe, as, g0, g1, g2, hE.imp fun _ _ _ => trivial⟩


-- K52C
theorem valsO_snoc (es : List En) (e : En) (nm : List Int) : valsO (es ++ [e]) nm = if mt e.1 nm = true then valsO es nm ++ [e.2] else valsO es nm := by
  unfold valsO hitE
  rw [List.filter_append, List.map_append]
  by_cases h : mt e.1 nm = true
  · rw [if_pos h, List.filter_cons_of_pos (by simp [h]), List.filter_nil]
    rfl
  · rw [if_neg h, List.filter_cons_of_neg (by simp [h]), List.filter_nil, List.map_nil, List.append_nil]
theorem valsO_len (es : List En) (nm : List Int) : (valsO es nm).length ≤ es.length := by
  unfold valsO hitE
  rw [List.length_map]
  exact List.length_filter_le ..
theorem missE_len (es : List En) (nm : List Int) : (missE nm es).length ≤ es.length := List.length_filter_le ..
def EnB (es : List En) : Prop := es.length ≤ 100 ∧ ∀ e ∈ es, e.1.length ≤ 100
def sp_vals (C : Addr) : Sp := fun vs H Q _ => ∃ (c n : Addr) (vd nm : List Int) (es : List En), vs = [.ref c, .ref n] ∧ CmN (fun _ => True) C H c vd es ∧ H n = some (.lst (nm.map V.int)) ∧ EnB es ∧ nm.length ≤ 100 ∧ ∀ p (as : List Addr) H', H p = none → Ex H H' → H' p = some (.lst (as.map V.ref)) → TxN (fun b => H b = none ∧ b ≠ p) H' as (valsO es nm) → Q (.ref p) H'
theorem ok_Comments_values_of (T : TX K mg) : FnOk P w K mg base CX0 3 T.a_Comments_values_of T.d_Comments_values_of ["self", "name"] (sp_vals T.C_Comments) := by
  refine T.F_Comments_values_of.ok sc_Comments_values_of (fun vs H Q E h => by obtain ⟨c, n, vd, nm, es, rfl, _⟩ := h; rfl) (fun cdv A outer s H vs Q E hr h => ?_)
  obtain ⟨c, n, vd, nm, es, rfl, hC, gn, hB, hnl, k⟩ := h
  refine ⟨_, (pss_one (ps_ret (pe_lc (own := [("own_name", 2), ("value", 3)]) (g := (gTup K 2 (gCons (gName 2) (gCons (gName 3) gNil))))  rfl sc_Comments_values_of.nd (pi_list (pe_fld (pv 0) rfl)) (blkOk_by (N := ["self", "name", "own_name", "value"]) (sc := defScope s_Comments_values_of) (by decide +kernel)) (fun _ _ _ _ _ => (pg_tup rfl (pgs_cons (pg_name (i := 2) sc_Comments_values_of.nd rfl (Or.inl rfl)) (pgs_cons (pg_name (i := 3) sc_Comments_values_of.nd rfl (Or.inl rfl)) pgs_nil)))) (fun _ _ _ _ _ => pts_one (pt_val (pe_call (ok_match T) (hr.mono (by decide)) (by rfl) T.g_match T.F_match.kp T.b_match .nil pass0 (pa_cons (pv 2) (pa_cons (pv 1) pa_nil))))) (fun _ _ _ _ _ => (pe_callTy (r := rListS K) call_list_of (by rfl) T.m_list PyProof.Rows.boot_list (pa_cons (pv 3) pa_nil)))))), ?_⟩
  obtain ⟨dx, pv, pe, as, gc, gv, ge, hE⟩ := cm_get hC
  refine tlc_lstF (K := K) (Ev.s (ev_fld T.cl_Comments T.n_Comments_entries (ev_var rfl) gc rfl) (sq_of ge)) fun p1 H3 e3 hp1 Dl hDl => ⟨fun i H' => ∃ as' : List Addr, Ex H3 H' ∧ H' Dl = some (.lst (as'.map V.ref)) ∧ TxN (fun b => H3 b = none ∧ b ≠ Dl) H' as' (valsO (es.take i) nm), ⟨[], Ex.new hDl, upd_same, TxN.nil⟩, fun i H' h => by obtain ⟨_, ex, _⟩ := h; exact ex_l ex hp1, fun i x H' hx h => ?_, fun H' h => ?_⟩
  · obtain ⟨as', ex, gD, hEp⟩ := h
    obtain ⟨ai, e, hai, hei, rfl, hi, _, pn, pw, g0, _, g1', _, g2'⟩ := (hE.ex (e3.trans ex)).get hx
    have hel := hB.2 e (List.mem_of_getElem? hei)
    refine ⟨ai, [.ref pn, .ref pw], rfl, st_of g0, rfl, _, _, rfl, _, _, rfl, rfl, rfl, ?_⟩
    refine et_go (σ := [some (.ref c), some (.ref n), some (.ref pn), some (.ref pw)]) (et_B (ev_match (ns := e.1) (ms := nm) (Ev.s (ev_var (i := 2) rfl) (sq_of g1')) (Ev.s (ev_var (i := 1) rfl) (sq_of ((e3.trans ex) _ _ gn))) (by omega) (by omega))) fun H4 e4 => ?_
    have hsn := valsO_snoc (es.take i) e nm
    rw [← take_at hei] at hsn
    by_cases hm : mt e.1 nm = true
    · rw [if_pos hm] at hsn ⊢
      refine el_go (te := tCB (rListS K) (tCons (tVar 3) tNil)) (σ := [some (.ref c), some (.ref n), some (.ref pn), some (.ref pw)]) (el_of (K := K) (Ev.s (ev_var rfl) (sq_of (e4 _ _ g2')))) fun p2 H5 hp2 e5 gp2 => ?_
      have e45 := e4.trans e5
      have neD : p2 ≠ Dl := ne_known hp2 (by rw [e4 _ _ gD]; exact fun z => nomatch z)
      refine ⟨_, e45 _ _ gD, sz_lt (by rw [List.length_map, hEp.1]; have := valsO_len (es.take i) nm; rw [List.length_take] at this; have := hB.1; omega), as' ++ [p2], Ex.mut (ex.trans e45) hDl, by rw [upd_same, List.map_append]; rfl, ?_⟩
      rw [hsn]
      exact (hEp.kp ((Kp.ex e45).mut fun h => absurd rfl h.2)).snoc ⟨fresh_back (ex.trans e4) hp2, neD⟩ (by rw [upd_ne neD]; exact gp2)
    · rw [if_neg hm] at hsn ⊢
      exact ⟨as', ex.trans e4, e4 _ _ gD, by rw [hsn]; exact hEp.ex e4⟩
  · obtain ⟨as', ex, gD, hEp⟩ := h
    rw [List.length_map, hE.1, List.take_length] at hEp
    exact k _ as' _ (fresh_back e3 hDl) (e3.trans ex) gD (hEp.imp fun b _ h => ⟨fresh_back e3 h.1, h.2⟩)
def sp_with (C : Addr) : Sp := fun vs H Q _ => ∃ (c n l : Addr) (qs : List Addr) (vd nm : List Int) (es : List En) (rs : List (List Int)), vs = [.ref c, .ref n, .ref l] ∧ CmN (fun _ => True) C H c vd es ∧ H n = some (.lst (nm.map V.int)) ∧ H l = some (.lst (qs.map V.ref)) ∧ TxN (fun _ => True) H qs rs ∧ EnB es ∧ nm.length ≤ 100 ∧ rs.length ≤ 100 ∧ ∀ b H', Ex H H' → CmN (fun x => H x = none) C H' b vd (withV es nm rs) → Q (.ref b) H'
theorem eu_go2 {te : TE} {σ : L2.St} {H : Hp} {xs : List V} {Q : VK} (h : EvU te σ H xs) (k : ∀ p H2, H p = none → Ex H H2 → H2 p = some (.tup xs) → Q (.ref p) H2) : te σ H Q := h H (Ex.refl H) Q k
/-- [(name, v) for v in values] -/
theorem ex_ins {σ : L2.St} {H : Hp} {t1 : TE} {n l : Addr} {qs : List Addr} {nm : List Int} {rs : List (List Int)} {i j : Nat} {vs : List Nat} (h : Ev t1 σ H (.ref l)) (gl : H l = some (.lst (qs.map V.ref))) (hT : TxN (fun _ => True) H qs rs) (gn : H n = some (.lst (nm.map V.int))) (hl : rs.length ≤ 1000)
    (hi : ∀ x : V, ((wipe σ vs).set j (some x))[i]? = some (some (.ref n))) (hj : ∀ x : V, ((wipe σ vs).set j (some x))[j]? = some (some x)) (hw : ∀ x : V, wipe ((wipe σ vs).set j (some x)) vs = wipe σ vs) : EvX (tLc (iList K t1) (gName j) tYes (tTup (tCons (tVar i) (tCons (tVar j) tNil))) vs) σ H (fun v G => ∃ (p : Addr) (as : List Addr), v = .ref p ∧ H p = none ∧ G p = some (.lst (as.map V.ref)) ∧ EnsN (fun _ => True) G as (insE nm rs)) := fun H1 e1 Q q =>
  tlc_lstG (K := K) ((Ev.s h (sq_of gl)).mono e1) fun p1 H3 e3 hp1 Dl hDl => ⟨fun i H' => ∃ as' : List Addr, Ex H3 H' ∧ H' Dl = some (.lst (as'.map V.ref)) ∧ EnsN (fun b => b ≠ Dl) H' as' (insE nm (rs.take i)), ⟨[], Ex.new hDl, upd_same, EnsN.nil⟩, fun i H' h => by obtain ⟨_, ex, _⟩ := h; exact ex_l ex hp1, fun k x H' hx h => ⟨hw x, by
    obtain ⟨as', ex, gD, hEp⟩ := h
    have e03 := (e1.trans e3).trans ex
    obtain ⟨a, r, ha, hr, rfl, hk, _, ga⟩ := (hT.ex e03).get hx
    have gn' := e03 _ _ gn
    refine eu_go2 (eu_tup (ea_cons (ev_var (hi _)) (ea_cons (ev_var (hj _)) ea_nil)) (Nat.le_of_ble_eq_true rfl)) fun pt H4 hpt e4 gpt => ?_
    have neD : pt ≠ Dl := ne_known hpt (by rw [gD]; exact fun z => nomatch z)
    have hDn : ∀ {b : Addr} {xs : List V}, H3 b = some (.lst xs) → b ≠ Dl := fun h => by rintro rfl; rw [hDl] at h; cases h
    refine ⟨_, e4 _ _ gD, sz_lt (by rw [List.length_map, hEp.1]; unfold insE; rw [List.length_map, List.length_take]; omega), as' ++ [pt], Ex.mut (ex.trans e4) hDl, by rw [upd_same, List.map_append]; rfl, ?_⟩
    have : insE nm (rs.take (k + 1)) = insE nm (rs.take k) ++ [(nm, r)] := by unfold insE; rw [take_at hr, List.map_append]; rfl
    rw [this]
    have na := hDn ((e1.trans e3) _ _ (hT.2 k a r ha hr).2)
    have nn := hDn ((e1.trans e3) _ _ gn)
    exact (hEp.kp ((Kp.ex e4).mut fun h => absurd rfl h)).snoc neD (by rw [upd_ne neD]; exact gpt) nn (by rw [upd_ne nn]; exact e4 _ _ gn') na (by rw [upd_ne na]; exact e4 _ _ ga)⟩, fun H' h => by
    obtain ⟨as', ex, gD, hEp⟩ := h
    rw [List.length_map, hT.1, List.take_length] at hEp
    exact q _ _ (e3.trans ex) ⟨Dl, as', rfl, fresh_back (e1.trans e3) hDl, gD, hEp.imp fun _ _ _ => trivial⟩⟩
def atV (o : Option Nat) : V := match o with | some a => V.int (a : Int) | none => V.non
theorem ok_Comments_with_values (T : TX K mg) : FnOk P w K mg base CX0 3 T.a_Comments_with_values T.d_Comments_with_values ["self", "name", "values"] (sp_with T.C_Comments) := by
  refine T.F_Comments_with_values.ok sc_Comments_with_values (fun vs H Q E h => by obtain ⟨c, n, l, qs, vd, nm, es, rs, rfl, _⟩ := h; rfl) (fun cdv A outer s H vs Q E hr h => ?_)
  obtain ⟨c, n, l, qs, vd, nm, es, rs, rfl, hC, gn, gl, hT, hB, hnl, hrl, k⟩ := h
  refine ⟨_, (pss_cons (ps_set (i := 3) sc_Comments_with_values.nd rfl (Or.inl rfl) (pe_lst pa_nil))
      (pss_cons (ps_set (i := 4) sc_Comments_with_values.nd rfl (Or.inl rfl) pe_non)
      (pss_cons (ps_for PassesOwn.never rfl (pi_list (pe_fld (pv 0) rfl)) (pg_tup rfl (pgs_cons (pg_name (i := 5) sc_Comments_with_values.nd rfl (Or.inl rfl)) (pgs_cons (pg_name (i := 6) sc_Comments_with_values.nd rfl (Or.inl rfl)) pgs_nil))) (pss_one (ps_if (pt_not (pt_val (pe_call (ok_match T) (hr.mono (by decide)) (by rfl) T.g_match T.F_match.kp T.b_match .nil pass0 (pa_cons (pv 5) (pa_cons (pv 1) pa_nil))))) (pss_one (ps_expr (pe_bm PySem.F.plainAttrs_list PySem.F.slot_list_append PySem.F.type_list_append mt_append (pv 3) (pa_cons (pe_tup (pa_cons (pv 5) (pa_cons (pv 6) pa_nil))) pa_nil)))) (pss_one (ps_if (pt_cmpR op_isN1 (pv 4) pe_non (nomark _)) (pss_one (ps_set (i := 4) sc_Comments_with_values.nd rfl (Or.inl rfl) (pe_callB (r := rLenS K) call_len_seq (by rfl) T.m_len PySem.boot_len (pa_cons (pv 3) pa_nil)))) pss_nil)))))
      (pss_cons (ps_if (pt_cmpR op_isN1 (pv 4) pe_non (nomark _)) (pss_one (ps_set (i := 4) sc_Comments_with_values.nd rfl (Or.inl rfl) (pe_callB (r := rLenS K) call_len_seq (by rfl) T.m_len PySem.boot_len (pa_cons (pv 3) pa_nil)))) pss_nil)
      (pss_cons (ps_setLc (i := 7) (own := [("value", 6)]) (g := gName 6) (tt := tYes) rfl sc_Comments_with_values.nd rfl rfl (sw_true rfl rfl rfl (by decide +kernel)) (pi_list (pv 2)) (blkOk_by (N := ["self", "name", "values", "kept", "at", "own_name", "value", "inserted"]) (sc := defScope s_Comments_with_values) (by decide +kernel)) (fun _ _ _ _ _ => pg_name (i := 6) sc_Comments_with_values.nd rfl (Or.inl rfl)) (fun _ _ _ _ _ => pts_nil) (fun _ _ _ _ _ => (pe_tup (pa_cons (pv 1) (pa_cons (pv 6) pa_nil)))))
      (pss_one (ps_ret (pe_make T.M_Comments (ok_Comments_init T) (hr.mono (by decide)) (by rfl) T.g_Comments T.b_Comments_init .nil pass0 (pa_cons (pe_fld (pv 0) rfl) (pa_cons (pe_op op_cat (pe_op op_cat (pe_slice (r := rSlL K) sl_list (pv 3) po_none (po_some (pv 4))) (pv 7)) (pe_slice (r := rSlL K) sl_list (pv 3) (po_some (pv 4)) po_none)) pa_nil)))))))))), ?_⟩
  obtain ⟨dx, pv, pe, as, gc, gv, ge, hE⟩ := cm_get hC
  have hl1 := hB.1
  refine q_asgL (xs := []) (el_lst ea_nil (by decide)) fun pk H1 hpk e1 g1 => ?_
  refine q_asg (v := .non) ev_c fun H2 e2 => ?_
  have e12 := e1.trans e2
  show tSeq _ _ _ [some (.ref c), some (.ref n), some (.ref l), some (.ref pk), some (atV (atO nm (es.take 0))), none, none, none] _
  refine q_forL (K := K) (a := pe) (xs := as.map V.ref) (ev_fld T.cl_Comments T.n_Comments_entries (ev_var rfl) (e12 _ _ gc) rfl) (sq_of (e12 _ _ ge)) (fun i σ' H' => ∃ (ks : List Addr) (z5 z6 : Option V), σ' = [some (.ref c), some (.ref n), some (.ref l), some (.ref pk), some (atV (atO nm (es.take i))), z5, z6, none] ∧ Ex H H' ∧ H' pk = some (.lst (ks.map V.ref)) ∧ EnsN (fun b => b ≠ pk) H' ks (missE nm (es.take i))) (fun H3 e3 => ⟨[], none, none, rfl, e12.trans e3, (e2.trans e3) _ _ g1, EnsN.nil⟩) (fun i σ' H' _ h => by obtain ⟨_, _, _, _, ex, _⟩ := h; exact sq_of (ex _ _ ge)) ?_ ?_
  · rintro i x σ' H3 hx ⟨ks, z5, z6, rfl, ex, gk, hK⟩
    obtain ⟨ai, e, hai, hei, rfl, hi, _, pn, pw, q0, _, q1, _, q2⟩ := hE.get hx
    have g0 := ex _ _ q0
    have hel := hB.2 e (List.mem_of_getElem? hei)
    have hkl := missE_len (es.take i) nm
    rw [List.length_take] at hkl
    have hml : ks.length ≤ 100 := by rw [hK.1]; omega
    refine ⟨ai, [.ref pn, .ref pw], rfl, st_of g0, rfl, _, _, rfl, _, _, rfl, rfl, ?_⟩
    have ha := atO_snoc nm e (es.take i)
    have hmi := missE_snoc nm (es.take i) e
    rw [← take_at hei] at ha hmi
    have nH : ∀ {b : Addr} {o : HO}, H b = some o → b ≠ pk := fun h => by rintro rfl; rw [hpk] at h; cases h
    refine s_if (b := !mt e.1 nm) (et_not (et_B (ev_match (ns := e.1) (ms := nm) (Ev.s (ev_var rfl) (sq_of (ex _ _ q1))) (Ev.s (ev_var rfl) (sq_of (ex _ _ gn))) (by omega) (by omega)))) (fun hb H4 e4 => ?_) (fun hb H4 e4 => ?_)
    · have hm : ¬ mt e.1 nm = true := by intro h; rw [h] at hb; cases hb
      rw [if_neg hm] at hmi
      have hat : atO nm (es.take (i + 1)) = atO nm (es.take i) := by
        rw [ha]
        cases atO nm (es.take i) with
        | some k => rfl
        | none => exact if_neg hm
      refine s_appU (e4 _ _ gk) (ev_var rfl) (eu_tup (ea_cons (ev_var rfl) (ea_cons (ev_var rfl) ea_nil)) (Nat.le_of_ble_eq_true rfl)) (by rw [List.length_map]; omega) fun pt H5 hpt e5 gpt => ⟨ks ++ [pt], _, _, by rw [hat]; rfl, Ex.mut (ex.trans (e4.trans e5)) hpk, by rw [upd_same, List.map_append]; rfl, ?_⟩
      have neD : pt ≠ pk := ne_known hpt (by rw [e4 _ _ gk]; exact fun z => nomatch z)
      have e35 := ex.trans (e4.trans e5)
      rw [hmi]
      exact (hK.kp ((Kp.ex (e4.trans e5)).mut fun h => absurd rfl h)).snoc neD (by rw [upd_ne neD]; exact gpt) (nH q1) (by rw [upd_ne (nH q1)]; exact e35 _ _ q1) (nH q2) (by rw [upd_ne (nH q2)]; exact e35 _ _ q2)
    · have hm : mt e.1 nm = true := by cases h : mt e.1 nm with | true => rfl | false => rw [h] at hb; cases hb
      rw [if_pos hm] at hmi
      have e34 := ex.trans e4
      cases hat : atO nm (es.take i) with
      | some a0 =>
        rw [hat] at ha
        exact s_when (b := false) (et_is (et_test (ev_isN (ev_var rfl))) (decide_eq_false (by intro h; cases h))) (fun h => by cases h) fun _ H5 e5 => ⟨ks, _, _, by rw [ha]; rfl, e34.trans e5, (e4.trans e5) _ _ gk, by rw [hmi]; exact hK.ex (e4.trans e5)⟩
      | none =>
        rw [hat] at ha
        have ha : atO nm (es.take (i + 1)) = some (missE nm (es.take i)).length := ha.trans (if_pos hm)
        exact s_when (b := true) (et_is (et_test (ev_isN (ev_var rfl))) (decide_eq_true rfl)) (fun _ H5 e5 => s_asg (v := .int (((missE nm (es.take i)).length : Nat) : Int)) (Ev.is (ev_lenS (K := K) (Ev.s (ev_var rfl) (sq_of ((e4.trans e5) _ _ gk)))) (by rw [List.length_map, hK.1])) fun H6 e6 => ⟨ks, _, _, by rw [ha]; rfl, e34.trans (e5.trans e6), (e4.trans (e5.trans e6)) _ _ gk, by rw [hmi]; exact hK.ex (e4.trans (e5.trans e6))⟩) (fun h => by cases h)
  · rintro σ' H3 ⟨ks, z5, z6, rfl, ex, gk, hK⟩
    rw [List.length_map, hE.1, List.take_length] at hK ⊢
    obtain ⟨a, ha⟩ : ∃ a, (atO nm es).getD (missE nm es).length = a := ⟨_, rfl⟩
    have hkl := missE_len es nm
    refine q_ifAsg (v := .int (a : Int)) (b := decide (atV (atO nm es) = .non)) (et_test (ev_isN (ev_var rfl))) (fun h => Ev.is (ev_lenS (K := K) (Ev.s (ev_var rfl) (sq_of gk))) ?_) (fun h => ?_) fun H4 e4 => ?_
    · have h := of_decide_eq_true h
      rw [List.length_map, hK.1, ← ha]
      cases hat : atO nm es with
      | none => rfl
      | some b => rw [hat] at h; cases h
    · have h := of_decide_eq_false h
      rw [← ha]
      cases hat : atO nm es with
      | none => rw [hat] at h; exact absurd rfl h
      | some b => rfl
    show tSeq _ _ _ [some (.ref c), some (.ref n), some (.ref l), some (.ref pk), some (.int (a : Int)), z5, z6, none] _
    have e34 := ex.trans e4
    refine q_asgX (ex_ins (n := n) (nm := nm) (rs := rs) (ev_var rfl) (e34 _ _ gl) (hT.ex e34) (e34 _ _ gn) (by omega) (fun _ => rfl) (fun _ => rfl) (fun _ => rfl)) fun v H5 e5 hv => ?_
    obtain ⟨pi, is, rfl, hpi, gi, hI⟩ := hv
    have gk5 := (e4.trans e5) _ _ gk
    have hK5 := (hK.imp fun _ _ _ => trivial).ex (e4.trans e5) (N := fun _ => True)
    have e35 := e34.trans e5
    have hal : a ≤ (missE nm es).length := by
      rw [← ha]
      cases hat : atO nm es with
      | none => exact Nat.le_refl _
      | some b => exact atO_le hat
    have hisl : is.length = rs.length := by rw [hI.1]; exact List.length_map ..
    refine s_retN (en_cm T (es := withV es nm rs) (ev_fld T.cl_Comments T.n_Comments_vendor (ev_var rfl) (e35 _ _ gc) rfl) (e35 _ _ gv) (fun H6 e6 Q0 q0 => (EvL.is (el_cat (EvL.r (el_cat (EvL.r (EvL.is (el_slS (K := K) (Ev.s (ev_var rfl) (sq_of gk5)) eo_none (eo_some (ev_var rfl))) (cut_to _ a))) (Ev.r (ev_var rfl) gi) (by rw [List.length_take, List.length_map, List.length_map]; omega))) (EvL.r (EvL.is (el_slS (K := K) (Ev.s (ev_var rfl) (sq_of gk5)) (eo_some (ev_var rfl)) eo_none) (cut_from _ a))) (by rw [List.length_append, List.length_take, List.length_drop, List.length_map, List.length_map, hK.1]; omega)) (show _ = (ks.take a ++ is ++ ks.drop a).map V.ref by rw [List.map_append, List.map_append, List.map_take, List.map_drop])) H6 e6 _ fun p H7 hp e7 gp => q0 (.ref p) H7 e7 ⟨p, _, rfl, gp, ?_⟩) ?_) fun b H6 _ e6 hCm => k b H6 (e35.trans e6) (hCm.imp fun x _ h => fresh_back e35 h)
    · unfold withV putE
      rw [ha]
      exact (((hK5.take a).app hI).app (hK5.drop a)).ex (e6.trans e7)
    · unfold withV putE insE
      rw [List.length_append, List.length_append, List.length_take, List.length_drop, List.length_map]
      omega
/-! ### the same, by the law -/
def accE (nm : List Int) (ins es : List En) : List En := match atO nm es with | some a => putE (missE nm es) a ins | none => missE nm es
theorem accE_snoc (nm : List Int) (ins es : List En) (e : En) : accE nm ins (es ++ [e]) = if mt e.1 nm = true then (match atO nm es with | some _ => accE nm ins es | none => accE nm ins es ++ ins) else accE nm ins es ++ [e] := by
  unfold accE
  rw [atO_snoc, missE_snoc]
  by_cases h : mt e.1 nm = true
  · rw [if_pos h, if_pos h, if_pos h]
    cases hat : atO nm es with
    | some a => rfl
    | none =>
      show putE (missE nm es) (missE nm es).length ins = missE nm es ++ ins
      unfold putE
      rw [List.take_length, List.drop_length, List.append_nil]
  · rw [if_neg h, if_neg h, if_neg h]
    cases hat : atO nm es with
    | some a =>
      have := atO_le hat
      show putE (missE nm es ++ [e]) a ins = putE (missE nm es) a ins ++ [e]
      unfold putE
      rw [List.take_append_of_le_length this, List.drop_append_of_le_length this]
      simp only [List.append_assoc]
    | none => rfl
theorem accE_end (nm : List Int) (es : List En) (rs : List (List Int)) : (match atO nm es with | some _ => accE nm (insE nm rs) es | none => accE nm (insE nm rs) es ++ insE nm rs) = withV es nm rs := by
  unfold accE withV
  cases hat : atO nm es with
  | some a => rfl
  | none =>
    show missE nm es ++ insE nm rs = putE (missE nm es) (missE nm es).length (insE nm rs)
    unfold putE
    rw [List.take_length, List.drop_length, List.append_nil]
theorem accE_len (nm : List Int) (ins es : List En) : (accE nm ins es).length ≤ es.length + ins.length := by
  have := missE_len es nm
  unfold accE
  cases hat : atO nm es with
  | some a =>
    show (putE (missE nm es) a ins).length ≤ _
    unfold putE
    rw [List.length_append, List.length_append, List.length_take, List.length_drop]
    omega
  | none =>
    show (missE nm es).length ≤ _
    omega

-- K52D
/-! ### the law's draws -/
theorem wi_ixV {s l : Addr} {σ : L2.St} {H : Hp} {ta tb : TE} {xs : List Int} {q : Int → Prop} (st : StAt H s) (ha : Ev ta σ H (.ref l)) (hls : l ≠ s) (hx : H l = some (.lst (xs.map V.int))) (hb : ∀ H1, Fr s H H1 → EvI s tb σ H1 q) (hq : ∀ z, q z → ∃ j : Nat, z = (j : Int) ∧ j < xs.length) : EvI s (tOp (rIxL K) ta tb) σ H (fun _ => True) := fun Q k =>
  ha H (Ex.refl H) _ fun H1 e1 => hb H1 (Fr.ex st e1) _ fun i H2 f2 hi => by
    obtain ⟨j, rfl, hj⟩ := hq i hi
    exact ⟨l, _, (j : Int), .int xs[j], rfl, rfl, sq_of (f2.l hls (e1 _ _ hx)), at_of (j := j) rfl (at_int (List.getElem?_eq_getElem hj)), k _ H2 ((Fr.ex st e1).trans f2) trivial⟩
section
variable {s : Addr} {σ : L2.St} {H : Hp} {t : TT} {p : Bool → Prop} {D : Ends} {tz tu tw : TS} {j : Nat} {x : Int} {R : Int → Prop}
theorem qw_bothI (h : EvTW s t σ H p) (h1 : p true → ∀ (D' : Ends) H1, Fr s H H1 → (∀ (y : Int) H2, R y → Fr s H H2 → D'.nx (σ.set j (some (.int y))) H2) → tu D' σ H1) (h2 : p false → ∀ (D' : Ends) H1, Fr s H H1 → (∀ (y : Int) H2, R y → Fr s H H2 → D'.nx (σ.set j (some (.int y))) H2) → tw D' σ H1) (k : ∀ (y : Int) H1, R y → Fr s H H1 → tz D (σ.set j (some (.int y))) H1) : tSeq (tIfS t tu tw) tz D σ H := h _ fun b H1 f hb => by
  cases b with
  | true => exact h1 hb { D with nx := tz D } H1 f fun y H2 r f2 => k y H2 r f2
  | false => exact h2 hb { D with nx := tz D } H1 f fun y H2 r f2 => k y H2 r f2
theorem qw_whenI (hσ : σ = σ.set j (some (.int x))) (h : EvTW s t σ H p) (h1 : p true → ∀ (D' : Ends) H1, Fr s H H1 → (∀ (y : Int) H2, R y → Fr s H H2 → D'.nx (σ.set j (some (.int y))) H2) → tu D' σ H1) (hx : p false → R x) (k : ∀ (y : Int) H1, R y → Fr s H H1 → tz D (σ.set j (some (.int y))) H1) : tSeq (tIfS t tu tNext) tz D σ H :=
  qw_bothI h h1 (fun hp D' H1 f kk => by
    have := kk x H1 (hx hp) f
    rw [← hσ] at this
    exact this) k
theorem sw_whenI {D : Ends} (hσ : σ = σ.set j (some (.int x))) (h : EvTW s t σ H p) (h1 : p true → ∀ H1, Fr s H H1 → tu D σ H1) (hx : p false → R x) (k : ∀ (y : Int) H1, R y → Fr s H H1 → D.nx (σ.set j (some (.int y))) H1) : tIfS t tu tNext D σ H :=
  sw_when h h1 fun hp H1 f => by
    have := k x H1 (hx hp) f
    rw [← hσ] at this
    exact this
end
def EvXW (s : Addr) (te : TE) (σ : L2.St) (H : Hp) (S : V → Hp → Prop) : Prop := ∀ Q : VK, (∀ v H2, Fr s H H2 → S v H2 → Q v H2) → te σ H Q
theorem xw_pair {s : Addr} {σ : L2.St} {H : Hp} {ta tb : TE} {S1 S2 : V → Hp → Prop} (ha : EvXW s ta σ H S1) (hu : ∀ v G G', Fr s G G' → S1 v G → S1 v G') (hu2 : ∀ v G G', Ex G G' → S2 v G → S2 v G') (hb : ∀ H1, Fr s H H1 → EvXW s tb σ H1 S2) : EvXW s (tTup (tCons ta (tCons tb tNil))) σ H (fun v G => ∃ (p : Addr) (v1 v2 : V), v = .ref p ∧ H p = none ∧ G p = some (.tup [v1, v2]) ∧ S1 v1 G ∧ S2 v2 G) := fun Q k =>
  ha _ fun v1 H1 f1 s1 => hb H1 f1 _ fun v2 H2 f2 s2 => ⟨Nat.le_of_ble_eq_true rfl, fun p hp => by
    have f3 := Fr.ex f2.2 (Ex.new (o := .tup [v1, v2]) hp)
    exact k (.ref p) _ ((f1.trans f2).trans f3) ⟨p, v1, v2, rfl, (f1.trans f2).fresh hp, upd_same, hu _ _ _ (f2.trans f3) s1, hu2 _ _ _ (Ex.new hp) s2⟩⟩
def LsF (H : Hp) (v : V) (G : Hp) : Prop := ∃ (p : Addr) (xs : List Int), v = .ref p ∧ H p = none ∧ G p = some (.lst (xs.map V.int)) ∧ xs.length ≤ 10
def sp_ltext (K : PySem.W.Frag) : Sp := fun vs H Q _ => ∃ (s a : Addr) (ns : List Int) (m : Nat), vs = [.ref s, .ref a, .int (m : Int)] ∧ DrS K H s a ns ∧ m ≤ 9 ∧ ∀ p (xs : List Int) H', H p = none → Fr s H H' → H' p = some (.lst (xs.map V.int)) → xs.length ≤ 10 → Q (.ref p) H'
theorem ok_law_text (T : TX K mg) : FnOk P w K mg base CX0 3 T.a_law_text T.d_law_text ["state", "script", "most"] (sp_ltext K) := by
  refine T.F_law_text.ok sc_law_text (fun vs H Q E h => by obtain ⟨s, a, ns, m, rfl, _⟩ := h; rfl) (fun cdv A outer s0 H vs Q E hr h => ?_)
  obtain ⟨s, a, ns, m, rfl, hd, hm, k⟩ := h
  refine ⟨_, (pss_cons (ps_set (i := 3) sc_law_text.nd rfl (Or.inl rfl) (pe_lst (pa_cons pe_int (pa_cons pe_int (pa_cons pe_int (pa_cons pe_int (pa_cons pe_int (pa_cons pe_int (pa_cons pe_int (pa_cons pe_int (pa_cons pe_int (pa_cons pe_int (pa_cons pe_int (pa_cons pe_int pa_nil))))))))))))))
      (pss_cons (ps_set (i := 4) sc_law_text.nd rfl (Or.inl rfl) (pe_lst pa_nil))
      (pss_cons (ps_for PassesOwn.never rfl (pi_range1 (by rfl) T.m_range (pa_cons (pe_call (ok_law_draw T) (hr.mono (by decide)) (by rfl) T.g_law_draw T.F_law_draw.kp T.b_law_draw .nil pass0 (pa_cons (pv 0) (pa_cons (pv 1) (pa_cons (pe_op op_add (pv 2) pe_int) pa_nil)))) pa_nil)) (pg_name (i := 5) sc_law_text.nd rfl (Or.inl rfl)) (pss_cons (ps_set (i := 6) sc_law_text.nd rfl (Or.inl rfl) (pe_ix (r := rIxL K) ix_list (pv 3) (pe_call (ok_law_draw T) (hr.mono (by decide)) (by rfl) T.g_law_draw T.F_law_draw.kp T.b_law_draw .nil pass0 (pa_cons (pv 0) (pa_cons (pv 1) (pa_cons pe_int pa_nil)))) (fun _ _ => rfl)))
        (pss_cons (ps_if (pt_cmpR op_eq (pe_call (ok_law_draw T) (hr.mono (by decide)) (by rfl) T.g_law_draw T.F_law_draw.kp T.b_law_draw .nil pass0 (pa_cons (pv 0) (pa_cons (pv 1) (pa_cons pe_int pa_nil)))) pe_int (nomark _)) (pss_one (ps_set (i := 6) sc_law_text.nd rfl (Or.inl rfl) (pe_call (ok_law_draw T) (hr.mono (by decide)) (by rfl) T.g_law_draw T.F_law_draw.kp T.b_law_draw .nil pass0 (pa_cons (pv 0) (pa_cons (pv 1) (pa_cons pe_int pa_nil)))))) pss_nil)
        (pss_one (ps_expr (pe_bm PySem.F.plainAttrs_list PySem.F.slot_list_append PySem.F.type_list_append mt_append (pv 4) (pa_cons (pv 6) pa_nil)))))))
      (pss_one (ps_ret (pv 4)))))), ?_⟩
  refine q_asgL (xs := [0, 127, 128, 2047, 2048, 55295, 57344, 65535, 65536, 1114111, 65, 61].map V.int) (el_lst (ea_cons ev_c (ea_cons ev_c (ea_cons ev_c (ea_cons ev_c (ea_cons ev_c (ea_cons ev_c (ea_cons ev_c (ea_cons ev_c (ea_cons ev_c (ea_cons ev_c (ea_cons ev_c (ea_cons ev_c ea_nil)))))))))))) (by decide)) fun q H1 hq e1 gq => ?_
  refine q_asgL (xs := []) (el_lst ea_nil (by decide)) fun p H2 hp e2 gp => ?_
  have e12 := e1.trans e2
  have hd2 := hd.ex e12
  have hpH := fresh_back e1 hp
  have nps := ne_st hd.1 hpH
  have nqs := ne_st hd.1 hq
  have npq : p ≠ q := ne_known hp (by rw [gq]; exact fun z => nomatch z)
  have gq2 := e2 _ _ gq
  show tSeq _ _ _ [some (.ref s), some (.ref a), some (.int (m : Int)), some (.ref q), some (.ref p), none, none] _
  refine qw_forR1 (wi_draw (n := (m : Int) + 1) hd2 rfl rfl (ev_I0 (g := fun i j => .int (i + j)) (ev_var rfl) ev_c) (by omega) (by omega)) (fun i hi => by obtain ⟨d, rfl, hd⟩ := hi; omega) (fun n i σ' H' => ∃ (xs : List Int) (z5 z6 : Option V), σ' = [some (.ref s), some (.ref a), some (.int (m : Int)), some (.ref q), some (.ref p), z5, z6] ∧ Fr s H H' ∧ H' q = some (.lst ([0, 127, 128, 2047, 2048, 55295, 57344, 65535, 65536, 1114111, 65, 61].map V.int)) ∧ H' p = some (.lst (xs.map V.int)) ∧ xs.length = i) (fun n H3 _ f3 => ⟨[], none, none, rfl, (Fr.ex hd.1 e12).trans f3, f3.l nqs gq2, f3.l nps gp, rfl⟩) ?_ ?_
  · rintro n i σ' H3 hn hi ⟨xs, z5, z6, rfl, f, gq3, gp3, hxl⟩
    obtain ⟨d, rfl, hdn⟩ := hn
    have hd3 := hd.fr f
    refine qw_asg (wi_ixV (K := K) hd3.1 (ev_var rfl) nqs gq3 (fun H4 f4 => wi_draw (n := 12) (hd3.fr f4) rfl rfl ev_c (by decide) (by decide)) (fun z hz => by obtain ⟨j, rfl, hj⟩ := hz; exact ⟨j, rfl, by show j < 12; omega⟩)) fun x H4 f4 _ => ?_
    have hd4 := hd3.fr f4
    refine qw_whenI (R := fun _ => True) (j := 6) (x := x) rfl (wt_eq (wi_draw (n := 2) hd4 rfl rfl ev_c (by decide) (by decide)) fun H5 f5 => wi_ev f5.2 ev_c) (fun _ D' H5 f5 kk => sw_asg (wi_draw (n := 55296) (hd4.fr f5) rfl rfl ev_c (by decide) (by decide)) fun y H6 f6 _ => kk y H6 trivial (f5.trans f6)) (fun _ => trivial) fun y H5 _ f5 => ?_
    have f45 := f4.trans f5
    refine s_app (f45.l nps gp3) (ev_var rfl) (ev_var rfl) (by rw [List.length_map]; omega) fun H6 e6 => ⟨xs ++ [y], _, _, rfl, (f.trans (f45.tex e6)).mut hpH nps, ?_, by rw [upd_same, List.map_append]; rfl, by rw [List.length_append, hxl]; rfl⟩
    rw [upd_ne (Ne.symm npq)]
    exact e6 _ _ (f45.l nqs gq3)
  · rintro n σ' H3 hn ⟨xs, z5, z6, rfl, f, gq3, gp3, hxl⟩
    obtain ⟨d, rfl, hdn⟩ := hn
    exact s_ret (ev_var rfl) fun H4 e4 => k p xs H4 hpH (f.tex e4) (e4 _ _ gp3) (by omega)
def sp_lname (K : PySem.W.Frag) : Sp := fun vs H Q _ => ∃ (s a : Addr) (ns : List Int), vs = [.ref s, .ref a] ∧ DrS K H s a ns ∧ ∀ p (xs : List Int) H', H p = none → Fr s H H' → H' p = some (.lst (xs.map V.int)) → xs.length ≤ 10 → Q (.ref p) H'
theorem ok_law_name (T : TX K mg) : FnOk P w K mg base CX0 3 T.a_law_name T.d_law_name ["state", "script"] (sp_lname K) := by
  refine T.F_law_name.ok sc_law_name (fun vs H Q E h => by obtain ⟨s, a, ns, rfl, _⟩ := h; rfl) (fun cdv A outer s0 H vs Q E hr h => ?_)
  obtain ⟨s, a, ns, rfl, hd, k⟩ := h
  refine ⟨_, (pss_cons (ps_set (i := 2) sc_law_name.nd rfl (Or.inl rfl) (pe_lst (pa_cons pe_int (pa_cons pe_int (pa_cons pe_int (pa_cons pe_int (pa_cons pe_int (pa_cons pe_int (pa_cons pe_int (pa_cons pe_int (pa_cons pe_int (pa_cons pe_int (pa_cons pe_int (pa_cons pe_int pa_nil))))))))))))))
      (pss_cons (ps_set (i := 3) sc_law_name.nd rfl (Or.inl rfl) (pe_lst pa_nil))
      (pss_cons (ps_for PassesOwn.never rfl (pi_range1 (by rfl) T.m_range (pa_cons (pe_op op_add pe_int (pe_call (ok_law_draw T) (hr.mono (by decide)) (by rfl) T.g_law_draw T.F_law_draw.kp T.b_law_draw .nil pass0 (pa_cons (pv 0) (pa_cons (pv 1) (pa_cons pe_int pa_nil))))) pa_nil)) (pg_name (i := 4) sc_law_name.nd rfl (Or.inl rfl)) (pss_cons (ps_set (i := 5) sc_law_name.nd rfl (Or.inl rfl) (pe_ix (r := rIxL K) ix_list (pv 2) (pe_call (ok_law_draw T) (hr.mono (by decide)) (by rfl) T.g_law_draw T.F_law_draw.kp T.b_law_draw .nil pass0 (pa_cons (pv 0) (pa_cons (pv 1) (pa_cons pe_int pa_nil)))) (fun _ _ => rfl)))
        (pss_cons (ps_if (pt_cmpR op_eq (pe_call (ok_law_draw T) (hr.mono (by decide)) (by rfl) T.g_law_draw T.F_law_draw.kp T.b_law_draw .nil pass0 (pa_cons (pv 0) (pa_cons (pv 1) (pa_cons pe_int pa_nil)))) pe_int (nomark _)) (pss_cons (ps_set (i := 5) sc_law_name.nd rfl (Or.inl rfl) (pe_op op_add pe_int (pe_call (ok_law_draw T) (hr.mono (by decide)) (by rfl) T.g_law_draw T.F_law_draw.kp T.b_law_draw .nil pass0 (pa_cons (pv 0) (pa_cons (pv 1) (pa_cons pe_int pa_nil))))))
          (pss_one (ps_if (pt_cmpR op_ge (pv 5) pe_int (nomark _)) (pss_one (ps_set (i := 5) sc_law_name.nd rfl (Or.inl rfl) (pe_op op_add (pv 5) pe_int))) pss_nil))) pss_nil)
        (pss_one (ps_expr (pe_bm PySem.F.plainAttrs_list PySem.F.slot_list_append PySem.F.type_list_append mt_append (pv 3) (pa_cons (pv 5) pa_nil)))))))
      (pss_one (ps_ret (pv 3)))))), ?_⟩
  refine q_asgL (xs := [65, 97, 66, 98, 90, 122, 64, 91, 96, 123, 32, 126].map V.int) (el_lst (ea_cons ev_c (ea_cons ev_c (ea_cons ev_c (ea_cons ev_c (ea_cons ev_c (ea_cons ev_c (ea_cons ev_c (ea_cons ev_c (ea_cons ev_c (ea_cons ev_c (ea_cons ev_c (ea_cons ev_c ea_nil)))))))))))) (by decide)) fun q H1 hq e1 gq => ?_
  refine q_asgL (xs := []) (el_lst ea_nil (by decide)) fun p H2 hp e2 gp => ?_
  have e12 := e1.trans e2
  have hd2 := hd.ex e12
  have hpH := fresh_back e1 hp
  have nps := ne_st hd.1 hpH
  have nqs := ne_st hd.1 hq
  have npq : p ≠ q := ne_known hp (by rw [gq]; exact fun z => nomatch z)
  have gq2 := e2 _ _ gq
  show tSeq _ _ _ [some (.ref s), some (.ref a), some (.ref q), some (.ref p), none, none] _
  refine qw_forR1 (wi_op (g := fun i j => i + j) (wi_ev hd2.1 ev_c) fun H3 f3 => wi_draw (n := 3) (hd2.fr f3) rfl rfl ev_c (by decide) (by decide)) (fun i hi => by obtain ⟨_, _, rfl, ⟨d, rfl, hd⟩, rfl⟩ := hi; omega) (fun n i σ' H' => ∃ (xs : List Int) (z5 z6 : Option V), σ' = [some (.ref s), some (.ref a), some (.ref q), some (.ref p), z5, z6] ∧ Fr s H H' ∧ H' q = some (.lst ([65, 97, 66, 98, 90, 122, 64, 91, 96, 123, 32, 126].map V.int)) ∧ H' p = some (.lst (xs.map V.int)) ∧ xs.length = i) (fun n H3 _ f3 => ⟨[], none, none, rfl, (Fr.ex hd.1 e12).trans f3, f3.l nqs gq2, f3.l nps gp, rfl⟩) ?_ ?_
  · rintro n i σ' H3 hn hi ⟨xs, z5, z6, rfl, f, gq3, gp3, hxl⟩
    obtain ⟨_, _, rfl, ⟨d, rfl, hdn⟩, rfl⟩ := hn
    have hd3 := hd.fr f
    refine qw_asg (wi_ixV (K := K) hd3.1 (ev_var rfl) nqs gq3 (fun H4 f4 => wi_draw (n := 12) (hd3.fr f4) rfl rfl ev_c (by decide) (by decide)) (fun z hz => by obtain ⟨j, rfl, hj⟩ := hz; exact ⟨j, rfl, by show j < 12; omega⟩)) fun x H4 f4 _ => ?_
    have hd4 := hd3.fr f4
    refine qw_whenI (R := fun _ => True) (j := 5) (x := x) rfl (wt_eq (wi_draw (n := 4) hd4 rfl rfl ev_c (by decide) (by decide)) fun H5 f5 => wi_ev f5.2 ev_c) (fun _ D' H5 f5 kk => qw_asg (wi_op (g := fun i j => i + j) (wi_ev f5.2 ev_c) fun H6 f6 => wi_draw (n := 94) ((hd4.fr f5).fr f6) rfl rfl ev_c (by decide) (by decide)) fun y H6 f6 _ => sw_whenI (R := fun _ => True) (j := 5) (x := y) rfl (wt_ev f6.2 (et_test (ev_I0 (g := fun i j => .bl (decide (j ≤ i))) (ev_var rfl) ev_c))) (fun _ H7 f7 => s_asg (v := .int (y + 1)) (ev_I0 (g := fun i j => .int (i + j)) (ev_var rfl) ev_c) fun H8 e8 => kk _ H8 trivial ((f5.trans f6).trans (f7.tex e8))) (fun _ => trivial) fun z H7 _ f7 => kk z H7 trivial ((f5.trans f6).trans f7)) (fun _ => trivial) fun y H5 _ f5 => ?_
    have f45 := f4.trans f5
    refine s_app (f45.l nps gp3) (ev_var rfl) (ev_var rfl) (by rw [List.length_map]; omega) fun H6 e6 => ⟨xs ++ [y], _, _, rfl, (f.trans (f45.tex e6)).mut hpH nps, ?_, by rw [upd_same, List.map_append]; rfl, by rw [List.length_append, hxl]; rfl⟩
    rw [upd_ne (Ne.symm npq)]
    exact e6 _ _ (f45.l nqs gq3)
  · rintro n σ' H3 hn ⟨xs, z5, z6, rfl, f, gq3, gp3, hxl⟩
    obtain ⟨_, _, rfl, ⟨d, rfl, hdn⟩, rfl⟩ := hn
    exact s_ret (ev_var rfl) fun H4 e4 => k p xs H4 hpH (f.tex e4) (e4 _ _ gp3) (by omega)
theorem xw_text {s a : Addr} {ns : List Int} {σ : L2.St} {H : Hp} {tm : TE} {E : XK} {i j m : Nat} (hd : DrS K H s a ns) (h1 : σ[i]? = some (some (.ref s))) (h2 : σ[j]? = some (some (.ref a))) (h3 : Ev tm σ H (.int (m : Int))) (hm : m ≤ 9) : EvXW s (tCall (sp_ltext K) [] E (tCons (tVar i) (tCons (tVar j) (tCons tm tNil)))) σ H (LsF H) := fun Q q =>
  (ea_cons (ev_var h1) (ea_cons (ev_var h2) (ea_cons h3 ea_nil))) H (Ex.refl H) _ fun H1 e1 => ⟨s, a, ns, m, rfl, hd.ex e1, hm, fun p xs H2 hp f2 gp hl => q (.ref p) H2 ((Fr.ex hd.1 e1).trans f2) ⟨p, xs, rfl, fresh_back e1 hp, gp, hl⟩⟩
theorem xw_name {s a : Addr} {ns : List Int} {σ : L2.St} {H : Hp} {E : XK} {i j : Nat} (hd : DrS K H s a ns) (h1 : σ[i]? = some (some (.ref s))) (h2 : σ[j]? = some (some (.ref a))) : EvXW s (tCall (sp_lname K) [] E (tCons (tVar i) (tCons (tVar j) tNil))) σ H (LsF H) := fun Q q =>
  (ea_cons (ev_var h1) (ea_cons (ev_var h2) ea_nil)) H (Ex.refl H) _ fun H1 e1 => ⟨s, a, ns, rfl, hd.ex e1, fun p xs H2 hp f2 gp hl => q (.ref p) H2 ((Fr.ex hd.1 e1).trans f2) ⟨p, xs, rfl, fresh_back e1 hp, gp, hl⟩⟩
theorem LsF.fr {s : Addr} {H : Hp} (st : StAt H s) : ∀ v G G', Fr s G G' → LsF H v G → LsF H v G' := fun v G G' f ⟨p, xs, h1, h2, h3, h4⟩ => ⟨p, xs, h1, h2, f.l (ne_st st h2) h3, h4⟩
theorem LsF.ex {H : Hp} : ∀ v G G', Ex G G' → LsF H v G → LsF H v G' := fun v G G' e ⟨p, xs, h1, h2, h3, h4⟩ => ⟨p, xs, h1, h2, e _ _ h3, h4⟩
def sp_lents (K : PySem.W.Frag) : Sp := fun vs H Q _ => ∃ (s a : Addr) (ns : List Int) (m : Nat), vs = [.ref s, .ref a, .int (m : Int)] ∧ DrS K H s a ns ∧ m ≤ 9 ∧ ∀ p (as : List Addr) (es : List En) H', H p = none → Fr s H H' → H' p = some (.lst (as.map V.ref)) → EnsN (fun b => b ≠ s ∧ b ≠ p) H' as es → es.length ≤ 10 → (∀ e ∈ es, e.1.length ≤ 10 ∧ e.2.length ≤ 10) → Q (.ref p) H'
theorem ok_law_entries (T : TX K mg) : FnOk P w K mg base CX0 4 T.a_law_entries T.d_law_entries ["state", "script", "most"] (sp_lents K) := by
  refine T.F_law_entries.ok sc_law_entries (fun vs H Q E h => by obtain ⟨s, a, ns, m, rfl, _⟩ := h; rfl) (fun cdv A outer s0 H vs Q E hr h => ?_)
  obtain ⟨s, a, ns, m, rfl, hd, hm, k⟩ := h
  refine ⟨_, (pss_one (ps_ret (pe_lc (own := [("k", 3)]) (g := gName 3) (tt := tYes) rfl sc_law_entries.nd (pi_range1 (by rfl) T.m_range (pa_cons (pe_call (ok_law_draw T) (hr.mono (by decide)) (by rfl) T.g_law_draw T.F_law_draw.kp T.b_law_draw .nil pass0 (pa_cons (pv 0) (pa_cons (pv 1) (pa_cons (pe_op op_add (pv 2) pe_int) pa_nil)))) pa_nil)) (blkOk_by (N := ["state", "script", "most", "k"]) (sc := defScope s_law_entries) (by decide +kernel)) (fun _ _ _ _ _ => pg_name (i := 3) sc_law_entries.nd rfl (Or.inl rfl)) (fun _ _ _ _ _ => pts_nil) (fun _ _ _ _ _ => (pe_tup (pa_cons (pe_call (ok_law_name T) (hr.mono (by decide)) (by rfl) T.g_law_name T.F_law_name.kp T.b_law_name .nil pass0 (pa_cons (pv 0) (pa_cons (pv 1) pa_nil))) (pa_cons (pe_call (ok_law_text T) (hr.mono (by decide)) (by rfl) T.g_law_text T.F_law_text.kp T.b_law_text .nil pass0 (pa_cons (pv 0) (pa_cons (pv 1) (pa_cons pe_int pa_nil)))) pa_nil))))))), ?_⟩
  refine tlc_rngWW (wi_draw (n := (m : Int) + 1) hd rfl rfl (ev_I0 (g := fun i j => .int (i + j)) (ev_var rfl) ev_c) (by omega) (by omega)) (fun i hi => by obtain ⟨d, rfl, hd⟩ := hi; omega) fun n H1 hn f1 Dl hDl => ⟨fun i H' => ∃ (as : List Addr) (es : List En), Fr s H1 H' ∧ H' Dl = some (.lst (as.map V.ref)) ∧ es.length = i ∧ EnsN (fun b => b ≠ s ∧ b ≠ Dl) H' as es ∧ ∀ e ∈ es, e.1.length ≤ 10 ∧ e.2.length ≤ 10, ⟨[], [], Fr.ex f1.2 (Ex.new hDl), upd_same, rfl, EnsN.nil, (fun e he => by cases he)⟩, fun i H' hi h => ⟨rfl, ?_⟩, fun H' h => ?_⟩
  · obtain ⟨as, es, f, gD, hel, hE, hb⟩ := h
    have hdr := (hd.fr f1).fr f
    have nDs := ne_st f1.2 hDl
    have hnl : (i : Int) ≤ 10 := by obtain ⟨d, rfl, hd2⟩ := hn; omega
    refine xw_pair (s := s) (σ := [some (.ref s), some (.ref a), some (.int (m : Int)), some (.int (i : Int))]) (H := H') (xw_name hdr rfl rfl) (LsF.fr hdr.1) (fun v G G' e (h : ∃ H0, StAt H0 s ∧ (∀ b, H' b ≠ none → H0 b ≠ none) ∧ LsF H0 v G) => by obtain ⟨H0, h0, h00, h⟩ := h; exact ⟨H0, h0, h00, LsF.ex v G G' e h⟩) (fun H2 f2 Q0 q0 => xw_text (m := 4) (hdr.fr f2) rfl rfl ev_c (by decide) _ fun v H3 f3 h => q0 v H3 f3 ⟨H2, f2.2, fun b hb hb2 => hb (f2.fresh hb2), h⟩) _ fun v H2 f2 hv => ?_
    obtain ⟨pt, v1, v2, rfl, hpt, gpt, ⟨p1, x1, rfl, hp1, gp1, hl1⟩, H0, st0, hk0, p2, x2, rfl, hp2, gp2, hl2⟩ := hv
    have gD2 := f2.l nDs gD
    have hDk : H' Dl ≠ none := by rw [gD]; exact fun z => nomatch z
    have kp : Kp (fun b => b ≠ s ∧ b ≠ Dl) H' (upd H2 Dl (.lst (as.map V.ref ++ [.ref pt]))) := (Kp.fr f2 (fun h => h.1 rfl)).mut fun h => absurd rfl h.2
    have nn : ∀ {b : Addr}, H' b = none → b ≠ s ∧ b ≠ Dl := fun h => ⟨ne_st hdr.1 h, ne_known h hDk⟩
    have n2 : p2 ≠ s ∧ p2 ≠ Dl := ⟨ne_st st0 hp2, ne_known hp2 (hk0 _ hDk)⟩
    refine ⟨_, gD2, sz_lt (by rw [List.length_map, hE.1, hel]; omega), as ++ [pt], es ++ [(x1, x2)], ?_, by rw [upd_same, List.map_append]; rfl, by rw [List.length_append, hel]; rfl, ?_, fun e he => ?_⟩
    · exact (f.trans f2).mut hDl nDs
    · exact (hE.kp kp).snoc (nn hpt) (by rw [upd_ne (nn hpt).2]; exact gpt) (nn hp1) (by rw [upd_ne (nn hp1).2]; exact gp1) n2 (by rw [upd_ne n2.2]; exact gp2)
    · rcases List.mem_append.mp he with he | he
      · exact hb e he
      · rw [List.mem_singleton.mp he]; exact ⟨hl1, hl2⟩
  · obtain ⟨as, es, f, gD, hel, hE, hb⟩ := h
    obtain ⟨d, rfl, hd2⟩ := hn
    exact k Dl as es H' (f1.fresh hDl) (f1.trans f) gD hE (by omega) hb

-- K52E
theorem upI_add {p : Int} (h : 65 ≤ p ∧ p ≤ 90) : upI (p + 32) = upI p := by
  unfold upI
  rw [if_pos (by omega), if_neg (by omega)]
  omega
theorem upI_sub {p : Int} (h : 97 ≤ p ∧ p ≤ 122) : upI (p - 32) = upI p := by
  unfold upI
  rw [if_neg (by omega), if_pos h]
theorem upS_snoc {xs nm : List Int} {i : Nat} {y p : Int} (h : upS xs = upS (nm.take i)) (hp : nm[i]? = some p) (hy : upI y = upI p) : upS (xs ++ [y]) = upS (nm.take (i + 1)) := by
  unfold upS at *
  rw [take_at hp, List.map_append, List.map_append, h]
  show _ ++ [upI y] = _ ++ [upI p]
  rw [hy]
def sp_ltur (K : PySem.W.Frag) : Sp := fun vs H Q _ => ∃ (s a n : Addr) (ns nm : List Int), vs = [.ref s, .ref a, .ref n] ∧ DrS K H s a ns ∧ n ≠ s ∧ H n = some (.lst (nm.map V.int)) ∧ nm.length ≤ 100 ∧ ∀ p (xs : List Int) H', H p = none → Fr s H H' → H' p = some (.lst (xs.map V.int)) → upS xs = upS nm → xs.length ≤ 100 → Q (.ref p) H'
theorem ok_law_turned (T : TX K mg) : FnOk P w K mg base CX0 3 T.a_law_turned T.d_law_turned ["state", "script", "name"] (sp_ltur K) := by
  refine T.F_law_turned.ok sc_law_turned (fun vs H Q E h => by obtain ⟨s, a, n, ns, nm, rfl, _⟩ := h; rfl) (fun cdv A outer s0 H vs Q E hr h => ?_)
  obtain ⟨s, a, n, ns, nm, rfl, hd, hns, gn, hnl, k⟩ := h
  refine ⟨_, (pss_cons (ps_set (i := 3) sc_law_turned.nd rfl (Or.inl rfl) (pe_lst pa_nil))
      (pss_cons (ps_for PassesOwn.never rfl (pi_list (pv 2)) (pg_name (i := 4) sc_law_turned.nd rfl (Or.inl rfl)) (pss_cons (ps_if (PW.pt (pw_and (pt_chain op_le op_le pe_int (pv 4) pe_int) (pw_and1 (pt_cmpR op_eq (pe_call (ok_law_draw T) (hr.mono (by decide)) (by rfl) T.g_law_draw T.F_law_draw.kp T.b_law_draw .nil pass0 (pa_cons (pv 0) (pa_cons (pv 1) (pa_cons pe_int pa_nil)))) pe_int (nomark _))))) (pss_one (ps_set (i := 4) sc_law_turned.nd rfl (Or.inl rfl) (pe_op op_add (pv 4) pe_int))) (pss_one (ps_if (PW.pt (pw_and (pt_chain op_le op_le pe_int (pv 4) pe_int) (pw_and1 (pt_cmpR op_eq (pe_call (ok_law_draw T) (hr.mono (by decide)) (by rfl) T.g_law_draw T.F_law_draw.kp T.b_law_draw .nil pass0 (pa_cons (pv 0) (pa_cons (pv 1) (pa_cons pe_int pa_nil)))) pe_int (nomark _))))) (pss_one (ps_set (i := 4) sc_law_turned.nd rfl (Or.inl rfl) (pe_op op_sub (pv 4) pe_int))) pss_nil)))
        (pss_one (ps_expr (pe_bm PySem.F.plainAttrs_list PySem.F.slot_list_append PySem.F.type_list_append mt_append (pv 3) (pa_cons (pv 4) pa_nil))))))
      (pss_one (ps_ret (pv 3))))), ?_⟩
  refine q_asgL (xs := []) (el_lst ea_nil (by decide)) fun p H2 hp e2 gp => ?_
  have nps := ne_st hd.1 hp
  have npn : n ≠ p := by rintro rfl; rw [hp] at gn; cases gn
  show tSeq _ _ _ [some (.ref s), some (.ref a), some (.ref n), some (.ref p), none] _
  refine q_forLn (K := K) (a := n) (xs := nm.map V.int) (ev_var rfl) (sq_of (e2 _ _ gn)) (fun i σ' H' => ∃ (xs : List Int) (z4 : Option V), σ' = [some (.ref s), some (.ref a), some (.ref n), some (.ref p), z4] ∧ Fr s H H' ∧ H' p = some (.lst (xs.map V.int)) ∧ xs.length = i ∧ i ≤ nm.length ∧ upS xs = upS (nm.take i)) (fun H3 e3 => ⟨[], none, rfl, Fr.ex hd.1 (e2.trans e3), e3 _ _ gp, rfl, Nat.zero_le _, rfl⟩) (fun i σ' H' _ h => by obtain ⟨_, _, _, f, _⟩ := h; exact sq_of (f.l hns gn)) ?_ ?_
  · rintro i v σ' H3 hv ⟨xs, z4, rfl, f, gp3, hxl, _, hup⟩
    obtain ⟨x, hx, hi, rfl⟩ := int_at hv
    have hd3 := hd.fr f
    refine qw_bothI (R := fun y => upI y = upI x) (j := 4) (wt_and (wt_ev hd3.1 (et_test (ev_chain (g := fun i j => decide (i ≤ j)) (g' := fun i j => decide (i ≤ j)) ev_c (ev_var rfl) ev_c))) fun H4 f4 _ => wt_eq (wi_draw (n := 2) (hd3.fr f4) rfl rfl ev_c (by decide) (by decide)) fun H5 f5 => wi_ev f5.2 ev_c) (fun hp D' H4 f4 kk => ?_) (fun _ D' H4 f4 kk => ?_) fun y H4 hy f4 => ?_
    · have hx2 : 65 ≤ x ∧ x ≤ 90 := by
        rcases hp with ⟨_, h⟩ | ⟨h, _⟩
        · cases h
        · have h := h.symm
          rw [Bool.and_eq_true, decide_eq_true_eq, decide_eq_true_eq] at h
          exact h
      exact s_asg (v := .int (x + 32)) (ev_I0 (g := fun i j => .int (i + j)) (ev_var rfl) ev_c) fun H5 e5 => kk _ H5 (upI_add hx2) (f4.tex e5)
    · refine sw_whenI (R := fun y => upI y = upI x) (j := 4) (x := x) rfl (wt_and (wt_ev f4.2 (et_test (ev_chain (g := fun i j => decide (i ≤ j)) (g' := fun i j => decide (i ≤ j)) ev_c (ev_var rfl) ev_c))) fun H5 f5 _ => wt_eq (wi_draw (n := 2) ((hd3.fr f4).fr f5) rfl rfl ev_c (by decide) (by decide)) fun H6 f6 => wi_ev f6.2 ev_c) (fun hp H5 f5 => ?_) (fun _ => rfl) fun y H5 hy f5 => kk y H5 hy (f4.trans f5)
      have hx2 : 97 ≤ x ∧ x ≤ 122 := by
        rcases hp with ⟨_, h⟩ | ⟨h, _⟩
        · cases h
        · have h := h.symm
          rw [Bool.and_eq_true, decide_eq_true_eq, decide_eq_true_eq] at h
          exact h
      exact s_asg (v := .int (x - 32)) (ev_I0 (g := fun i j => .int (i - j)) (ev_var rfl) ev_c) fun H6 e6 => kk _ H6 (upI_sub hx2) (f4.trans (f5.tex e6))
    · exact s_app (f4.l nps gp3) (ev_var rfl) (ev_var rfl) (by rw [List.length_map]; omega) fun H6 e6 => ⟨xs ++ [y], _, rfl, (f.trans (f4.tex e6)).mut hp nps, by rw [upd_same, List.map_append]; rfl, by rw [List.length_append, hxl]; rfl, hi, upS_snoc hup hx hy⟩
  · rintro σ' H3 ⟨xs, z4, rfl, f, gp3, hxl, _, hup⟩
    rw [List.length_map] at hxl hup
    rw [List.take_length] at hup
    exact s_ret (ev_var rfl) fun H4 e4 => k p xs H4 hp (f.tex e4) (e4 _ _ gp3) hup (by omega)
theorem ex_put {ta tb : TE} {σ : L2.St} {H : Hp} {pk : Addr} {ks : List Addr} {nm : List Int} {rs : List (List Int)} (ha : Ev ta σ H (.ref pk)) (gk : H pk = some (.lst (ks.map V.ref))) (hk : (ks.map V.ref).length ≤ 1000) (hb : EvX tb σ H (fun v G => ∃ (p : Addr) (as : List Addr), v = .ref p ∧ H p = none ∧ G p = some (.lst (as.map V.ref)) ∧ EnsN (fun _ => True) G as (insE nm rs))) (hl : rs.length ≤ 1000) : EvX (tOp rCat ta tb) σ H (fun v G => ∃ (r : Addr) (is : List Addr), v = .ref r ∧ H r = none ∧ G r = some (.lst ((ks ++ is).map V.ref)) ∧ EnsN (fun b => b ≠ r) G is (insE nm rs)) := fun H1 e Q q =>
  ha H1 e _ fun H2 e2 => hb H2 (e.trans e2) _ fun v H3 e3 ⟨p, is, hv, _, gp, hI⟩ => ⟨pk, p, _, _, rfl, hv, ((e.trans e2).trans e3) _ _ gk, gp, sz_of (by rw [List.length_map (as := is), hI.1]; unfold insE; rw [List.length_map (as := rs)]; omega), fun r hr => q (.ref r) _ ((e2.trans e3).trans (Ex.new hr)) ⟨r, is, rfl, fresh_back (e.trans (e2.trans e3)) hr, by rw [upd_same, List.map_append], (hI.imp fun b hb _ => (ne_known hr hb).symm).ex (Ex.new hr)⟩⟩
def sp_lchg : Sp := fun vs H Q _ => ∃ (l n t : Addr) (as qs : List Addr) (nm : List Int) (es : List En) (rs : List (List Int)), vs = [.ref l, .ref n, .ref t] ∧ H l = some (.lst (as.map V.ref)) ∧ EnsN (fun _ => True) H as es ∧ H n = some (.lst (nm.map V.int)) ∧ H t = some (.lst (qs.map V.ref)) ∧ TxN (fun _ => True) H qs rs ∧ EnB es ∧ nm.length ≤ 100 ∧ rs.length ≤ 100 ∧ ∀ p (as' : List Addr) H', H p = none → Ex H H' → H' p = some (.lst (as'.map V.ref)) → EnsN (fun _ => True) H' as' (withV es nm rs) → Q (.ref p) H'
theorem ok_law_changed (T : TX K mg) : FnOk P w K mg base CX0 2 T.a_law_changed T.d_law_changed ["entries", "name", "texts"] sp_lchg := by
  refine T.F_law_changed.ok sc_law_changed (fun vs H Q E h => by obtain ⟨l, n, t, as, qs, nm, es, rs, rfl, _⟩ := h; rfl) (fun cdv A outer s H vs Q E hr h => ?_)
  obtain ⟨l, n, t, as, qs, nm, es, rs, rfl, gl, hE, gn, gt, hT, hB, hnl, hrl, k⟩ := h
  refine ⟨_, (pss_cons (ps_set (i := 3) sc_law_changed.nd rfl (Or.inl rfl) (pe_lst pa_nil))
      (pss_cons (ps_set (i := 4) sc_law_changed.nd rfl (Or.inl rfl) pe_bl)
      (pss_cons (ps_for PassesOwn.never rfl (pi_list (pv 0)) (pg_name (i := 5) sc_law_changed.nd rfl (Or.inl rfl)) (pss_one (ps_if (pt_cmpR (op_neD (hu64 hr)) (pe_call (ok_law_upper T) (hr.mono (by decide)) (by rfl) T.g_law_upper T.F_law_upper.kp T.b_law_upper .nil pass0 (pa_cons (pe_ix (r := rIxT K) ix_tup (pv 5) pe_int (fun _ _ => rfl)) pa_nil)) (pe_call (ok_law_upper T) (hr.mono (by decide)) (by rfl) T.g_law_upper T.F_law_upper.kp T.b_law_upper .nil pass0 (pa_cons (pv 1) pa_nil)) (nomark _)) (pss_one (ps_expr (pe_bm PySem.F.plainAttrs_list PySem.F.slot_list_append PySem.F.type_list_append mt_append (pv 3) (pa_cons (pv 5) pa_nil)))) (pss_one (ps_if (pt_not (pt_val (pv 4))) (pss_cons (ps_set (i := 3) sc_law_changed.nd rfl (Or.inl rfl) (pe_op op_cat (pv 3) (pe_lc (own := [("text", 6)]) (g := gName 6) (tt := tYes) rfl sc_law_changed.nd (pi_list (pv 2)) (blkOk_by (N := ["entries", "name", "texts", "changed", "done", "entry", "text"]) (sc := defScope s_law_changed) (by decide +kernel)) (fun _ _ _ _ _ => pg_name (i := 6) sc_law_changed.nd rfl (Or.inl rfl)) (fun _ _ _ _ _ => pts_nil) (fun _ _ _ _ _ => (pe_tup (pa_cons (pv 1) (pa_cons (pv 6) pa_nil)))))))
            (pss_one (ps_set (i := 4) sc_law_changed.nd rfl (Or.inl rfl) pe_bl))) pss_nil)))))
      (pss_cons (ps_if (pt_not (pt_val (pv 4))) (pss_one (ps_set (i := 3) sc_law_changed.nd rfl (Or.inl rfl) (pe_op op_cat (pv 3) (pe_lc (own := [("text", 6)]) (g := gName 6) (tt := tYes) rfl sc_law_changed.nd (pi_list (pv 2)) (blkOk_by (N := ["entries", "name", "texts", "changed", "done", "entry", "text"]) (sc := defScope s_law_changed) (by decide +kernel)) (fun _ _ _ _ _ => pg_name (i := 6) sc_law_changed.nd rfl (Or.inl rfl)) (fun _ _ _ _ _ => pts_nil) (fun _ _ _ _ _ => (pe_tup (pa_cons (pv 1) (pa_cons (pv 6) pa_nil)))))))) pss_nil)
      (pss_one (ps_ret (pv 3))))))), ?_⟩
  have hl1 := hB.1
  have hil : (insE nm rs).length = rs.length := List.length_map ..
  have nH : ∀ {b p : Addr} {o : HO}, H p = none → H b = some o → b ≠ p := fun hp h => by rintro rfl; rw [hp] at h; cases h
  refine q_asgL (xs := []) (el_lst ea_nil (by decide)) fun pk H1 hpk e1 g1 => ?_
  refine q_asg (v := .bl false) ev_c fun H2 e2 => ?_
  have e12 := e1.trans e2
  show tSeq _ _ _ [some (.ref l), some (.ref n), some (.ref t), some (.ref pk), some (.bl (atO nm (es.take 0)).isSome), none, none] _
  have up : ∀ {te : TE} {σ : L2.St} {G : Hp} {E : XK} {b : Addr} {x : List Int}, Ev te σ G (.ref b) → G b = some (.lst (x.map V.int)) → x.length ≤ 100 → EvS K (tCall (sp_up K) [] E (tCons te tNil)) σ G ((upS x).map V.int) := fun h g hl => es_up (Ev.s h (sq_of g)) (by omega)
  refine q_forLn (K := K) (a := l) (xs := as.map V.ref) (ev_var rfl) (sq_of (e12 _ _ gl)) (fun i σ' H' => ∃ (pk : Addr) (ks : List Addr) (z5 z6 : Option V), σ' = [some (.ref l), some (.ref n), some (.ref t), some (.ref pk), some (.bl (atO nm (es.take i)).isSome), z5, z6] ∧ Ex H H' ∧ H pk = none ∧ H' pk = some (.lst (ks.map V.ref)) ∧ EnsN (fun b => b ≠ pk) H' ks (accE nm (insE nm rs) (es.take i))) (fun H3 e3 => ⟨pk, [], none, none, rfl, e12.trans e3, hpk, (e2.trans e3) _ _ g1, EnsN.nil⟩) (fun i σ' H' _ h => by obtain ⟨_, _, _, _, _, ex, _⟩ := h; exact sq_of (ex _ _ gl)) ?_ ?_
  · rintro i x σ' H3 hx ⟨pk, ks, z5, z6, rfl, ex, hpk, gk, hK⟩
    obtain ⟨ai, e, hai, hei, rfl, hi, _, pn, pw, q0, _, q1, _, q2⟩ := hE.get hx
    have g0 := ex _ _ q0
    have hel := hB.2 e (List.mem_of_getElem? hei)
    have hal := accE_len nm (insE nm rs) (es.take i)
    rw [List.length_take, hil] at hal
    have hml : ks.length ≤ 200 := by rw [hK.1]; omega
    have ha := atO_snoc nm e (es.take i)
    have hac := accE_snoc nm (insE nm rs) (es.take i) e
    rw [← take_at hei] at ha hac
    refine s_if (b := !mt e.1 nm) (et_is (et_test (ev_neI (K := K) (up (ev_atT (K := K) (n := 0) (ev_var rfl) (st_of g0) ev_c (at_of (j := 0) rfl rfl)) (ex _ _ q1) hel) (up (ev_var rfl) (ex _ _ gn) hnl))) rfl) (fun hb H4 e4 => ?_) (fun hb H4 e4 => ?_)
    · have hm : ¬ mt e.1 nm = true := by intro h; rw [h] at hb; cases hb
      rw [if_neg hm] at hac
      have hat : atO nm (es.take (i + 1)) = atO nm (es.take i) := by
        rw [ha]
        cases atO nm (es.take i) with
        | some k => rfl
        | none => exact if_neg hm
      refine s_app (e4 _ _ gk) (ev_var rfl) (ev_var rfl) (by rw [List.length_map]; omega) fun H5 e5 => ⟨pk, ks ++ [ai], _, _, by rw [hat]; rfl, Ex.mut (ex.trans (e4.trans e5)) hpk, hpk, by rw [upd_same, List.map_append]; rfl, ?_⟩
      have e35 := ex.trans (e4.trans e5)
      rw [hac]
      exact (hK.kp ((Kp.ex (e4.trans e5)).mut fun h => absurd rfl h)).snoc (nH hpk q0) (by rw [upd_ne (nH hpk q0)]; exact e35 _ _ q0) (nH hpk q1) (by rw [upd_ne (nH hpk q1)]; exact e35 _ _ q1) (nH hpk q2) (by rw [upd_ne (nH hpk q2)]; exact e35 _ _ q2)
    · have hm : mt e.1 nm = true := by cases h : mt e.1 nm with | true => rfl | false => rw [h] at hb; cases hb
      rw [if_pos hm] at hac
      have e34 := ex.trans e4
      cases hat : atO nm (es.take i) with
      | some a0 =>
        rw [hat] at ha hac
        exact s_when (b := false) (et_is (et_not (et_B (ev_var rfl))) rfl) (fun h => by cases h) fun _ H5 e5 => ⟨pk, ks, _, _, by rw [ha]; rfl, e34.trans e5, hpk, (e4.trans e5) _ _ gk, by rw [hac]; exact hK.ex (e4.trans e5)⟩
      | none =>
        rw [hat] at ha hac
        have ha : (atO nm (es.take (i + 1))).isSome = true := by rw [ha]; show (if mt e.1 nm = true then _ else none).isSome = true; rw [if_pos hm]; rfl
        refine s_when (b := true) (et_is (et_not (et_B (ev_var rfl))) rfl) (fun _ H5 e5 => ?_) (fun h => by cases h)
        have e45 := e4.trans e5
        have e35 := ex.trans e45
        refine q_asgX (ex_put (ks := ks) (nm := nm) (rs := rs) (ev_var rfl) (e45 _ _ gk) (by rw [List.length_map]; omega) (ex_ins (n := n) (nm := nm) (rs := rs) (ev_var rfl) (e35 _ _ gt) (hT.ex e35) (e35 _ _ gn) (by omega) (fun _ => rfl) (fun _ => rfl) (fun _ => rfl)) (by omega)) fun v H6 e6 hv => ?_
        obtain ⟨p, is, rfl, hp, gp, hI⟩ := hv
        refine s_asg (v := .bl true) ev_c fun H7 e7 => ⟨p, ks ++ is, _, _, by rw [ha]; rfl, e35.trans (e6.trans e7), fresh_back e35 hp, e7 _ _ gp, ?_⟩
        rw [hac]
        have hK2 : EnsN (fun b => b ≠ p) H5 ks (accE nm (insE nm rs) (es.take i)) := (hK.ex e45).imp fun b hb _ => (ne_known hp hb).symm
        exact ((hK2.ex e6).app hI).ex e7
  · rintro σ' H3 ⟨pk, ks, z5, z6, rfl, ex, hpk, gk, hK⟩
    rw [List.length_map, hE.1, List.take_length] at hK ⊢
    have hal := accE_len nm (insE nm rs) es
    rw [hil] at hal
    have hml : ks.length ≤ 200 := by rw [hK.1]; omega
    have hend := accE_end nm es rs
    cases hat : atO nm es with
    | some a0 =>
      rw [hat] at hend
      have hend : accE nm (insE nm rs) es = withV es nm rs := hend
      refine q_when (b := false) (et_is (et_not (et_B (ev_var rfl))) rfl) (fun h => by cases h) fun _ H5 e5 => ?_
      exact s_ret (ev_var rfl) fun H6 e6 => k pk ks H6 hpk (ex.trans (e5.trans e6)) ((e5.trans e6) _ _ gk) (by rw [← hend]; exact (hK.ex (e5.trans e6)).imp fun _ _ _ => trivial)
    | none =>
      rw [hat] at hend
      have hend : accE nm (insE nm rs) es ++ insE nm rs = withV es nm rs := hend
      refine q_when (b := true) (et_is (et_not (et_B (ev_var rfl))) rfl) (fun _ H5 e5 => ?_) (fun h => by cases h)
      have e35 := ex.trans e5
      refine ex_go (S := fun v G => ∃ (r : Addr) (is : List Addr), v = .ref r ∧ H5 r = none ∧ G r = some (.lst ((ks ++ is).map V.ref)) ∧ EnsN (fun b => b ≠ r) G is (insE nm rs)) (ex_put (ks := ks) (nm := nm) (rs := rs) (ev_var rfl) (e5 _ _ gk) (by rw [List.length_map]; omega) (ex_ins (n := n) (nm := nm) (rs := rs) (ev_var rfl) (e35 _ _ gt) (hT.ex e35) (e35 _ _ gn) (by omega) (fun _ => rfl) (fun _ => rfl) (fun _ => rfl)) (by omega)) fun v H6 e6 hv => ?_
      obtain ⟨p, is, rfl, hp, gp, hI⟩ := hv
      refine s_ret (ev_var rfl) fun H7 e7 => k p (ks ++ is) H7 (fresh_back e35 hp) (e35.trans (e6.trans e7)) (e7 _ _ gp) ?_
      rw [← hend]
      exact (((hK.ex (e5.trans e6)).imp fun _ _ _ => trivial).app (hI.imp fun _ _ _ => trivial)).ex e7

-- K52F
/-! ### words for the law -/
section
variable {s : Addr} {σ : L2.St} {H : Hp} {te to ta tb : TE} {tu tz : TS} {D : Ends} {S : V → Hp → Prop} {p : Bool → Prop} {t : TT} {i j : Nat} {C a dx : Addr} {fs : List (Str × V)} {m : Str} {sp : Sp} {dvs : List V} {E : XK} {tr : TA} {R : List V → Hp → Prop}
theorem q_asgXW (h : EvXW s te σ H S) (k : ∀ v H1, Fr s H H1 → S v H1 → tz D (σ.set i (some v)) H1) : tSeq (tAsg te (gName i)) tz D σ H := h _ k
theorem qw_whenX {v0 : V} (hσ : σ = σ.set j (some v0)) (h : EvTW s t σ H p) (h1 : p true → ∀ (D' : Ends) H1, Fr s H H1 → (∀ v H2, S v H2 → Fr s H H2 → D'.nx (σ.set j (some v)) H2) → tu D' σ H1) (hx : p false → ∀ H1, Fr s H H1 → S v0 H1) (k : ∀ v H1, S v H1 → Fr s H H1 → tz D (σ.set j (some v)) H1) : tSeq (tIfS t tu tNext) tz D σ H := h _ fun b H1 f hb => by
  cases b with
  | true => exact h1 hb { D with nx := tz D } H1 f fun v H2 hS f2 => k v H2 hS f2
  | false =>
    have := k v0 H1 (hx hb H1 f) f
    rw [← hσ] at this
    exact this
theorem ex_meth (h : Ev to σ H (.ref a)) (hx : H a = some (.ins C dx fs)) (hm : fs.lookup m = none) (ha : EvAP tr σ H R) (k : ∀ vs H1 (Q : VK) (E : XK), Ex H H1 → R vs H1 → (∀ v H2, Ex H1 H2 → S v H2 → Q v H2) → sp (.ref a :: (vs ++ dvs)) H1 Q E) : EvX (tMeth C m sp dvs E to tr) σ H S := fun H1 e Q q =>
  h H1 e _ fun H2 e2 => ⟨a, dx, fs, rfl, (e.trans e2) _ _ hx, hm, ha H2 (e.trans e2) _ fun vs H3 e3 hR => k vs H3 _ _ ((e.trans e2).trans e3) hR fun v H4 e4 hS => q v H4 ((e2.trans e3).trans e4) hS⟩
theorem EvX.d {d : PyData} (h : EvX te σ H S) (hd : ∀ v G, S v G → Dp K G v d) : EvD K te σ H d := fun H1 e Q q => h H1 e _ fun v H2 e2 hS => q v H2 e2 (hd v H2 hS)
def EvDW (K : PySem.W.Frag) (s : Addr) (te : TE) (σ : L2.St) (H : Hp) (d : PyData) : Prop := ∀ Q : VK, (∀ v H2, Fr s H H2 → Dp K H2 v d → Q v H2) → te σ H Q
theorem wt_neDD {d : PyData} (h1 : EvDW K s ta σ H d) (h2 : ∀ H1, Fr s H H1 → EvD K tb σ H1 d) (hs : SeqAt.shaped d = true) : EvTW s (tTest (tOp (rNeD K) ta tb)) σ H (fun b => b = false) := fun Q k =>
  h1 _ fun v H2 f2 hv => h2 H2 f2 H2 (Ex.refl _) _ fun u H3 e3 hu => ⟨d, d, dp_ex e3 d v hv, hu, hs, hs, false, by rw [SeqAt.eqv_refl d (SeqAt.canLay_of_shaped hs)]; rfl, k false H3 (f2.tex e3) rfl⟩
end
/-- [list(x) for x in xs] -/
theorem ex_copyT {σ : L2.St} {H : Hp} {t1 : TE} {l : Addr} {qs : List Addr} {rs : List (List Int)} {j : Nat} {vs : List Nat} (h : Ev t1 σ H (.ref l)) (gl : H l = some (.lst (qs.map V.ref))) (hT : TxN (fun _ => True) H qs rs) (hl : rs.length ≤ 1000)
    (hj : ∀ x : V, ((wipe σ vs).set j (some x))[j]? = some (some x)) (hw : ∀ x : V, wipe ((wipe σ vs).set j (some x)) vs = wipe σ vs) : EvX (tLc (iList K t1) (gName j) tYes (tCB (rListS K) (tCons (tVar j) tNil)) vs) σ H (fun v G => ∃ (p : Addr) (as : List Addr), v = .ref p ∧ H p = none ∧ G p = some (.lst (as.map V.ref)) ∧ TxN (fun b => H b = none ∧ b ≠ p) G as rs) := fun H1 e1 Q q =>
  tlc_lstG (K := K) ((Ev.s h (sq_of gl)).mono e1) fun p1 H3 e3 hp1 Dl hDl => ⟨fun i H' => ∃ as' : List Addr, Ex H3 H' ∧ H' Dl = some (.lst (as'.map V.ref)) ∧ TxN (fun b => H3 b = none ∧ b ≠ Dl) H' as' (rs.take i), ⟨[], Ex.new hDl, upd_same, TxN.nil⟩, fun i H' h => by obtain ⟨_, ex, _⟩ := h; exact ex_l ex hp1, fun k x H' hx h => ⟨hw x, by
    obtain ⟨as', ex, gD, hEp⟩ := h
    have e03 := (e1.trans e3).trans ex
    obtain ⟨a, r, ha, hr, rfl, hk, _, ga⟩ := (hT.ex e03).get hx
    refine el_go (el_of (K := K) (Ev.s (ev_var (hj _)) (sq_of ga))) fun pt H4 hpt e4 gpt => ?_
    have neD : pt ≠ Dl := ne_known hpt (by rw [gD]; exact fun z => nomatch z)
    refine ⟨_, e4 _ _ gD, sz_lt (by rw [List.length_map, hEp.1, List.length_take]; omega), as' ++ [pt], Ex.mut (ex.trans e4) hDl, by rw [upd_same, List.map_append]; rfl, ?_⟩
    rw [take_at hr]
    exact (hEp.kp ((Kp.ex e4).mut fun h => absurd rfl h.2)).snoc ⟨fresh_back ex hpt, neD⟩ (by rw [upd_ne neD]; exact gpt)⟩, fun H' h => by
    obtain ⟨as', ex, gD, hEp⟩ := h
    rw [List.length_map, hT.1, List.take_length] at hEp
    exact q _ _ (e3.trans ex) ⟨Dl, as', rfl, fresh_back (e1.trans e3) hDl, gD, hEp.imp fun b _ h => ⟨fresh_back (e1.trans e3) h.1, h.2⟩⟩⟩
/-- upper(entry[0]) compared with upper(name) -/
theorem ev_upeq {σ : L2.St} {H : Hp} {t1 t2 : TE} {E E2 : XK} {ai pn n : Addr} {v2 : V} {x nm : List Int} (h1 : Ev t1 σ H (.ref ai)) (g0 : H ai = some (.tup [.ref pn, v2])) (g1 : H pn = some (.lst (x.map V.int))) (h2 : Ev t2 σ H (.ref n)) (gn : H n = some (.lst (nm.map V.int))) (hx : x.length ≤ 100) (hn : nm.length ≤ 100) : Ev (tOp (rEqD K) (tCall (sp_up K) [] E (tCons (tOp (rIxT K) t1 (tC (.int 0))) tNil)) (tCall (sp_up K) [] E2 (tCons t2 tNil))) σ H (.bl (mt x nm)) :=
  ev_eqI (K := K) (es_up (Ev.s (ev_atT (K := K) (n := 0) h1 (st_of g0) ev_c (at_of (j := 0) rfl rfl)) (sq_of g1)) (by omega)) (es_up (Ev.s h2 (sq_of gn)) (by omega))
theorem ev_upne {σ : L2.St} {H : Hp} {t1 t2 : TE} {E E2 : XK} {ai pn n : Addr} {v2 : V} {x nm : List Int} (h1 : Ev t1 σ H (.ref ai)) (g0 : H ai = some (.tup [.ref pn, v2])) (g1 : H pn = some (.lst (x.map V.int))) (h2 : Ev t2 σ H (.ref n)) (gn : H n = some (.lst (nm.map V.int))) (hx : x.length ≤ 100) (hn : nm.length ≤ 100) : Ev (tOp (rNeD K) (tCall (sp_up K) [] E (tCons (tOp (rIxT K) t1 (tC (.int 0))) tNil)) (tCall (sp_up K) [] E2 (tCons t2 tNil))) σ H (.bl (!mt x nm)) :=
  ev_neI (K := K) (es_up (Ev.s (ev_atT (K := K) (n := 0) h1 (st_of g0) ev_c (at_of (j := 0) rfl rfl)) (sq_of g1)) (by omega)) (es_up (Ev.s h2 (sq_of gn)) (by omega))
/-- [entry for entry in entries if the names differ] -/
theorem ex_selE {σ : L2.St} {H : Hp} {t1 : TE} {E E2 : XK} {l n : Addr} {as : List Addr} {nm : List Int} {es : List En} {i j : Nat} {vs : List Nat} (h : Ev t1 σ H (.ref l)) (gl : H l = some (.lst (as.map V.ref))) (hE : EnsN (fun _ => True) H as es) (gn : H n = some (.lst (nm.map V.int))) (hB : EnB es) (hnl : nm.length ≤ 100)
    (hi : ∀ x : V, ((wipe σ vs).set j (some x))[i]? = some (some (.ref n))) (hj : ∀ x : V, ((wipe σ vs).set j (some x))[j]? = some (some x)) (hw : ∀ x : V, wipe ((wipe σ vs).set j (some x)) vs = wipe σ vs) : EvX (tLc (iList K t1) (gName j) (tTest (tOp (rNeD K) (tCall (sp_up K) [] E (tCons (tOp (rIxT K) (tVar j) (tC (.int 0))) tNil)) (tCall (sp_up K) [] E2 (tCons (tVar i) tNil)))) (tVar j) vs) σ H (fun v G => ∃ (p : Addr) (ks : List Addr), v = .ref p ∧ H p = none ∧ G p = some (.lst (ks.map V.ref)) ∧ EnsN (fun _ => True) G ks (missE nm es)) := fun H1 e1 Q q =>
  tlc_lstF (K := K) ((Ev.s h (sq_of gl)).mono e1) fun p1 H3 e3 hp1 Dl hDl => ⟨fun i H' => ∃ ks : List Addr, Ex H3 H' ∧ H' Dl = some (.lst (ks.map V.ref)) ∧ EnsN (fun b => b ≠ Dl) H' ks (missE nm (es.take i)), ⟨[], Ex.new hDl, upd_same, EnsN.nil⟩, fun i H' h => by obtain ⟨_, ex, _⟩ := h; exact ex_l ex hp1, fun k x H' hx h => ⟨hw x, by
    obtain ⟨ks, ex, gD, hK⟩ := h
    have e03 := (e1.trans e3).trans ex
    obtain ⟨ai, e, hai, hei, rfl, hk, _, pn, pw, q0, _, q1, _, q2⟩ := hE.get hx
    have hel := hB.2 e (List.mem_of_getElem? hei)
    have hl1 := hB.1
    have hkl := missE_len (es.take k) nm
    rw [List.length_take] at hkl
    have hmi := missE_snoc nm (es.take k) e
    rw [← take_at hei] at hmi
    have nH : ∀ {b : Addr} {o : HO}, H b = some o → b ≠ Dl := fun h => by rintro rfl; rw [(e1.trans e3) _ _ h] at hDl; cases hDl
    refine et_go (et_test (ev_upne (nm := nm) (ev_var (hj _)) (e03 _ _ q0) (e03 _ _ q1) (ev_var (hi _)) (e03 _ _ gn) hel hnl)) fun H4 e4 => ?_
    by_cases hm : mt e.1 nm = true
    · rw [if_pos hm] at hmi
      rw [hm, if_neg (by decide)]
      exact ⟨ks, ex.trans e4, e4 _ _ gD, by rw [hmi]; exact hK.ex e4⟩
    · rw [if_neg hm] at hmi
      have hm2 : mt e.1 nm = false := by cases h : mt e.1 nm with | true => exact absurd h hm | false => rfl
      rw [hm2, Bool.not_false, if_pos rfl]
      refine ev_go (ev_var (hj _)) fun H5 e5 => ?_
      have e45 := e4.trans e5
      have e05 := e03.trans e45
      refine ⟨_, e45 _ _ gD, sz_lt (by rw [List.length_map, hK.1]; omega), ks ++ [ai], Ex.mut (ex.trans e45) hDl, by rw [upd_same, List.map_append]; rfl, ?_⟩
      rw [hmi]
      exact (hK.kp ((Kp.ex e45).mut fun h => absurd rfl h)).snoc (nH q0) (by rw [upd_ne (nH q0)]; exact e05 _ _ q0) (nH q1) (by rw [upd_ne (nH q1)]; exact e05 _ _ q1) (nH q2) (by rw [upd_ne (nH q2)]; exact e05 _ _ q2)⟩, fun H' h => by
    obtain ⟨ks, ex, gD, hK⟩ := h
    rw [List.length_map, hE.1, List.take_length] at hK
    exact q _ _ (e3.trans ex) ⟨Dl, ks, rfl, fresh_back (e1.trans e3) hDl, gD, hK.imp fun _ _ _ => trivial⟩⟩
/-- for x in xs: x.append(e) -/
theorem q_appAll {σ : L2.St} {H : Hp} {t1 t2 : TE} {tz : TS} {D : Ends} {l : Addr} {qs : List Addr} {j : Nat} {v : V} {P : Hp → Prop} (h : Ev t1 σ H (.ref l)) (gl : H l = some (.lst (qs.map V.ref))) (hq : ∀ q ∈ qs, q ≠ l ∧ ∃ xs, H q = some (.lst xs) ∧ xs.length ≤ 1000) (hl : qs.length ≤ 1000) (hP : P H) (hPe : ∀ G G', P G → Ex G G' → P G') (hPm : ∀ G q o, q ∈ qs → P G → P (upd G q o))
    (hj : ∀ (σ' : L2.St) (x : V), (σ' = σ ∨ ∃ z, σ' = σ.set j z) → (σ'.set j (some x))[j]? = some (some x)) (ht : ∀ (σ' : L2.St) G, Ev t2 σ' G v) (k : ∀ σ' H1, (σ' = σ ∨ ∃ z, σ' = σ.set j z) → P H1 → H1 l = some (.lst (qs.map V.ref)) → tz D σ' H1) : tSeq (tFor (iList K t1) (gName j) (tDrop (tBM K "list" rAppend (tVar j) (tCons t2 tNil)))) tz D σ H := by
  refine q_forLn (K := K) (a := l) (xs := qs.map V.ref) h (sq_of gl) (fun i σ' H' => (σ' = σ ∨ ∃ z, σ' = σ.set j z) ∧ i ≤ qs.length ∧ P H' ∧ H' l = some (.lst (qs.map V.ref)) ∧ ∀ q ∈ qs, ∃ xs, H' q = some (.lst xs) ∧ xs.length ≤ 1000 + i) (fun H1 e1 => ⟨.inl rfl, Nat.zero_le _, hPe _ _ hP e1, e1 _ _ gl, fun q hq' => by obtain ⟨_, xs, g, hx⟩ := hq q hq'; exact ⟨xs, e1 _ _ g, hx⟩⟩) (fun i σ' H' _ h => sq_of h.2.2.2.1) ?_ ?_
  · rintro i x σ' H' hx ⟨hσ, hi, hP', gl', hall⟩
    rw [List.getElem?_map] at hx
    obtain ⟨q, hqi, rfl⟩ := Option.map_eq_some_iff.mp hx
    have hm := List.mem_of_getElem? hqi
    have hlt := (List.getElem?_eq_some_iff.mp hqi).1
    obtain ⟨xs, g, hxl⟩ := hall q hm
    refine s_app g (ev_var (hj σ' _ hσ)) (ht _ _) (by omega) fun H2 e2 => ⟨.inr ?_, hlt, hPm _ _ _ hm (hPe _ _ hP' e2), by rw [upd_ne (Ne.symm (hq q hm).1)]; exact e2 _ _ gl', fun r hr => ?_⟩
    · rcases hσ with rfl | ⟨z, rfl⟩
      · exact ⟨_, rfl⟩
      · exact ⟨_, List.set_set ..⟩
    · by_cases hrq : r = q
      · subst hrq
        exact ⟨_, upd_same, by rw [List.length_append]; show xs.length + 1 ≤ _; omega⟩
      · obtain ⟨ys, gy, hy⟩ := hall r hr
        exact ⟨ys, by rw [upd_ne hrq]; exact e2 _ _ gy, by omega⟩
  · rintro σ' H' ⟨hσ, _, hP', gl', _⟩
    exact k σ' H' hσ hP' gl'
/-- for entry in entries: entry[0].append(e); entry[1].append(e) -/
theorem q_appAllE {σ : L2.St} {H : Hp} {t1 t2 : TE} {tz : TS} {D : Ends} {l : Addr} {as : List Addr} {es : List En} {j : Nat} {v : V} {P : Hp → Prop} {N : Addr → Prop} (h : Ev t1 σ H (.ref l)) (gl : H l = some (.lst (as.map V.ref))) (hE : EnsN N H as es) (hb : ∀ e ∈ es, e.1.length ≤ 1000 ∧ e.2.length ≤ 1000) (hl : es.length ≤ 1000) (hP : P H) (hPe : ∀ G G', P G → Ex G G' → P G') (hPm : ∀ G q o, N q → P G → P (upd G q o))
    (hj : ∀ (σ' : L2.St) (x : V), (σ' = σ ∨ ∃ z, σ' = σ.set j z) → (σ'.set j (some x))[j]? = some (some x)) (ht : ∀ (σ' : L2.St) G, Ev t2 σ' G v) (k : ∀ σ' H1, (σ' = σ ∨ ∃ z, σ' = σ.set j z) → P H1 → (∀ (b : Addr) (o : HO), (∀ ys, o ≠ .lst ys) → H b = some o → H1 b = some o) → (∀ (b : Addr) (ys : List Int), H b = some (.lst (ys.map V.int)) → ys.length ≤ 1000 → ∃ xs, H1 b = some (.lst xs) ∧ xs.length ≤ 4000) → tz D σ' H1) : tSeq (tFor (iList K t1) (gName j) (tSeq (tDrop (tBM K "list" rAppend (tOp (rIxT K) (tVar j) (tC (.int 0))) (tCons t2 tNil))) (tDrop (tBM K "list" rAppend (tOp (rIxT K) (tVar j) (tC (.int 1))) (tCons t2 tNil))))) tz D σ H := by
  refine q_forLn (K := K) (a := l) (xs := as.map V.ref) h (sq_of gl) (fun i σ' H' => (σ' = σ ∨ ∃ z, σ' = σ.set j z) ∧ i ≤ es.length ∧ P H' ∧ H' l = some (.lst (as.map V.ref)) ∧ (∀ (b : Addr) (o : HO), (∀ ys, o ≠ .lst ys) → H b = some o → H' b = some o) ∧ ∀ (b : Addr) (ys : List Int), H b = some (.lst (ys.map V.int)) → ys.length ≤ 1000 → ∃ xs, H' b = some (.lst xs) ∧ xs.length ≤ 1000 + 2 * i) (fun H1 e1 => ⟨.inl rfl, Nat.zero_le _, hPe _ _ hP e1, e1 _ _ gl, fun b o _ g => e1 _ _ g, fun b ys g hy => ⟨_, e1 _ _ g, by rw [List.length_map]; omega⟩⟩) (fun i σ' H' _ h => sq_of h.2.2.2.1) ?_ ?_
  · rintro i x σ' H' hx ⟨hσ, _, hP', gl', htu, hls⟩
    obtain ⟨ai, e, hai, hei, rfl, hi, _, pn, pv, q0, n1, q1, n2, q2⟩ := hE.get hx
    have hbe := hb e (List.mem_of_getElem? hei)
    have hmem := List.mem_of_getElem? hai
    have hil := (List.getElem?_eq_some_iff.mp hei).1
    have nl : ∀ {b : Addr} {ys : List Int}, H b = some (.lst (ys.map V.int)) → b ≠ l := fun {b ys} g => by
      rintro rfl
      rw [gl] at g
      injection g with g
      injection g with g
      cases as with
      | nil => cases hmem
      | cons a0 r =>
        cases ys with
        | nil => cases g
        | cons y t => injection g with g _; cases g
    have nt : ∀ {a b : Addr} {o : HO} {ys : List Int}, H b = some (.lst (ys.map V.int)) → (∀ zs, o ≠ .lst zs) → H a = some o → a ≠ b := fun g1 ho g2 => by rintro rfl; rw [g1] at g2; injection g2 with g2; exact ho _ g2.symm
    have ntup : ∀ zs, HO.tup [.ref pn, .ref pv] ≠ .lst zs := fun zs h => by cases h
    have g0 := htu ai _ ntup q0
    obtain ⟨xs1, g1, hx1⟩ := hls pn e.1 q1 hbe.1
    refine q_app (l := pn) (xs := xs1) g1 (ev_atT (K := K) (n := 0) (ev_var (hj σ' _ hσ)) (st_of g0) ev_c (at_of (j := 0) rfl rfl)) (ht _ _) (by omega) fun H2 e2 => ?_
    have hl2 : ∀ (b : Addr) (ys : List Int), H b = some (.lst (ys.map V.int)) → ys.length ≤ 1000 → ∃ xs, upd H2 pn (.lst (xs1 ++ [v])) b = some (.lst xs) ∧ xs.length ≤ 1001 + 2 * i := fun b ys g hy => by
      by_cases hbp : b = pn
      · subst hbp
        exact ⟨_, upd_same, by rw [List.length_append]; show xs1.length + 1 ≤ _; omega⟩
      · obtain ⟨zs, gz, hz⟩ := hls b ys g hy
        exact ⟨zs, by rw [upd_ne hbp]; exact e2 _ _ gz, by omega⟩
    obtain ⟨xs2, g2, hx2⟩ := hl2 pv e.2 q2 hbe.2
    refine s_app (l := pv) (xs := xs2) g2 (ev_atT (K := K) (n := 1) (ev_var (hj σ' _ hσ)) (st_of (by rw [upd_ne (nt q1 ntup q0)]; exact e2 _ _ g0)) ev_c (at_of (j := 1) rfl rfl)) (ht _ _) (by omega) fun H4 e4 => ⟨.inr ?_, hil, hPm _ _ _ n2 (hPe _ _ (hPm _ _ _ n1 (hPe _ _ hP' e2)) e4), ?_, fun a o ho g => ?_, fun b ys g hy => ?_⟩
    · rcases hσ with rfl | ⟨z, rfl⟩
      · exact ⟨_, rfl⟩
      · exact ⟨_, List.set_set ..⟩
    · rw [upd_ne (Ne.symm (nl q2))]
      refine e4 _ _ ?_
      rw [upd_ne (Ne.symm (nl q1))]
      exact e2 _ _ gl'
    · rw [upd_ne (nt q2 ho g)]
      refine e4 _ _ ?_
      rw [upd_ne (nt q1 ho g)]
      exact e2 _ _ (htu a o ho g)
    · by_cases hbp : b = pv
      · subst hbp
        exact ⟨_, upd_same, by rw [List.length_append]; show xs2.length + 1 ≤ _; omega⟩
      · obtain ⟨zs, gz, hz⟩ := hl2 b ys g hy
        exact ⟨zs, by rw [upd_ne hbp]; exact e4 _ _ gz, by omega⟩
  · rintro σ' H' ⟨hσ, _, hP', _, htu, hls⟩
    refine k σ' H' hσ hP' htu fun b ys g hy => ?_
    obtain ⟨xs, g', hx⟩ := hls b ys g hy
    exact ⟨xs, g', by rw [List.length_map, hE.1] at hx; omega⟩

-- K52G
/-! ### the law -/
theorem q_goT {te : TE} {i : Nat} {tz : TS} {D : Ends} {σ : L2.St} {H : Hp} (h : te σ H fun v H1 => tz D (σ.set i (some v)) H1) : tSeq (tAsg te (gName i)) tz D σ H := h
def Kq (s : Addr) (A B C D E : Hp) (G : Hp) : Prop := Fr s A G ∧ Kp (fun b => B b = none) C G ∧ Kp (fun b => D b = none) E G ∧ ∀ b, E b ≠ none → G b ≠ none
theorem Kq.ex {s : Addr} {A B C D E G G' : Hp} (h : Kq s A B C D E G) (e : Ex G G') : Kq s A B C D E G' := ⟨h.1.tex e, h.2.1.trans (Kp.ex e), h.2.2.1.trans (Kp.ex e), fun b hb => by
  cases hg : G b with
  | none => exact absurd hg (h.2.2.2 b hb)
  | some o => rw [e b o hg]; exact fun z => nomatch z⟩
theorem Kq.fr {s : Addr} {A B C D E G G' : Hp} (h : Kq s A B C D E G) (f : Fr s G G') (hB : B s ≠ none) (hD : D s ≠ none) : Kq s A B C D E G' := ⟨h.1.trans f, h.2.1.trans (Kp.fr f hB), h.2.2.1.trans (Kp.fr f hD), fun b hb hn => h.2.2.2 b hb (f.fresh hn)⟩
theorem Kq.mut {s : Addr} {A B C D E G : Hp} (h : Kq s A B C D E G) {p : Addr} {o : HO} (hs : p ≠ s) (hA : A p = none) (hB : B p = none → C p = none) (hD : D p = none → E p = none) : Kq s A B C D E (upd G p o) := ⟨h.1.mut hA hs, h.2.1.mut hB, h.2.2.1.mut hD, fun b hb => by
  by_cases hbp : b = p
  · rw [hbp, upd_same]; exact fun z => nomatch z
  · rw [upd_ne hbp]; exact h.2.2.2 b hb⟩
theorem withV_len (es : List En) (nm : List Int) (vs : List (List Int)) : (withV es nm vs).length ≤ es.length + vs.length := by
  have := missE_len es nm
  unfold withV putE insE
  rw [List.length_append, List.length_append, List.length_take, List.length_drop, List.length_map]
  omega
theorem withV_mem {es : List En} {nm : List Int} {vs : List (List Int)} {e : En} (h : e ∈ withV es nm vs) : e ∈ es ∨ ∃ v ∈ vs, e = (nm, v) := by
  unfold withV putE at h
  rcases List.mem_append.mp h with h | h
  · rcases List.mem_append.mp h with h | h
    · exact .inl (List.mem_filter.mp (List.mem_of_mem_take h)).1
    · obtain ⟨v, hv, rfl⟩ := List.mem_map.mp h
      exact .inr ⟨v, hv, rfl⟩
  · exact .inl (List.mem_filter.mp (List.mem_of_mem_drop h)).1
theorem ex_vals (T : TX K mg) {to tn : TE} {σ : L2.St} {H : Hp} {E : XK} {c : Addr} {vd nm : List Int} {es : List En} (h : Ev to σ H (.ref c)) (hC : CmN (fun _ => True) T.C_Comments H c vd es) (hn : EvR tn σ H (nm.map V.int)) (hB : EnB es) (hnl : nm.length ≤ 100) : EvX (tMeth T.C_Comments "values_of" (sp_vals T.C_Comments) [] E to (tCons tn tNil)) σ H (fun v G => ∃ (p : Addr) (as : List Addr), v = .ref p ∧ H p = none ∧ G p = some (.lst (as.map V.ref)) ∧ TxN (fun b => H b = none ∧ b ≠ p) G as (valsO es nm)) := by
  obtain ⟨dx, pv, pe, as, g0, _⟩ := cm_get hC
  exact fun H1 e Q q => h H1 e _ fun H2 e2 => ⟨c, dx, _, rfl, (e.trans e2) _ _ g0, rfl, hn H2 (e.trans e2) _ fun n H3 e3 gn => ⟨c, n, vd, nm, es, rfl, hC.ex ((e.trans e2).trans e3), gn, hB, hnl, fun p as H4 hp e4 gp hT => q (.ref p) H4 ((e2.trans e3).trans e4) ⟨p, as, rfl, fresh_back ((e.trans e2).trans e3) hp, gp, hT.imp fun b _ h => ⟨fresh_back ((e.trans e2).trans e3) h.1, h.2⟩⟩⟩⟩
theorem ex_with (T : TX K mg) {to tn tl : TE} {σ : L2.St} {H : Hp} {E : XK} {c n l : Addr} {qs : List Addr} {vd nm : List Int} {es : List En} {rs : List (List Int)} (h : Ev to σ H (.ref c)) (hC : CmN (fun _ => True) T.C_Comments H c vd es) (hn : Ev tn σ H (.ref n)) (gn : H n = some (.lst (nm.map V.int))) (hl : Ev tl σ H (.ref l)) (gl : H l = some (.lst (qs.map V.ref))) (hT : TxN (fun _ => True) H qs rs) (hB : EnB es) (hnl : nm.length ≤ 100) (hrl : rs.length ≤ 100) : EvX (tMeth T.C_Comments "with_values" (sp_with T.C_Comments) [] E to (tCons tn (tCons tl tNil))) σ H (fun v G => ∃ b, v = .ref b ∧ CmN (fun x => H x = none) T.C_Comments G b vd (withV es nm rs)) := by
  obtain ⟨dx, pv, pe, as, g0, _⟩ := cm_get hC
  exact fun H1 e Q q => h H1 e _ fun H2 e2 => ⟨c, dx, _, rfl, (e.trans e2) _ _ g0, rfl, hn H2 (e.trans e2) _ fun H3 e3 => hl H3 ((e.trans e2).trans e3) _ fun H4 e4 => by
    have e04 := ((e.trans e2).trans e3).trans e4
    exact ⟨c, n, l, qs, vd, nm, es, rs, rfl, hC.ex e04, e04 _ _ gn, e04 _ _ gl, hT.ex e04, hB, hnl, hrl, fun b H5 e5 hCm => q (.ref b) H5 (((e2.trans e3).trans e4).trans e5) ⟨b, rfl, hCm.imp fun x _ h => fresh_back e04 h⟩⟩⟩
theorem ed_chg {t1 t2 t3 : TE} {σ : L2.St} {H : Hp} {E : XK} {l n t : Addr} {as qs : List Addr} {nm : List Int} {es : List En} {rs : List (List Int)} (h1 : Ev t1 σ H (.ref l)) (h2 : Ev t2 σ H (.ref n)) (h3 : Ev t3 σ H (.ref t)) (gl : H l = some (.lst (as.map V.ref))) (hE : EnsN (fun _ => True) H as es) (gn : H n = some (.lst (nm.map V.int))) (gt : H t = some (.lst (qs.map V.ref))) (hT : TxN (fun _ => True) H qs rs) (hB : EnB es) (hnl : nm.length ≤ 100) (hrl : rs.length ≤ 100) : EvD K (tCall sp_lchg [] E (tCons t1 (tCons t2 (tCons t3 tNil)))) σ H (enD (withV es nm rs)) := fun H1 e Q q =>
  h1 H1 e _ fun H2 e2 => h2 H2 (e.trans e2) _ fun H3 e3 => h3 H3 ((e.trans e2).trans e3) _ fun H4 e4 => by
    have e04 := ((e.trans e2).trans e3).trans e4
    exact ⟨l, n, t, as, qs, nm, es, rs, rfl, e04 _ _ gl, hE.ex e04, e04 _ _ gn, e04 _ _ gt, hT.ex e04, hB, hnl, hrl, fun p as' H5 hp e5 gp hE5 => q (.ref p) H5 (((e2.trans e3).trans e4).trans e5) (.lst (sq_of gp) (dp_ens hE5))⟩
theorem cm_fE (T : TX K mg) {to : TE} {σ : L2.St} {H : Hp} {c : Addr} {vd : List Int} {es : List En} {N : Addr → Prop} (h : Ev to σ H (.ref c)) (hC : CmN N T.C_Comments H c vd es) : EvD K (tFld K to "entries") σ H (enD es) := by
  obtain ⟨dx, pv, pe, as, g0, g1, g2, hE⟩ := cm_get hC
  exact EvD.of (ev_fld T.cl_Comments T.n_Comments_entries h g0 rfl) (.lst (sq_of g2) (dp_ens hE))
theorem cm_fV (T : TX K mg) {to : TE} {σ : L2.St} {H : Hp} {c : Addr} {vd : List Int} {es : List En} {N : Addr → Prop} (h : Ev to σ H (.ref c)) (hC : CmN N T.C_Comments H c vd es) : EvS K (tFld K to "vendor") σ H (vd.map V.int) := by
  obtain ⟨dx, pv, pe, as, g0, g1, g2, hE⟩ := cm_get hC
  exact Ev.s (ev_fld T.cl_Comments T.n_Comments_vendor h g0 rfl) (sq_of g1)
theorem ne_vd {ta tb : TE} {σ : L2.St} {H : Hp} {vd : List Int} (ha : EvS K ta σ H (vd.map V.int)) (hb : EvS K tb σ H (vd.map V.int)) : EvT (tTest (tOp (rNeD K) ta tb)) σ H false := et_is (et_test (ev_neI (K := K) ha hb)) (by rw [decide_eq_true rfl]; rfl)
def sp_law (K : PySem.W.Frag) : Sp := fun vs H Q _ => ∃ (a : Addr) (ns : List Int), vs = [.ref a] ∧ SqL K H a (ns.map V.int) ∧ ns.length ≤ 63 ∧ ∀ H', Q (.bl true) H'
theorem ok_law (T : TX K mg) : FnOk P w K mg base CX0 5 T.a_law T.d_law ["script"] (sp_law K) := by
  refine T.F_law.ok sc_law (fun vs H Q E h => by obtain ⟨a, ns, rfl, _⟩ := h; rfl) (fun cdv A outer s0 H vs Q E hr h => ?_)
  obtain ⟨a, ns, rfl, hS, hlen, k⟩ := h
  refine ⟨_, (pss_cons (ps_set (i := 1) sc_law.nd rfl (Or.inr rfl) (pe_lst (pa_cons pe_int (pa_cons pe_int pa_nil))))
      (pss_cons (ps_set (i := 2) sc_law.nd rfl (Or.inl rfl) (pe_call (ok_law_text T) (hr.mono (by decide)) (by rfl) T.g_law_text T.F_law_text.kp T.b_law_text .nil pass0 (pa_cons (pv 1) (pa_cons (pv 0) (pa_cons pe_int pa_nil)))))
      (pss_cons (ps_set (i := 3) sc_law.nd rfl (Or.inl rfl) (pe_call (ok_law_entries T) (hr.mono (by decide)) (by rfl) T.g_law_entries T.F_law_entries.kp T.b_law_entries .nil pass0 (pa_cons (pv 1) (pa_cons (pv 0) (pa_cons pe_int pa_nil)))))
      (pss_cons (ps_set (i := 4) sc_law.nd rfl (Or.inr rfl) (pe_call (ok_law_name T) (hr.mono (by decide)) (by rfl) T.g_law_name T.F_law_name.kp T.b_law_name .nil pass0 (pa_cons (pv 1) (pa_cons (pv 0) pa_nil))))
      (pss_cons (ps_if (PW.pt (pw_and (pt_truth (pv 3) (by intro _; rfl)) (pw_and1 (pt_cmpR op_ge (pe_call (ok_law_draw T) (hr.mono (by decide)) (by rfl) T.g_law_draw T.F_law_draw.kp T.b_law_draw .nil pass0 (pa_cons (pv 1) (pa_cons (pv 0) (pa_cons pe_int pa_nil)))) pe_int (nomark _))))) (pss_one (ps_set (i := 4) sc_law.nd rfl (Or.inr rfl) (pe_call (ok_law_turned T) (hr.mono (by decide)) (by rfl) T.g_law_turned T.F_law_turned.kp T.b_law_turned .nil pass0 (pa_cons (pv 1) (pa_cons (pv 0) (pa_cons (pe_ix (r := rIxT K) ix_tup (pe_ix (r := rIxL K) ix_list (pv 3) (pe_call (ok_law_draw T) (hr.mono (by decide)) (by rfl) T.g_law_draw T.F_law_draw.kp T.b_law_draw .nil pass0 (pa_cons (pv 1) (pa_cons (pv 0) (pa_cons (pe_callB (r := rLenS K) call_len_seq (by rfl) T.m_len PySem.boot_len (pa_cons (pv 3) pa_nil)) pa_nil)))) (fun _ _ => rfl)) pe_int (fun _ _ => rfl)) pa_nil)))))) pss_nil)
      (pss_cons (ps_setLc (i := 5) (own := [("k", 18)]) (g := gName 18) (tt := tYes) rfl sc_law.nd rfl rfl (sw_true rfl rfl rfl (by decide +kernel)) (pi_range1 (by rfl) T.m_range (pa_cons (pe_call (ok_law_draw T) (hr.mono (by decide)) (by rfl) T.g_law_draw T.F_law_draw.kp T.b_law_draw .nil pass0 (pa_cons (pv 1) (pa_cons (pv 0) (pa_cons pe_int pa_nil)))) pa_nil)) (blkOk_by (N := ["script", "state", "vendor", "entries", "name", "texts", "comments", "text", "handed", "entry", "expected", "told", "title", "changed", "spare", "again", "kept", "rest", "k"]) (sc := defScope s_law) (by decide +kernel)) (fun _ _ _ _ _ => pg_name (i := 18) sc_law.nd rfl (Or.inl rfl)) (fun _ _ _ _ _ => pts_nil) (fun _ _ _ _ _ => (pe_call (ok_law_text T) (hr.mono (by decide)) (by rfl) T.g_law_text T.F_law_text.kp T.b_law_text .nil pass0 (pa_cons (pv 1) (pa_cons (pv 0) (pa_cons pe_int pa_nil))))))
      (pss_cons (ps_set (i := 6) sc_law.nd rfl (Or.inl rfl) (pe_make T.M_Comments (ok_Comments_init T) (hr.mono (by decide)) (by rfl) T.g_Comments T.b_Comments_init .nil pass0 (pa_cons (pv 2) (pa_cons (pv 3) pa_nil))))
      (pss_cons (ps_setLc (i := 8) (own := [("text", 7)]) (g := gName 7) (tt := tYes) rfl sc_law.nd rfl rfl (sw_true rfl rfl rfl (by decide +kernel)) (pi_list (pv 5)) (blkOk_by (N := ["script", "state", "vendor", "entries", "name", "texts", "comments", "text", "handed", "entry", "expected", "told", "title", "changed", "spare", "again", "kept", "rest", "k"]) (sc := defScope s_law) (by decide +kernel)) (fun _ _ _ _ _ => pg_name (i := 7) sc_law.nd rfl (Or.inl rfl)) (fun _ _ _ _ _ => pts_nil) (fun _ _ _ _ _ => (pe_callTy (r := rListS K) call_list_of (by rfl) T.m_list PyProof.Rows.boot_list (pa_cons (pv 7) pa_nil))))
      (pss_cons (ps_setLc (i := 10) (own := [("entry", 9)]) (g := gName 9)  rfl sc_law.nd rfl rfl (sw_true rfl rfl rfl (by decide +kernel)) (pi_list (pv 3)) (blkOk_by (N := ["script", "state", "vendor", "entries", "name", "texts", "comments", "text", "handed", "entry", "expected", "told", "title", "changed", "spare", "again", "kept", "rest", "k"]) (sc := defScope s_law) (by decide +kernel)) (fun _ _ _ _ _ => pg_name (i := 9) sc_law.nd rfl (Or.inl rfl)) (fun _ _ _ _ _ => pts_one (pt_cmpR (r := rEqD K) (op_eqD (hu64 hr)) (pe_call (ok_law_upper T) (hr.mono (by decide)) (by rfl) T.g_law_upper T.F_law_upper.kp T.b_law_upper .nil pass0 (pa_cons (pe_ix (r := rIxT K) ix_tup (pv 9) pe_int (fun _ _ => rfl)) pa_nil)) (pe_call (ok_law_upper T) (hr.mono (by decide)) (by rfl) T.g_law_upper T.F_law_upper.kp T.b_law_upper .nil pass0 (pa_cons (pv 4) pa_nil)) (nomark _))) (fun _ _ _ _ _ => (pe_ix (r := rIxT K) ix_tup (pv 9) pe_int (fun _ _ => rfl))))
      (pss_cons (ps_set (i := 11) sc_law.nd rfl (Or.inl rfl) (pe_meth (pv 6) T.cl_Comments T.me_Comments_values_of (ok_Comments_values_of T) (hr.mono (by decide)) T.b_Comments_values_of .nil pass0 (pa_cons (pe_callTy (r := rListS K) call_list_of (by rfl) T.m_list PyProof.Rows.boot_list (pa_cons (pv 4) pa_nil)) pa_nil)))
      (pss_cons (ps_if (PW.pt (pw_or (pt_not (pt_val (pe_callB (r := rIsi K) call_isi (by rfl) T.m_isinstance PyProof.Rows.boot_isinstance (pa_cons (pv 11) (pa_cons (pe_bltn (v := V.ty "list") (by rfl) T.m_list PyProof.Rows.boot_list rfl) pa_nil))))) (pw_or1 (pt_cmpR (op_neD (hu64 hr)) (pv 11) (pv 10) (nomark _))))) (pss_one (ps_ret pe_bl)) pss_nil)
      (pss_cons (ps_set (i := 12) sc_law.nd rfl (Or.inl rfl) (pe_callTy (r := rListS K) call_list_of (by rfl) T.m_list PyProof.Rows.boot_list (pa_cons (pv 4) pa_nil)))
      (pss_cons (ps_set (i := 13) sc_law.nd rfl (Or.inl rfl) (pe_meth (pv 6) T.cl_Comments T.me_Comments_with_values (ok_Comments_with_values T) (hr.mono (by decide)) T.b_Comments_with_values .nil pass0 (pa_cons (pv 12) (pa_cons (pv 8) pa_nil))))
      (pss_cons (ps_if (PW.pt (pw_or (pt_cmpR (op_neD (hu64 hr)) (pv 8) (pv 5) (nomark _)) (pw_or (pt_cmpR (op_neD (hu64 hr)) (pe_fld (pv 13) rfl) (pv 2) (nomark _)) (pw_or1 (pt_cmpR (op_neD (hu64 hr)) (pe_fld (pv 13) rfl) (pe_call (ok_law_changed T) (hr.mono (by decide)) (by rfl) T.g_law_changed T.F_law_changed.kp T.b_law_changed .nil pass0 (pa_cons (pv 3) (pa_cons (pv 4) (pa_cons (pv 5) pa_nil)))) (nomark _)))))) (pss_one (ps_ret pe_bl)) pss_nil)
      (pss_cons (ps_expr (pe_bm PySem.F.plainAttrs_list PySem.F.slot_list_append PySem.F.type_list_append mt_append (pv 12) (pa_cons pe_int pa_nil)))
      (pss_cons (ps_for PassesOwn.never rfl (pi_list (pv 8)) (pg_name (i := 7) sc_law.nd rfl (Or.inl rfl)) (pss_one (ps_expr (pe_bm PySem.F.plainAttrs_list PySem.F.slot_list_append PySem.F.type_list_append mt_append (pv 7) (pa_cons pe_int pa_nil)))))
      (pss_cons (ps_expr (pe_bm PySem.F.plainAttrs_list PySem.F.slot_list_append PySem.F.type_list_append mt_append (pv 8) (pa_cons (pe_lst (pa_cons pe_int pa_nil)) pa_nil)))
      (pss_cons (ps_if (pt_cmpR (op_neD (hu64 hr)) (pe_fld (pv 13) rfl) (pe_call (ok_law_changed T) (hr.mono (by decide)) (by rfl) T.g_law_changed T.F_law_changed.kp T.b_law_changed .nil pass0 (pa_cons (pv 3) (pa_cons (pv 4) (pa_cons (pv 5) pa_nil)))) (nomark _)) (pss_one (ps_ret pe_bl)) pss_nil)
      (pss_cons (ps_if (pt_cmpR (op_neD (hu64 hr)) (pe_meth (pv 13) T.cl_Comments T.me_Comments_values_of (ok_Comments_values_of T) (hr.mono (by decide)) T.b_Comments_values_of .nil pass0 (pa_cons (pe_call (ok_law_turned T) (hr.mono (by decide)) (by rfl) T.g_law_turned T.F_law_turned.kp T.b_law_turned .nil pass0 (pa_cons (pv 1) (pa_cons (pv 0) (pa_cons (pv 4) pa_nil)))) pa_nil)) (pv 5) (nomark _)) (pss_one (ps_ret pe_bl)) pss_nil)
      (pss_cons (ps_set (i := 14) sc_law.nd rfl (Or.inl rfl) (pe_meth (pv 6) T.cl_Comments T.me_Comments_with_values (ok_Comments_with_values T) (hr.mono (by decide)) T.b_Comments_with_values .nil pass0 (pa_cons (pv 4) (pa_cons (pv 5) pa_nil))))
      (pss_cons (ps_for PassesOwn.never rfl (pi_list (pe_fld (pv 14) rfl)) (pg_name (i := 9) sc_law.nd rfl (Or.inl rfl)) (pss_cons (ps_expr (pe_bm PySem.F.plainAttrs_list PySem.F.slot_list_append PySem.F.type_list_append mt_append (pe_ix (r := rIxT K) ix_tup (pv 9) pe_int (fun _ _ => rfl)) (pa_cons pe_int pa_nil)))
        (pss_one (ps_expr (pe_bm PySem.F.plainAttrs_list PySem.F.slot_list_append PySem.F.type_list_append mt_append (pe_ix (r := rIxT K) ix_tup (pv 9) pe_int (fun _ _ => rfl)) (pa_cons pe_int pa_nil))))))
      (pss_cons (ps_expr (pe_bm PySem.F.plainAttrs_list PySem.F.slot_list_append PySem.F.type_list_append mt_append (pe_fld (pv 14) rfl) (pa_cons pe_int pa_nil)))
      (pss_cons (ps_if (PW.pt (pw_or (pt_cmpR (op_neD (hu64 hr)) (pe_fld (pv 6) rfl) (pv 3) (nomark _)) (pw_or1 (pt_cmpR (op_neD (hu64 hr)) (pe_fld (pv 6) rfl) (pv 2) (nomark _))))) (pss_one (ps_ret pe_bl)) pss_nil)
      (pss_cons (ps_for PassesOwn.never rfl (pi_list (pv 11)) (pg_name (i := 7) sc_law.nd rfl (Or.inl rfl)) (pss_one (ps_expr (pe_bm PySem.F.plainAttrs_list PySem.F.slot_list_append PySem.F.type_list_append mt_append (pv 7) (pa_cons pe_int pa_nil)))))
      (pss_cons (ps_expr (pe_bm PySem.F.plainAttrs_list PySem.F.slot_list_append PySem.F.type_list_append mt_append (pv 11) (pa_cons (pe_lst (pa_cons pe_int pa_nil)) pa_nil)))
      (pss_cons (ps_if (PW.pt (pw_or (pt_cmpR (op_neD (hu64 hr)) (pe_fld (pv 6) rfl) (pv 3) (nomark _)) (pw_or (pt_cmpR (op_neD (hu64 hr)) (pe_fld (pv 6) rfl) (pv 2) (nomark _)) (pw_or1 (pt_cmpR (op_neD (hu64 hr)) (pe_meth (pv 6) T.cl_Comments T.me_Comments_values_of (ok_Comments_values_of T) (hr.mono (by decide)) T.b_Comments_values_of .nil pass0 (pa_cons (pv 4) pa_nil)) (pv 10) (nomark _)))))) (pss_one (ps_ret pe_bl)) pss_nil)
      (pss_cons (ps_set (i := 15) sc_law.nd rfl (Or.inl rfl) (pe_meth (pv 13) T.cl_Comments T.me_Comments_with_values (ok_Comments_with_values T) (hr.mono (by decide)) T.b_Comments_with_values .nil pass0 (pa_cons (pv 4) (pa_cons (pv 10) pa_nil))))
      (pss_cons (ps_setLc (i := 16) (own := [("entry", 9)]) (g := gName 9)  rfl sc_law.nd rfl rfl (sw_true rfl rfl rfl (by decide +kernel)) (pi_list (pv 3)) (blkOk_by (N := ["script", "state", "vendor", "entries", "name", "texts", "comments", "text", "handed", "entry", "expected", "told", "title", "changed", "spare", "again", "kept", "rest", "k"]) (sc := defScope s_law) (by decide +kernel)) (fun _ _ _ _ _ => pg_name (i := 9) sc_law.nd rfl (Or.inl rfl)) (fun _ _ _ _ _ => pts_one (pt_cmpR (r := rNeD K) (op_neD (hu64 hr)) (pe_call (ok_law_upper T) (hr.mono (by decide)) (by rfl) T.g_law_upper T.F_law_upper.kp T.b_law_upper .nil pass0 (pa_cons (pe_ix (r := rIxT K) ix_tup (pv 9) pe_int (fun _ _ => rfl)) pa_nil)) (pe_call (ok_law_upper T) (hr.mono (by decide)) (by rfl) T.g_law_upper T.F_law_upper.kp T.b_law_upper .nil pass0 (pa_cons (pv 4) pa_nil)) (nomark _))) (fun _ _ _ _ _ => (pv 9)))
      (pss_cons (ps_setLc (i := 17) (own := [("entry", 9)]) (g := gName 9)  rfl sc_law.nd rfl rfl (sw_true rfl rfl rfl (by decide +kernel)) (pi_list (pe_fld (pv 15) rfl)) (blkOk_by (N := ["script", "state", "vendor", "entries", "name", "texts", "comments", "text", "handed", "entry", "expected", "told", "title", "changed", "spare", "again", "kept", "rest", "k"]) (sc := defScope s_law) (by decide +kernel)) (fun _ _ _ _ _ => pg_name (i := 9) sc_law.nd rfl (Or.inl rfl)) (fun _ _ _ _ _ => pts_one (pt_cmpR (r := rNeD K) (op_neD (hu64 hr)) (pe_call (ok_law_upper T) (hr.mono (by decide)) (by rfl) T.g_law_upper T.F_law_upper.kp T.b_law_upper .nil pass0 (pa_cons (pe_ix (r := rIxT K) ix_tup (pv 9) pe_int (fun _ _ => rfl)) pa_nil)) (pe_call (ok_law_upper T) (hr.mono (by decide)) (by rfl) T.g_law_upper T.F_law_upper.kp T.b_law_upper .nil pass0 (pa_cons (pv 4) pa_nil)) (nomark _))) (fun _ _ _ _ _ => (pv 9)))
      (pss_one (ps_ret (pe_and (pe_cmpR (op_eqD (hu64 hr)) (pe_meth (pv 15) T.cl_Comments T.me_Comments_values_of (ok_Comments_values_of T) (hr.mono (by decide)) T.b_Comments_values_of .nil pass0 (pa_cons (pv 4) pa_nil)) (pv 10) (nomark _)) (pe_and (pe_cmpR (op_eqD (hu64 hr)) (pv 17) (pv 16) (nomark _)) (pe_one (pe_cmpR (op_eqD (hu64 hr)) (pe_meth (pv 13) T.cl_Comments T.me_Comments_values_of (ok_Comments_values_of T) (hr.mono (by decide)) T.b_Comments_values_of .nil pass0 (pa_cons (pv 4) pa_nil)) (pv 5) (nomark _)))))))))))))))))))))))))))))))))))), ?_⟩
  refine q_asgL (xs := [.int 0, .int 0]) (el_lst (ea_cons ev_c (ea_cons ev_c ea_nil)) (by decide)) fun s H1 hs e1 gs => ?_
  have hd1 : DrS K H1 s a ns := ⟨⟨0, 0, gs⟩, scr_mk hs e1 hS⟩
  show tSeq _ _ _ [some (.ref a), some (.ref s), none, none, none, none, none, none, none, none, none, none, none, none, none, none, none, none, none] _
  refine q_asgXW (xw_text (m := 2) hd1 rfl rfl ev_c (by decide)) fun v H2 f2 hv => ?_
  obtain ⟨pv, vd, rfl, hpv, gv, hvl⟩ := hv
  have hd2 := hd1.fr f2
  have nvs : pv ≠ s := ne_st hd1.1 hpv
  refine q_asgC (vs := [.ref s, .ref a, .int ((5 : Nat) : Int)]) (ea_cons (ev_var rfl) (ea_cons (ev_var rfl) (ea_cons ev_c ea_nil))) fun H3 e3 => ⟨s, a, ns, 5, rfl, hd2.ex e3, by decide, fun pe as es H4 hpe f4 ge hE0 hel hen => ?_⟩
  have f24 : Fr s H2 H4 := (Fr.ex hd2.1 e3).trans f4
  have hd4 := hd2.fr f24
  have gv4 := f24.l nvs gv
  have nes : pe ≠ s := ne_st (hd2.ex e3).1 hpe
  have hE4 : EnsN (fun b => b ≠ s) H4 as es := hE0.imp fun b _ h => h.1
  refine q_asgXW (xw_name hd4 rfl rfl) fun v H5 f5 hv => ?_
  obtain ⟨pn0, nm0, rfl, hpn0, gn0, hnl0⟩ := hv
  have hd5 := hd4.fr f5
  have nn0 : pn0 ≠ s := ne_st hd4.1 hpn0
  have hE5 := hE4.kp (Kp.fr f5 fun h => h rfl)
  have ge5 := f5.l nes ge
  have gv5 := f5.l nvs gv4
  clear f2 e3 f4 f24 hE0 hpv hpe hpn0 gv gv4 ge hE4 f5
  refine qw_whenX (j := 4) (v0 := .ref pn0) (S := fun v G => ∃ (pn : Addr) (nm : List Int), v = .ref pn ∧ pn ≠ s ∧ G pn = some (.lst (nm.map V.int)) ∧ nm.length ≤ 100) rfl (wt_and (wt_ev hd5.1 (et_tru (ev_var rfl) (sq_of ge5))) fun H6 f6 _ => wt_cmp (g := fun i j => decide (j ≤ i)) (wi_draw (n := 3) (hd5.fr f6) rfl rfl ev_c (by decide) (by decide)) fun H7 f7 => wi_ev f7.2 ev_c) (fun hp D' H6 f6 kk => ?_) (fun _ H6 f6 => ⟨pn0, nm0, rfl, nn0, f6.l nn0 gn0, by omega⟩) fun v H6 hv f6 => ?_
  · have hnil : es ≠ [] := by
      rintro rfl
      have h0 : as = [] := List.eq_nil_of_length_eq_zero hE5.1
      rcases hp with ⟨_, h⟩ | ⟨h, _⟩
      · cases h
      · rw [h0] at h; cases h
    have hpos : 0 < es.length := List.length_pos_iff.mpr hnil
    have hd6 := hd5.fr f6
    have ge6 := f6.l nes ge5
    refine ⟨_, rfl, ⟨_, rfl, ⟨.ref pe, rfl, wi_draw (n := (es.length : Int)) hd6 rfl rfl (Ev.is (ev_lenS (K := K) (Ev.s (ev_var rfl) (sq_of ge6))) (by rw [List.length_map, hE5.1])) (by omega) (by omega) _ fun z H7 f7 hz => ?_⟩⟩⟩
    obtain ⟨d, rfl, hdl⟩ := hz
    have hde : d < es.length := by omega
    have hda : as[d]? = some (as[d]'(by rw [hE5.1]; exact hde)) := List.getElem?_eq_getElem _
    obtain ⟨ai, e, hai, hei, hrf, _, _, pn, pw, q0, n1, q1, n2, q2⟩ := ((hE5.kp (Kp.fr f6 fun h => h rfl)).kp (Kp.fr f7 fun h => h rfl)).get (i := d) (x := .ref _) (by rw [List.getElem?_map, hda]; rfl)
    have heb := (hen e (List.mem_of_getElem? hei)).1
    exact ⟨pe, _, (d : Int), .ref ai, rfl, rfl, sq_of (f7.l nes ge6), at_of (j := d) rfl (by rw [List.getElem?_map, hai]; rfl), ⟨ai, _, 0, .ref pn, rfl, rfl, st_of q0, at_of (j := 0) rfl rfl, ⟨s, a, pn, ns, e.1, rfl, hd6.fr f7, n1, q1, by omega, fun p xs H8 hp8 f8 gp hup hxl => kk (.ref p) H8 ⟨p, xs, rfl, ne_st (hd6.fr f7).1 hp8, gp, hxl⟩ (f6.trans (f7.trans f8))⟩⟩⟩
  obtain ⟨pn, nm, rfl, nns, gn, hnl⟩ := hv
  have hd6 := hd5.fr f6
  have hE6 := hE5.kp (Kp.fr f6 fun h => h rfl)
  have ge6 := f6.l nes ge5
  have gv6 := f6.l nvs gv5
  clear f6 hE5 ge5 gv5 gn0 nn0
  show tSeq _ _ _ [some (.ref a), some (.ref s), some (.ref pv), some (.ref pe), some (.ref pn), none, none, none, none, none, none, none, none, none, none, none, none, none, none] _
  refine q_goT (tlc_rngWW (wi_draw (n := 4) hd6 rfl rfl ev_c (by decide) (by decide)) (fun i hi => by obtain ⟨d, rfl, hd⟩ := hi; omega) fun n H7 hn f7 Dl hDl => ⟨fun i H' => ∃ (qs : List Addr) (rs : List (List Int)), Fr s H7 H' ∧ H' Dl = some (.lst (qs.map V.ref)) ∧ rs.length = i ∧ TxN (fun b => b ≠ s ∧ b ≠ Dl) H' qs rs ∧ ∀ r ∈ rs, r.length ≤ 10, ⟨[], [], Fr.ex f7.2 (Ex.new hDl), upd_same, rfl, TxN.nil, (fun e he => by cases he)⟩, fun i H' hi h => ⟨rfl, ?_⟩, fun H' h => ?_⟩)
  · obtain ⟨qs, rs, f, gD, hel2, hT, hb⟩ := h
    have hdr := (hd6.fr f7).fr f
    have nDs := ne_st f7.2 hDl
    have hnl2 : (i : Int) ≤ 10 := by obtain ⟨d, rfl, hd2⟩ := hn; omega
    refine xw_text (m := 2) hdr rfl rfl ev_c (by decide) _ fun v H8 f8 hv => ?_
    obtain ⟨p, xs, rfl, hp, gp, hxl⟩ := hv
    have gD8 := f8.l nDs gD
    have np : p ≠ s ∧ p ≠ Dl := ⟨ne_st hdr.1 hp, ne_known hp (by rw [gD]; exact fun z => nomatch z)⟩
    refine ⟨_, gD8, sz_lt (by rw [List.length_map, hT.1, hel2]; omega), qs ++ [p], rs ++ [xs], (f.trans f8).mut hDl nDs, by rw [upd_same, List.map_append]; rfl, by rw [List.length_append, hel2]; rfl, ?_, fun r hr => ?_⟩
    · exact (hT.kp ((Kp.fr f8 (fun h => h.1 rfl)).mut fun h => absurd rfl h.2)).snoc np (by rw [upd_ne np.2]; exact gp)
    · rcases List.mem_append.mp hr with hr | hr
      · exact hb r hr
      · rw [List.mem_singleton.mp hr]; exact hxl
  obtain ⟨qs, rs, f8, gt, hrl0, hT0, hrb⟩ := h
  have hrl : rs.length ≤ 3 := by obtain ⟨d, rfl, hd2⟩ := hn; omega
  have f68 := f7.trans f8
  have hd8 := hd6.fr f68
  have nts := ne_st f7.2 hDl
  have gv8 := f68.l nvs gv6
  have ge8 := f68.l nes ge6
  have gn8 := f68.l nns gn
  have hE8 := hE6.kp (Kp.fr f68 fun h => h rfl)
  have hT8 : TxN (fun b => b ≠ s) H' qs rs := hT0.imp fun b _ h => h.1
  clear hn f7 f8 f68 hT0 hrl0 hE6 ge6 gv6 gn
  generalize H' = H8 at *
  have hB : EnB es := ⟨by omega, fun e he => by have := (hen e he).1; omega⟩
  have wkE : ∀ {G : Hp} {as : List Addr} {es : List En} {N : Addr → Prop}, EnsN N G as es → EnsN (fun _ => True) G as es := fun h => h.imp fun _ _ _ => trivial
  have wkT : ∀ {G : Hp} {as : List Addr} {rs : List (List Int)} {N : Addr → Prop}, TxN N G as rs → TxN (fun _ => True) G as rs := fun h => h.imp fun _ _ _ => trivial
  have wkC : ∀ {G : Hp} {c : Addr} {vd : List Int} {es : List En} {N : Addr → Prop}, CmN N T.C_Comments G c vd es → CmN (fun _ => True) T.C_Comments G c vd es := fun h => h.imp fun _ _ _ => trivial
  show tSeq _ _ _ [some (.ref a), some (.ref s), some (.ref pv), some (.ref pe), some (.ref pn), some (.ref Dl), none, none, none, none, none, none, none, none, none, none, none, none, none] _
  refine q_asgN (en_cm T (ev_var rfl) gv8 (Ev.x (ev_var rfl) fun G eG => ⟨pe, as, rfl, eG _ _ ge8, (wkE hE8).ex eG⟩) (by omega)) fun c H9 hc e9 hC0 => ?_
  have hd9 := hd8.ex e9
  have hC9 : CmN (fun b => b ≠ s) T.C_Comments H9 c vd es := hC0.imp fun b _ h => ne_st hd8.1 h
  have gv9 := e9 _ _ gv8
  have ge9 := e9 _ _ ge8
  have gn9 := e9 _ _ gn8
  have gt9 := e9 _ _ gt
  have hE9 := hE8.ex e9
  have hT9 := hT8.ex e9
  clear hC0 hd8 gv8 ge8 gn8 gt hE8 hT8 e9 hc hDl
  -- handed
  refine q_asgX (ex_copyT (K := K) (ev_var rfl) gt9 (wkT hT9) (by omega) (fun _ => rfl) (fun _ => rfl)) fun v H10 e10 hv => ?_
  obtain ⟨ph, hs2, rfl, hph, gh, hH⟩ := hv
  -- expected
  refine q_goT (tlc_lstF (K := K) (Ev.s (ev_var rfl) (sq_of (e10 _ _ ge9))) fun p1 H11 e11 hp1 px hpx => ⟨fun i H' => ∃ ks : List Addr, Ex H11 H' ∧ H' px = some (.lst (ks.map V.ref)) ∧ TxN (fun b => b ≠ px ∧ b ≠ s ∧ H9 b ≠ none) H' ks (valsO (es.take i) nm), ⟨[], Ex.new hpx, upd_same, TxN.nil⟩, fun i H' h => by obtain ⟨_, ex, _⟩ := h; exact ex_l ex hp1, fun i x H' hx h => ?_, fun H12 h => ?_⟩)
  · obtain ⟨ks, ex, gD, hK⟩ := h
    have e9x := e10.trans (e11.trans ex)
    obtain ⟨ai, e, hai, hei, rfl, hi, _, pn1, pw, q0, n1, q1, n2, q2⟩ := hE9.get hx
    have hel1 := hB.2 e (List.mem_of_getElem? hei)
    have hsn := valsO_snoc (es.take i) e nm
    rw [← take_at hei] at hsn
    refine ⟨rfl, ?_⟩
    refine et_go (et_test (ev_upeq (nm := nm) (ev_var (i := 9) rfl) (e9x _ _ q0) (e9x _ _ q1) (ev_var (i := 4) rfl) (e9x _ _ gn9) hel1 hnl)) fun H4 e4 => ?_
    by_cases hm : mt e.1 nm = true
    · rw [if_pos hm] at hsn ⊢
      refine ev_go (ev_atT (K := K) (n := 1) (v := .ref pw) (ev_var (i := 9) rfl) (st_of ((e9x.trans e4) _ _ q0)) ev_c (at_of (j := 1) rfl rfl)) fun H5 e5 => ?_
      have e45 := e4.trans e5
      have npx : pw ≠ px := by rintro rfl; rw [(e10.trans e11) _ _ q2] at hpx; cases hpx
      refine ⟨_, e45 _ _ gD, sz_lt (by rw [List.length_map, hK.1]; have := valsO_len (es.take i) nm; rw [List.length_take] at this; omega), ks ++ [pw], Ex.mut (ex.trans e45) hpx, by rw [upd_same, List.map_append]; rfl, ?_⟩
      rw [hsn]
      exact (hK.kp ((Kp.ex e45).mut fun h => absurd rfl h.1)).snoc ⟨npx, n2, by rw [q2]; exact fun z => nomatch z⟩ (by rw [upd_ne npx]; exact (e9x.trans e45) _ _ q2)
    · rw [if_neg hm] at hsn ⊢
      exact ⟨ks, ex.trans e4, e4 _ _ gD, by rw [hsn]; exact hK.ex e4⟩
  obtain ⟨ks, ex12, gx, hX0⟩ := h
  rw [List.length_map, hE9.1, List.take_length] at hX0
  have hX12 : TxN (fun b => b ≠ s ∧ H9 b ≠ none) H12 ks (valsO es nm) := hX0.imp fun b _ h => h.2
  have hpx10 : H10 px = none := fresh_back e11 hpx
  have e1012 : Ex H10 H12 := e11.trans ex12
  have e912 := e10.trans e1012
  clear hX0 hpx e11 ex12
  show tSeq _ _ _ [some (.ref a), some (.ref s), some (.ref pv), some (.ref pe), some (.ref pn), some (.ref Dl), some (.ref c), none, some (.ref ph), none, some (.ref px), none, none, none, none, none, none, none, none] _
  -- told
  refine q_asgX (ex_vals T (nm := nm) (ev_var rfl) ((wkC hC9).ex e912) (EvL.r (el_of (K := K) (Ev.s (ev_var rfl) (sq_of (e912 _ _ gn9))))) hB hnl) fun v H13 e13 hv => ?_
  obtain ⟨po, ts, rfl, hpo, go, hTo⟩ := hv
  have e913 := e912.trans e13
  refine q_when (b := false) (et_is (et_or (a := false) (b := false) (et_is (et_not (et_B (ev_isiL (ev_var rfl) go))) rfl) fun _ => et_is (et_test (ev_neDD (K := K) (d := txD (valsO es nm)) (ed_txs (ev_var rfl) go hTo) (ed_txs (ev_var rfl) (e13 _ _ gx) (hX12.ex e13)) (shaped_tx _))) rfl) rfl) (fun hb => by cases hb) fun _ H14 e14 => ?_
  refine q_asgL (xs := nm.map V.int) (el_of (K := K) (Ev.s (ev_var rfl) (sq_of ((e913.trans e14) _ _ gn9)))) fun pl H15 hpl e15 gpl => ?_
  have e1215 := e13.trans (e14.trans e15)
  have e915 := e912.trans e1215
  have gh15 := (e1012.trans e1215) _ _ gh
  have hH15 := hH.ex (e1012.trans e1215)
  refine q_asgX (ex_with T (nm := nm) (rs := rs) (ev_var rfl) ((wkC hC9).ex e915) (ev_var rfl) gpl (ev_var rfl) gh15 (wkT hH15) hB hnl (by omega)) fun v H16 e16 hv => ?_
  obtain ⟨ch, rfl, hCh⟩ := hv
  have e916 := e915.trans e16
  have hBw : EnB (withV es nm rs) := ⟨by have := withV_len es nm rs; omega, fun e he => by
    rcases withV_mem he with h | ⟨v, hv, rfl⟩
    · exact hB.2 e h
    · exact hnl⟩
  refine q_when (b := false) (et_is (et_or (a := false) (b := false) (et_is (et_test (ev_neDD (K := K) (d := txD rs) (ed_txs (ev_var rfl) (e16 _ _ gh15) (hH15.ex e16)) (ed_txs (ev_var rfl) (e916 _ _ gt9) (hT9.ex e916)) (shaped_tx _))) rfl) fun _ => et_or (a := false) (b := false) (ne_vd (cm_fV T (ev_var rfl) hCh) (Ev.s (ev_var rfl) (sq_of (e916 _ _ gv9)))) fun _ => et_is (et_test (ev_neDD (K := K) (d := enD (withV es nm rs)) (cm_fE T (ev_var rfl) hCh) (ed_chg (ev_var rfl) (ev_var rfl) (ev_var rfl) (e916 _ _ ge9) ((wkE hE9).ex e916) (e916 _ _ gn9) (e916 _ _ gt9) ((wkT hT9).ex e916) hB hnl (by omega)) (shaped_en _))) rfl) rfl) (fun hb => by cases hb) fun _ H17 e17 => ?_
  have hsk : ∀ {G : Hp}, Ex H9 G → G s ≠ none := fun e => by
    obtain ⟨k1, k2, g⟩ := (hd9.ex e).1
    rw [g]
    exact fun z => nomatch z
  have hB10 := hsk e10
  have hB15 := hsk e915
  have hvb : ∀ r ∈ valsO es nm, r.length ≤ 10 := fun r hr => by
    unfold valsO hitE at hr
    obtain ⟨e, he, rfl⟩ := List.mem_map.mp hr
    exact (hen e (List.mem_filter.mp he).1).2
  have hX9 : TxN (fun b => b ≠ s) H9 ks (valsO es nm) := ⟨hX12.1, fun j a r h1 h2 => by
    obtain ⟨⟨n1, n2⟩, g⟩ := hX12.2 j a r h1 h2
    refine ⟨n1, ?_⟩
    cases ho : H9 a with
    | none => exact absurd ho n2
    | some o =>
      rw [e912 _ _ ho] at g
      exact g⟩
  have hK17 : Kq s H9 H10 H12 H15 H16 H17 := ⟨Fr.ex hd9.1 (e916.trans e17), Kp.ex ((e1215.trans e16).trans e17), Kp.ex e17, fun b hb => by
    cases ho : H16 b with
    | none => exact absurd ho hb
    | some o => rw [e17 _ _ ho]; exact fun z => nomatch z⟩
  have e1317 := ((e14.trans e15).trans e16).trans e17
  have hT17 : Kp (fun b => H12 b = none) H13 H17 := Kp.ex e1317
  have e1316 := (e14.trans e15).trans e16
  have known : ∀ {A G : Hp} {b : Addr} {o : HO}, Ex A G → A b = some o → G b ≠ none := fun e h => by rw [e _ _ h]; exact fun z => nomatch z
  have fa : ∀ {G : Hp}, Kq s H9 H10 H12 H15 H16 G → (G pv = some (.lst (vd.map V.int)) ∧ G pe = some (.lst (as.map V.ref)) ∧ G pn = some (.lst (nm.map V.int)) ∧ G Dl = some (.lst (qs.map V.ref)) ∧ G px = some (.lst (ks.map V.ref))) ∧ EnsN (fun b => b ≠ s) G as es ∧ TxN (fun b => b ≠ s) G qs rs ∧ TxN (fun b => b ≠ s) G ks (valsO es nm) ∧ CmN (fun b => b ≠ s) T.C_Comments G c vd es ∧ CmN (fun b => H15 b = none) T.C_Comments G ch vd (withV es nm rs) ∧ DrS K G s a ns := fun h => by
    have kp := Kp.fr (N := fun b => b ≠ s) h.1 fun h => h rfl
    exact ⟨⟨h.1.l nvs gv9, h.1.l nes ge9, h.1.l nns gn9, h.1.l nts gt9, h.2.1 _ _ hpx10 gx⟩, hE9.kp kp, hT9.kp kp, hX9.kp kp, hC9.kp kp, hCh.kp h.2.2.1, hd9.fr h.1⟩
  -- title.append(66)
  have gpl17 := (e16.trans e17) _ _ gpl
  have hpl13 : H13 pl = none := fresh_back e14 hpl
  have hpl12 : H12 pl = none := fresh_back e13 hpl13
  have hpl9 : H9 pl = none := fresh_back e912 hpl12
  have npl : pl ≠ s := ne_st hd9.1 hpl9
  refine q_app (v := .int 66) gpl17 (ev_var rfl) ev_c (by rw [List.length_map]; omega) fun H18 e18 => ?_
  have hK18 := (hK17.ex e18).mut (o := .lst (nm.map V.int ++ [V.int 66])) npl hpl9 (fun _ => hpl12) (fun h => absurd h (by rw [gpl]; exact fun z => nomatch z))
  have hT18 : Kp (fun b => H12 b = none) H13 (upd H18 pl (.lst (nm.map V.int ++ [V.int 66]))) := (hT17.trans (Kp.ex e18)).mut fun _ => hpl13
  have e14x : Ex H14 (upd H18 pl (.lst (nm.map V.int ++ [V.int 66]))) := Ex.mut (((e15.trans e16).trans e17).trans e18) hpl
  generalize upd H18 pl (.lst (nm.map V.int ++ [V.int 66])) = G1 at *
  have e1014 := e1012.trans (e13.trans e14)
  have gh14 := e1014 _ _ gh
  have hH14 := hH.ex e1014
  have hhl : hs2.length ≤ 3 := by rw [hH.1]; omega
  refine q_appAll (K := K) (l := ph) (qs := hs2) (v := .int 2) (P := fun G => Kq s H9 H10 H12 H15 H16 G ∧ Kp (fun b => H12 b = none) H13 G) (ev_var rfl) (e14x _ _ gh14) (fun q hq => ?_) (by omega) ⟨hK18, hT18⟩ (fun G G' h e => ⟨h.1.ex e, h.2.trans (Kp.ex e)⟩) (fun G q o hq h => ?_) (fun σ' x hσ => by rcases hσ with rfl | ⟨z, rfl⟩ <;> rfl) (fun _ _ => ev_c) ?_
  · obtain ⟨j, hj⟩ := List.mem_iff_getElem?.mp hq
    have hjl := (List.getElem?_eq_some_iff.mp hj).1
    have hr : rs[j]? = some (rs[j]'(by rw [← hH.1]; exact hjl)) := List.getElem?_eq_getElem _
    obtain ⟨⟨_, n2⟩, g⟩ := hH14.2 j q _ hj hr
    have := hrb _ (List.mem_of_getElem? hr)
    exact ⟨n2, _, e14x _ _ g, by rw [List.length_map]; omega⟩
  · obtain ⟨j, hj⟩ := List.mem_iff_getElem?.mp hq
    have hjl := (List.getElem?_eq_some_iff.mp hj).1
    have hr : rs[j]? = some (rs[j]'(by rw [← hH.1]; exact hjl)) := List.getElem?_eq_getElem _
    obtain ⟨⟨n1, n2⟩, g⟩ := hH.2 j q _ hj hr
    exact ⟨h.1.mut (ne_st hd9.1 n1) n1 (fun z => absurd z (by rw [g]; exact fun z => nomatch z)) (fun z => absurd z (known (e1012.trans e1215) g)), h.2.mut fun z => absurd z (known e1012 g)⟩
  rintro σ' H19 hσ ⟨hK19, hT19⟩ gh19
  obtain ⟨z7, rfl⟩ : ∃ z7 : Option V, σ' = [some (.ref a), some (.ref s), some (.ref pv), some (.ref pe), some (.ref pn), some (.ref Dl), some (.ref c), z7, some (.ref ph), none, some (.ref px), some (.ref po), some (.ref pl), some (.ref ch), none, none, none, none, none] := by
    rcases hσ with rfl | ⟨z, rfl⟩
    · exact ⟨none, rfl⟩
    · exact ⟨z, rfl⟩
  clear hσ hK18 hT18 e14x
  refine q_appL gh19 (ev_var rfl) (el_lst (ea_cons ev_c ea_nil) (Nat.le_of_ble_eq_true rfl)) (by rw [List.length_map]; omega) fun p3 H20 hp3 e20 g3 => ?_
  have nph : ph ≠ s := ne_st hd9.1 hph
  have hK20 := (hK19.ex e20).mut (o := .lst (hs2.map V.ref ++ [.ref p3])) nph hph (fun z => absurd z (by rw [gh]; exact fun z => nomatch z)) (fun z => absurd z (known (e1012.trans e1215) gh))
  have hT20 : Kp (fun b => H12 b = none) H13 (upd H20 ph (.lst (hs2.map V.ref ++ [.ref p3]))) := (hT19.trans (Kp.ex e20)).mut fun z => absurd z (known e1012 gh)
  generalize upd H20 ph (.lst (hs2.map V.ref ++ [.ref p3])) = G2 at *
  clear hK19 hT19 gh19 e20 g3 hp3
  obtain ⟨⟨av, ae, an, at_, ax⟩, aE, aT, aX, aC, aCh, aD⟩ := fa hK20
  refine q_when (b := false) (et_is (et_test (ev_neDD (K := K) (d := enD (withV es nm rs)) (cm_fE T (ev_var rfl) aCh) (ed_chg (ev_var rfl) (ev_var rfl) (ev_var rfl) ae (wkE aE) an at_ (wkT aT) hB hnl (by omega)) (shaped_en _))) rfl) (fun hb => by cases hb) fun _ H21 e21 => ?_
  have hK21 := hK20.ex e21
  have hT21 := hT20.trans (Kp.ex e21)
  clear hK20 hT20 av ae an at_ ax aE aT aX aC aCh aD e21
  obtain ⟨⟨av, ae, an, at_, ax⟩, aE, aT, aX, aC, aCh, aD⟩ := fa hK21
  refine qw_when (s := s) (wt_neDD (K := K) (d := txD rs) (fun Q0 q0 => ?_) (fun H22 f22 => ed_txs (ev_var rfl) (f22.l nts at_) (aT.kp (Kp.fr f22 fun h => h rfl))) (shaped_tx _)) (fun h => by cases h) fun _ H22 f22 => ?_
  · obtain ⟨dx1, pv1, pe1, as1, gc1, _⟩ := cm_get aCh
    refine ⟨_, rfl, ⟨ch, dx1, _, rfl, gc1, rfl, ⟨_, rfl, ⟨_, rfl, ⟨_, rfl, ⟨s, a, pn, ns, nm, rfl, aD, nns, an, hnl, fun p xs H3 hp f3 gp hup hxl => ?_⟩⟩⟩⟩⟩⟩
    exact ⟨ch, p, vd, xs, withV es nm rs, rfl, wkC (aCh.kp (Kp.fr f3 hB15)), gp, hBw, hxl, fun r as' H4 hr e4 gr hTs => q0 (.ref r) H4 (f3.tex e4) (.lst (sq_of gr) (by have := dp_txs (K := K) hTs; rwa [valsO_with hup] at this))⟩
  have hK22 := hK21.fr f22 hB10 hB15
  have hs12 : H12 s ≠ none := hsk e912
  have hT22 := hT21.trans (Kp.fr f22 hs12)
  clear hK21 hT21 av ae an at_ ax aE aT aX aC aCh aD f22
  obtain ⟨⟨av, ae, an, at_, ax⟩, aE, aT, aX, aC, aCh, aD⟩ := fa hK22
  -- spare
  refine q_asgX (ex_with T (nm := nm) (rs := rs) (ev_var rfl) (wkC aC) (ev_var rfl) an (ev_var rfl) at_ (wkT aT) hB hnl (by omega)) fun v H23 e23 hv => ?_
  obtain ⟨sp, rfl, dxs, spv, spe, sas, m0, gsp, m1, gspv, m2, gspe, hSE⟩ := hv
  have hK23 := hK22.ex e23
  have hT23 := hT22.trans (Kp.ex e23)
  have frs : ∀ {q : Addr}, H22 q = none → q ≠ s ∧ H9 q = none ∧ H12 q = none ∧ H13 q = none ∧ H16 q = none := fun {q} hq => by
    have h16 : H16 q = none := by
      cases ho : H16 q with
      | none => rfl
      | some o => exact absurd hq (hK22.2.2.2 q (by rw [ho]; exact fun z => nomatch z))
    exact ⟨ne_st aD.1 hq, fresh_back e916 h16, fresh_back (e1215.trans e16) h16, fresh_back e1316 h16, h16⟩
  refine q_appAllE (K := K) (l := spe) (as := sas) (es := withV es nm rs) (N := fun b => H22 b = none) (v := .int 5) (P := fun G => Kq s H9 H10 H12 H15 H16 G ∧ Kp (fun b => H12 b = none) H13 G) (ev_fld T.cl_Comments T.n_Comments_entries (ev_var rfl) gsp rfl) gspe hSE (fun e he => ?_) (by have := hBw.1; omega) ⟨hK23, hT23⟩ (fun G G' h e => ⟨h.1.ex e, h.2.trans (Kp.ex e)⟩) (fun G q o hq h => ?_) (fun σ' x hσ => by rcases hσ with rfl | ⟨z, rfl⟩ <;> rfl) (fun _ _ => ev_c) ?_
  · rcases withV_mem he with h | ⟨v, hv, rfl⟩
    · have := hen e h; omega
    · have := hrb v hv; exact ⟨by show nm.length ≤ _; omega, by show v.length ≤ _; omega⟩
  · obtain ⟨x1, x2, x3, x4, x5⟩ := frs hq
    exact ⟨h.1.mut x1 x2 (fun _ => x3) (fun _ => x5), h.2.mut fun _ => x4⟩
  rintro σ' H24 hσ ⟨hK24, hT24⟩ hob hls
  obtain ⟨z9, rfl⟩ : ∃ z9 : Option V, σ' = [some (.ref a), some (.ref s), some (.ref pv), some (.ref pe), some (.ref pn), some (.ref Dl), some (.ref c), z7, some (.ref ph), z9, some (.ref px), some (.ref po), some (.ref pl), some (.ref ch), some (.ref sp), none, none, none, none] := by
    rcases hσ with rfl | ⟨z, rfl⟩
    · exact ⟨none, rfl⟩
    · exact ⟨z, rfl⟩
  clear hσ hK23 hT23
  have gsp24 := hob sp _ (fun ys h => by cases h) gsp
  obtain ⟨xv, gxv, hxvl⟩ := hls spv vd gspv (by omega)
  refine q_app (l := spv) (xs := xv) (v := .int 5) gxv (ev_fld T.cl_Comments T.n_Comments_vendor (ev_var rfl) gsp24 rfl) ev_c (by omega) fun H25 e25 => ?_
  obtain ⟨x1, x2, x3, x4, x5⟩ := frs m1
  have hK25 := (hK24.ex e25).mut (o := .lst (xv ++ [V.int 5])) x1 x2 (fun _ => x3) (fun _ => x5)
  have hT25 : Kp (fun b => H12 b = none) H13 (upd H25 spv (.lst (xv ++ [V.int 5]))) := (hT24.trans (Kp.ex e25)).mut fun _ => x4
  generalize upd H25 spv (.lst (xv ++ [V.int 5])) = G3 at *
  clear hK24 hT24 hob hls gsp24 gxv hxvl e25 x1 x2 x3 x4 x5 hSE gsp gspv gspe m0 m1 m2 av ae an at_ ax aE aT aX aC aCh aD frs hK22 hT22 e23
  obtain ⟨⟨av, ae, an, at_, ax⟩, aE, aT, aX, aC, aCh, aD⟩ := fa hK25
  refine q_when (b := false) (et_is (et_or (a := false) (b := false) (et_is (et_test (ev_neDD (K := K) (d := enD es) (cm_fE T (ev_var rfl) aC) (ed_ens (ev_var rfl) ae aE) (shaped_en _))) rfl) fun _ => ne_vd (cm_fV T (ev_var rfl) aC) (Ev.s (ev_var rfl) (sq_of av))) rfl) (fun hb => by cases hb) fun _ H26 e26 => ?_
  have hK26 := hK25.ex e26
  have hT26 := hT25.trans (Kp.ex e26)
  have hxl := valsO_len es nm
  have htl : ts.length ≤ 10 := by rw [hTo.1]; omega
  have go26 := hT26 po _ hpo go
  have hTo26 := hTo.kp (fun b o n g => hT26 b o n.1 g)
  -- told's texts change
  refine q_appAll (K := K) (l := po) (qs := ts) (v := .int 1) (P := fun G => Kq s H9 H10 H12 H15 H16 G) (ev_var rfl) go26 (fun q hq => ?_) (by omega) hK26 (fun G G' h e => h.ex e) (fun G q o hq h => ?_) (fun σ' x hσ => by rcases hσ with rfl | ⟨z, rfl⟩ <;> rfl) (fun _ _ => ev_c) ?_
  · obtain ⟨j, hj⟩ := List.mem_iff_getElem?.mp hq
    have hjl := (List.getElem?_eq_some_iff.mp hj).1
    have hr : (valsO es nm)[j]? = some ((valsO es nm)[j]'(by rw [← hTo.1]; exact hjl)) := List.getElem?_eq_getElem _
    obtain ⟨⟨_, n2⟩, g⟩ := hTo26.2 j q _ hj hr
    have := hvb _ (List.mem_of_getElem? hr)
    exact ⟨n2, _, g, by rw [List.length_map]; omega⟩
  · obtain ⟨j, hj⟩ := List.mem_iff_getElem?.mp hq
    have hjl := (List.getElem?_eq_some_iff.mp hj).1
    have hr : (valsO es nm)[j]? = some ((valsO es nm)[j]'(by rw [← hTo.1]; exact hjl)) := List.getElem?_eq_getElem _
    obtain ⟨⟨n1, n2⟩, g⟩ := hTo.2 j q _ hj hr
    have n9 := fresh_back e912 n1
    exact h.mut (ne_st hd9.1 n9) n9 (fun _ => n1) (fun z => absurd z (known (e14.trans e15) g))
  rintro σ' H27 hσ hK27 go27
  obtain ⟨z7b, rfl⟩ : ∃ z7b : Option V, σ' = [some (.ref a), some (.ref s), some (.ref pv), some (.ref pe), some (.ref pn), some (.ref Dl), some (.ref c), z7b, some (.ref ph), z9, some (.ref px), some (.ref po), some (.ref pl), some (.ref ch), some (.ref sp), none, none, none, none] := by
    rcases hσ with rfl | ⟨z, rfl⟩
    · exact ⟨z7, rfl⟩
    · exact ⟨z, rfl⟩
  refine q_appL go27 (ev_var rfl) (el_lst (ea_cons ev_c ea_nil) (Nat.le_of_ble_eq_true rfl)) (by rw [List.length_map]; omega) fun p4 H28 hp4 e28 g4 => ?_
  have po9 := fresh_back e912 hpo
  have hK28 := (hK27.ex e28).mut (o := .lst (ts.map V.ref ++ [.ref p4])) (ne_st hd9.1 po9) po9 (fun _ => hpo) (fun z => absurd z (known (e14.trans e15) go))
  generalize upd H28 po (.lst (ts.map V.ref ++ [.ref p4])) = G4 at *
  clear hσ hK25 hT25 hK26 hT26 hK27 go26 go27 e26 e28 g4 hp4 hTo26 av ae an at_ ax aE aT aX aC aCh aD
  obtain ⟨⟨av, ae, an, at_, ax⟩, aE, aT, aX, aC, aCh, aD⟩ := fa hK28
  have dv : ∀ {G : Hp} {c : Addr} {es : List En} {σ : L2.St} {to : TE} {E : XK}, Ev to σ G (.ref c) → CmN (fun _ => True) T.C_Comments G c vd es → EnB es → σ[4]? = some (some (.ref pn)) → G pn = some (.lst (nm.map V.int)) → EvD K (tMeth T.C_Comments "values_of" (sp_vals T.C_Comments) [] E to (tCons (tVar 4) tNil)) σ G (txD (valsO es nm)) := fun h hC hB h4 gn => (ex_vals T (nm := nm) h hC (Ev.r (ev_var h4) gn) hB hnl).d fun v G ⟨p, as, hv, _, gp, hT⟩ => by rw [hv]; exact .lst (sq_of gp) (dp_txs hT)
  refine q_when (b := false) (et_is (et_or (a := false) (b := false) (et_is (et_test (ev_neDD (K := K) (d := enD es) (cm_fE T (ev_var rfl) aC) (ed_ens (ev_var rfl) ae aE) (shaped_en _))) rfl) fun _ => et_or (a := false) (b := false) (ne_vd (cm_fV T (ev_var rfl) aC) (Ev.s (ev_var rfl) (sq_of av))) fun _ => et_is (et_test (ev_neDD (K := K) (d := txD (valsO es nm)) (dv (ev_var rfl) (wkC aC) hB rfl an) (ed_txs (ev_var rfl) ax aX) (shaped_tx _))) rfl) rfl) (fun hb => by cases hb) fun _ H29 e29 => ?_
  -- again
  refine q_asgX (ex_with T (nm := nm) (rs := valsO es nm) (ev_var rfl) ((wkC aCh).ex e29) (ev_var rfl) (e29 _ _ an) (ev_var rfl) (e29 _ _ ax) ((wkT aX).ex e29) hBw hnl (by omega)) fun v H30 e30 hv => ?_
  obtain ⟨ag, rfl, hAg⟩ := hv
  have e30' := e29.trans e30
  have hBa : EnB (withV (withV es nm rs) nm (valsO es nm)) := ⟨by have h1 := withV_len (withV es nm rs) nm (valsO es nm); have h2 := withV_len es nm rs; omega, fun e he => by
    rcases withV_mem he with h | ⟨v, hv, rfl⟩
    · exact hBw.2 e h
    · exact hnl⟩
  refine q_asgX (ex_selE (K := K) (nm := nm) (ev_var rfl) (e30' _ _ ae) ((wkE aE).ex e30') (e30' _ _ an) hB hnl (fun _ => rfl) (fun _ => rfl) (fun _ => rfl)) fun v H31 e31 hv => ?_
  obtain ⟨p5, k5, rfl, _, g5, hS5⟩ := hv
  have e31' := e30'.trans e31
  obtain ⟨dxa, pva, pea, asa, ga0, _, ga2, hEa⟩ := cm_get (hAg.ex e31)
  refine q_asgX (ex_selE (K := K) (nm := nm) (ev_fld T.cl_Comments T.n_Comments_entries (ev_var rfl) ga0 rfl) ga2 hEa (e31' _ _ an) hBa hnl (fun _ => rfl) (fun _ => rfl) (fun _ => rfl)) fun v H32 e32 hv => ?_
  obtain ⟨p6, k6, rfl, _, g6, hS6⟩ := hv
  have e32' := e31'.trans e32
  rw [missE_put, missE_put] at hS6
  refine s_ret (v := .bl true) (Ev.is (ev_andV (ev_eqDD (K := K) (d := txD (valsO es nm)) ?_ (ed_txs (ev_var rfl) (e32' _ _ ax) ((wkT aX).ex e32')) (shaped_tx _)) fun _ => ev_andV (ev_eqDD (K := K) (d := enD (missE nm es)) (ed_ens (ev_var rfl) g6 hS6) (ed_ens (ev_var rfl) (e32 _ _ g5) (hS5.ex e32)) (shaped_en _)) fun _ => ev_eqDD (K := K) (d := txD rs) ?_ (ed_txs (ev_var rfl) (e32' _ _ at_) ((wkT aT).ex e32')) (shaped_tx _)) rfl) fun H33 _ => k _
  · rw [← valsO_with (nm := nm) (x := nm) rfl (withV es nm rs) (valsO es nm)]
    exact dv (ev_var rfl) (wkC (hAg.ex (e31.trans e32))) hBa rfl (e32' _ _ an)
  · rw [← valsO_with (nm := nm) (x := nm) rfl es rs]
    exact dv (ev_var rfl) ((wkC aCh).ex e32') hBw rfl (e32' _ _ an)

end
theorem ml1 {α : Type} : ∀ {us : List α}, us.length = 1 → ∃ x0, us = [x0]
  | [x0], _ => ⟨x0, rfl⟩
theorem ml2 {α : Type} : ∀ {us : List α}, us.length = 2 → ∃ x0 x1, us = [x0, x1]
  | [x0, x1], _ => ⟨x0, x1, rfl⟩
theorem ml3 {α : Type} : ∀ {us : List α}, us.length = 3 → ∃ x0 x1 x2, us = [x0, x1, x2]
  | [x0, x1, x2], _ => ⟨x0, x1, x2, rfl⟩
set_option maxHeartbeats 0 in
theorem all_mk {l : PySem.W.OpenLaw} {w : World} {K : PySem.W.Frag} {h : Heap} {mg : Str → Option Value} {fa : Addr} {f1 f2 f3 f4 f5 f6 f7 f8 f9 f10 f11 f12 f13 f14 C_Comments : Addr} (X : K.In h) (G : h.Ns mainGlobals mg) (hfa : mg "law" = some (.ref fa))
    {od1 an1 : Option Addr} {sl1 : Array (Option Value)} {oc1 dc1 pm1 cd1 ct1 : Value} {kV1 : Value} {od2 an2 : Option Addr} {sl2 : Array (Option Value)} {oc2 dc2 pm2 cd2 ct2 : Value} {kV2 : Value} {od3 an3 : Option Addr} {sl3 : Array (Option Value)} {oc3 dc3 pm3 cd3 ct3 : Value} {kV3 : Value} {od4 an4 : Option Addr} {sl4 : Array (Option Value)} {oc4 dc4 pm4 cd4 ct4 : Value} {kV4 : Value} {od5 an5 : Option Addr} {sl5 : Array (Option Value)} {oc5 dc5 pm5 cd5 ct5 : Value} {kV5 : Value} {od6 an6 : Option Addr} {sl6 : Array (Option Value)} {oc6 dc6 pm6 cd6 ct6 : Value} {kV6 : Value} {od7 an7 : Option Addr} {sl7 : Array (Option Value)} {oc7 dc7 pm7 cd7 ct7 : Value} {kV7 : Value} {od8 an8 : Option Addr} {sl8 : Array (Option Value)} {oc8 dc8 pm8 cd8 ct8 : Value} {kV8 : Value} {od9 an9 : Option Addr} {sl9 : Array (Option Value)} {oc9 dc9 pm9 cd9 ct9 : Value} {kV9 : Value} {od10 an10 : Option Addr} {sl10 : Array (Option Value)} {oc10 dc10 pm10 cd10 ct10 : Value} {kV10 : Value} {od11 an11 : Option Addr} {sl11 : Array (Option Value)} {oc11 dc11 pm11 cd11 ct11 : Value} {kV11 : Value} {od12 an12 : Option Addr} {sl12 : Array (Option Value)} {oc12 dc12 pm12 cd12 ct12 : Value} {kV12 : Value} {od13 an13 : Option Addr} {sl13 : Array (Option Value)} {oc13 dc13 pm13 cd13 ct13 : Value} {kV13 : Value} {od14 an14 : Option Addr} {sl14 : Array (Option Value)} {oc14 dc14 pm14 cd14 ct14 : Value} {kV14 : Value}
    (a1 : PySem.W.findIn K (.ref C_Comments) "__init__" = some (some (.ref f1))) (i1 : PySem.W.isFn K (.ref f1) = true)
    (l1 : K.lookup f1 = some ⟨oc1, od1, .func (PySem.W.fnOf "__init__" "Comments.__init__" (defArgs s_Comments_init) (defBody s_Comments_init) (defScope s_Comments_init) .none kV1 dc1 pm1 an1 cd1 ct1), sl1⟩) (c1 : PySem.W.codeIn K cd1 "Comments.__init__" = true) (k1 : PySem.W.keepIn K (.ref f1) = true)
    (a2 : PySem.W.findIn K (.ref C_Comments) "values_of" = some (some (.ref f2))) (i2 : PySem.W.isFn K (.ref f2) = true)
    (l2 : K.lookup f2 = some ⟨oc2, od2, .func (PySem.W.fnOf "values_of" "Comments.values_of" (defArgs s_Comments_values_of) (defBody s_Comments_values_of) (defScope s_Comments_values_of) .none kV2 dc2 pm2 an2 cd2 ct2), sl2⟩) (c2 : PySem.W.codeIn K cd2 "Comments.values_of" = true) (k2 : PySem.W.keepIn K (.ref f2) = true)
    (a3 : PySem.W.findIn K (.ref C_Comments) "with_values" = some (some (.ref f3))) (i3 : PySem.W.isFn K (.ref f3) = true)
    (l3 : K.lookup f3 = some ⟨oc3, od3, .func (PySem.W.fnOf "with_values" "Comments.with_values" (defArgs s_Comments_with_values) (defBody s_Comments_with_values) (defScope s_Comments_with_values) .none kV3 dc3 pm3 an3 cd3 ct3), sl3⟩) (c3 : PySem.W.codeIn K cd3 "Comments.with_values" = true) (k3 : PySem.W.keepIn K (.ref f3) = true)
    (a4 : PySem.W.nsIn K mainGlobals "_match" = some (some (.ref f4)))
    (l4 : K.lookup f4 = some ⟨oc4, od4, .func (PySem.W.fnOf "_match" "_match" (defArgs s_match) (defBody s_match) (defScope s_match) .none kV4 dc4 pm4 an4 cd4 ct4), sl4⟩) (c4 : PySem.W.codeIn K cd4 "_match" = true) (k4 : PySem.W.keepIn K (.ref f4) = true)
    (a5 : PySem.W.nsIn K mainGlobals "_upper_case" = some (some (.ref f5)))
    (l5 : K.lookup f5 = some ⟨oc5, od5, .func (PySem.W.fnOf "_upper_case" "_upper_case" (defArgs s_upper_case) (defBody s_upper_case) (defScope s_upper_case) .none kV5 dc5 pm5 an5 cd5 ct5), sl5⟩) (c5 : PySem.W.codeIn K cd5 "_upper_case" = true) (k5 : PySem.W.keepIn K (.ref f5) = true)
    (a6 : PySem.W.nsIn K mainGlobals "_law_refill" = some (some (.ref f6)))
    (l6 : K.lookup f6 = some ⟨oc6, od6, .func (PySem.W.fnOf "_law_refill" "_law_refill" (defArgs s_law_refill) (defBody s_law_refill) (defScope s_law_refill) .none kV6 dc6 pm6 an6 cd6 ct6), sl6⟩) (c6 : PySem.W.codeIn K cd6 "_law_refill" = true) (k6 : PySem.W.keepIn K (.ref f6) = true)
    (a7 : PySem.W.nsIn K mainGlobals "_law_draw" = some (some (.ref f7)))
    (l7 : K.lookup f7 = some ⟨oc7, od7, .func (PySem.W.fnOf "_law_draw" "_law_draw" (defArgs s_law_draw) (defBody s_law_draw) (defScope s_law_draw) .none kV7 dc7 pm7 an7 cd7 ct7), sl7⟩) (c7 : PySem.W.codeIn K cd7 "_law_draw" = true) (k7 : PySem.W.keepIn K (.ref f7) = true)
    (a8 : PySem.W.nsIn K mainGlobals "_law_text" = some (some (.ref f8)))
    (l8 : K.lookup f8 = some ⟨oc8, od8, .func (PySem.W.fnOf "_law_text" "_law_text" (defArgs s_law_text) (defBody s_law_text) (defScope s_law_text) .none kV8 dc8 pm8 an8 cd8 ct8), sl8⟩) (c8 : PySem.W.codeIn K cd8 "_law_text" = true) (k8 : PySem.W.keepIn K (.ref f8) = true)
    (a9 : PySem.W.nsIn K mainGlobals "_law_name" = some (some (.ref f9)))
    (l9 : K.lookup f9 = some ⟨oc9, od9, .func (PySem.W.fnOf "_law_name" "_law_name" (defArgs s_law_name) (defBody s_law_name) (defScope s_law_name) .none kV9 dc9 pm9 an9 cd9 ct9), sl9⟩) (c9 : PySem.W.codeIn K cd9 "_law_name" = true) (k9 : PySem.W.keepIn K (.ref f9) = true)
    (a10 : PySem.W.nsIn K mainGlobals "_law_entries" = some (some (.ref f10)))
    (l10 : K.lookup f10 = some ⟨oc10, od10, .func (PySem.W.fnOf "_law_entries" "_law_entries" (defArgs s_law_entries) (defBody s_law_entries) (defScope s_law_entries) .none kV10 dc10 pm10 an10 cd10 ct10), sl10⟩) (c10 : PySem.W.codeIn K cd10 "_law_entries" = true) (k10 : PySem.W.keepIn K (.ref f10) = true)
    (a11 : PySem.W.nsIn K mainGlobals "_law_upper" = some (some (.ref f11)))
    (l11 : K.lookup f11 = some ⟨oc11, od11, .func (PySem.W.fnOf "_law_upper" "_law_upper" (defArgs s_law_upper) (defBody s_law_upper) (defScope s_law_upper) .none kV11 dc11 pm11 an11 cd11 ct11), sl11⟩) (c11 : PySem.W.codeIn K cd11 "_law_upper" = true) (k11 : PySem.W.keepIn K (.ref f11) = true)
    (a12 : PySem.W.nsIn K mainGlobals "_law_turned" = some (some (.ref f12)))
    (l12 : K.lookup f12 = some ⟨oc12, od12, .func (PySem.W.fnOf "_law_turned" "_law_turned" (defArgs s_law_turned) (defBody s_law_turned) (defScope s_law_turned) .none kV12 dc12 pm12 an12 cd12 ct12), sl12⟩) (c12 : PySem.W.codeIn K cd12 "_law_turned" = true) (k12 : PySem.W.keepIn K (.ref f12) = true)
    (a13 : PySem.W.nsIn K mainGlobals "_law_changed" = some (some (.ref f13)))
    (l13 : K.lookup f13 = some ⟨oc13, od13, .func (PySem.W.fnOf "_law_changed" "_law_changed" (defArgs s_law_changed) (defBody s_law_changed) (defScope s_law_changed) .none kV13 dc13 pm13 an13 cd13 ct13), sl13⟩) (c13 : PySem.W.codeIn K cd13 "_law_changed" = true) (k13 : PySem.W.keepIn K (.ref f13) = true)
    (a14 : PySem.W.nsIn K mainGlobals "law" = some (some (.ref f14)))
    (l14 : K.lookup f14 = some ⟨oc14, od14, .func (PySem.W.fnOf "law" "law" (defArgs s_law) (defBody s_law) (defScope s_law) .none kV14 dc14 pm14 an14 cd14 ct14), sl14⟩) (c14 : PySem.W.codeIn K cd14 "law" = true) (k14 : PySem.W.keepIn K (.ref f14) = true)
    (aC_Comments : PySem.W.nsIn K mainGlobals "Comments" = some (some (.ref C_Comments)))
    (pg_Comments : PySem.W.plainGet K C_Comments Str.empty = true) (hd_Comments : PySem.W.hasDictIn K C_Comments = true) (po_Comments : PySem.W.plainOver K C_Comments = true) (sa_Comments : PySem.W.findIn K (.ref C_Comments) "__setattr__" = some (some (.builtin "object.__setattr__"))) (mk_Comments : PySem.W.makesIn K C_Comments = true) (kc_Comments : PySem.W.keepIn K (.ref C_Comments) = true)
    (n_Comments_vendor : PySem.W.findIn K (.ref C_Comments) "vendor" = some none)
    (n_Comments_entries : PySem.W.findIn K (.ref C_Comments) "entries" = some none)
    (z_list : PySem.W.nsIn K mainGlobals "list" = some none)
    (z_len : PySem.W.nsIn K mainGlobals "len" = some none)
    (z_int : PySem.W.nsIn K mainGlobals "int" = some none)
    (z_range : PySem.W.nsIn K mainGlobals "range" = some none)
    (z_isinstance : PySem.W.nsIn K mainGlobals "isinstance" = some none)
    : ∃ fd : FuncData, (∀ (s : Shared) (v : Value), BindsTo s fd ⟨[v], []⟩ [("script", v)]) ∧ ∀ base : Heap, K.In base → base.Ns mainGlobals mg → FnOk l.prog w K mg base CX0 5 fa fd ["script"] (sp_law K) := by
  have e := hfa.symm.trans (PySem.W.mg_of X G a14)
  cases e
  have F1 := fun_mk (st := s_Comments_init) l1 c1 k1
  have b1 := F1.binds (ps := ["self", "vendor", "entries"]) fun _ _ _ _ _ _ us hl => (by obtain ⟨_, _, _, rfl⟩ := ml3 hl; exact rfl)
  have F2 := fun_mk (st := s_Comments_values_of) l2 c2 k2
  have b2 := F2.binds (ps := ["self", "name"]) fun _ _ _ _ _ _ us hl => (by obtain ⟨_, _, rfl⟩ := ml2 hl; exact rfl)
  have F3 := fun_mk (st := s_Comments_with_values) l3 c3 k3
  have b3 := F3.binds (ps := ["self", "name", "values"]) fun _ _ _ _ _ _ us hl => (by obtain ⟨_, _, _, rfl⟩ := ml3 hl; exact rfl)
  have F4 := fun_mk (st := s_match) l4 c4 k4
  have b4 := F4.binds (ps := ["name", "other"]) fun _ _ _ _ _ _ us hl => (by obtain ⟨_, _, rfl⟩ := ml2 hl; exact rfl)
  have F5 := fun_mk (st := s_upper_case) l5 c5 k5
  have b5 := F5.binds (ps := ["name"]) fun _ _ _ _ _ _ us hl => (by obtain ⟨_, rfl⟩ := ml1 hl; exact rfl)
  have F6 := fun_mk (st := s_law_refill) l6 c6 k6
  have b6 := F6.binds (ps := ["script", "k"]) fun _ _ _ _ _ _ us hl => (by obtain ⟨_, _, rfl⟩ := ml2 hl; exact rfl)
  have F7 := fun_mk (st := s_law_draw) l7 c7 k7
  have b7 := F7.binds (ps := ["state", "script", "size"]) fun _ _ _ _ _ _ us hl => (by obtain ⟨_, _, _, rfl⟩ := ml3 hl; exact rfl)
  have F8 := fun_mk (st := s_law_text) l8 c8 k8
  have b8 := F8.binds (ps := ["state", "script", "most"]) fun _ _ _ _ _ _ us hl => (by obtain ⟨_, _, _, rfl⟩ := ml3 hl; exact rfl)
  have F9 := fun_mk (st := s_law_name) l9 c9 k9
  have b9 := F9.binds (ps := ["state", "script"]) fun _ _ _ _ _ _ us hl => (by obtain ⟨_, _, rfl⟩ := ml2 hl; exact rfl)
  have F10 := fun_mk (st := s_law_entries) l10 c10 k10
  have b10 := F10.binds (ps := ["state", "script", "most"]) fun _ _ _ _ _ _ us hl => (by obtain ⟨_, _, _, rfl⟩ := ml3 hl; exact rfl)
  have F11 := fun_mk (st := s_law_upper) l11 c11 k11
  have b11 := F11.binds (ps := ["name"]) fun _ _ _ _ _ _ us hl => (by obtain ⟨_, rfl⟩ := ml1 hl; exact rfl)
  have F12 := fun_mk (st := s_law_turned) l12 c12 k12
  have b12 := F12.binds (ps := ["state", "script", "name"]) fun _ _ _ _ _ _ us hl => (by obtain ⟨_, _, _, rfl⟩ := ml3 hl; exact rfl)
  have F13 := fun_mk (st := s_law_changed) l13 c13 k13
  have b13 := F13.binds (ps := ["entries", "name", "texts"]) fun _ _ _ _ _ _ us hl => (by obtain ⟨_, _, _, rfl⟩ := ml3 hl; exact rfl)
  have F14 := fun_mk (st := s_law) l14 c14 k14
  have b14 := F14.binds (ps := ["script"]) fun _ _ _ _ _ _ us hl => (by obtain ⟨_, rfl⟩ := ml1 hl; exact rfl)
  let T : TX K mg := ⟨f1, _, F1, b1, f2, _, F2, b2, f3, _, F3, b3, f4, _, F4, b4, (PySem.W.mg_of X G a4), f5, _, F5, b5, (PySem.W.mg_of X G a5), f6, _, F6, b6, (PySem.W.mg_of X G a6), f7, _, F7, b7, (PySem.W.mg_of X G a7), f8, _, F8, b8, (PySem.W.mg_of X G a8), f9, _, F9, b9, (PySem.W.mg_of X G a9), f10, _, F10, b10, (PySem.W.mg_of X G a10), f11, _, F11, b11, (PySem.W.mg_of X G a11), f12, _, F12, b12, (PySem.W.mg_of X G a12), f13, _, F13, b13, (PySem.W.mg_of X G a13), fa, _, F14, b14, (PySem.W.mg_of X G a14), C_Comments, ⟨pg_Comments, hd_Comments, po_Comments, sa_Comments⟩, (PySem.W.mg_of X G aC_Comments), ⟨mk_Comments, a1, i1, kc_Comments⟩, ⟨a2, i2, k2⟩, ⟨a3, i3, k3⟩, n_Comments_vendor, n_Comments_entries, (PySem.W.mg_none_of X G z_list), (PySem.W.mg_none_of X G z_len), (PySem.W.mg_none_of X G z_int), (PySem.W.mg_none_of X G z_range), (PySem.W.mg_none_of X G z_isinstance)⟩
  exact ⟨_, fun s v => .of_eq rfl, fun base _ _ => ok_law T⟩
end K52
open PySem PySem.W PyProof.Rows
set_option maxRecDepth 100000 in
set_option maxHeartbeats 0 in
theorem PySem.Challenge.cw_monochord_k52_values_of_a_name_holds : PySem.Challenge.rw_monochord_k52_values_of_a_name.Holds := by
  w_on; o_law; k_head; (case hw => w_witness2)
  k_fill
  refine L2.walk_of (l := PySem.Challenge.rw_monochord_k52_values_of_a_name) (n := 63) (k := 5) (x := "script") (CX := fun _ => L2.CX0) (sp := fun w => K52.sp_law _) rfl (by decide) rfl ⟨rfl, by decide, by decide⟩ (fun w h Y => PySem.W.kIn_of Y) ?F (fun _ _ a ns hl _ hS => ⟨a, ns, rfl, hS, hl, fun _ => rfl⟩) (fun _ _ _ _ _ h => h)
  case F =>
    intro w mg fa h KX G hmg
    refine' K52.all_mk KX G hmg ?a1 ?i1 ?l1 ?c1 ?k1 ?a2 ?i2 ?l2 ?c2 ?k2 ?a3 ?i3 ?l3 ?c3 ?k3 ?a4 ?l4 ?c4 ?k4 ?a5 ?l5 ?c5 ?k5 ?a6 ?l6 ?c6 ?k6 ?a7 ?l7 ?c7 ?k7 ?a8 ?l8 ?c8 ?k8 ?a9 ?l9 ?c9 ?k9 ?a10 ?l10 ?c10 ?k10 ?a11 ?l11 ?c11 ?k11 ?a12 ?l12 ?c12 ?k12 ?a13 ?l13 ?c13 ?k13 ?a14 ?l14 ?c14 ?k14 ?aC_Comments ?pg_Comments ?hd_Comments ?po_Comments ?sa_Comments ?mk_Comments ?kc_Comments ?n_Comments_vendor ?n_Comments_entries ?z_list ?z_len ?z_int ?z_range ?z_isinstance
    (case aC_Comments => k_is)
    (case a1 => k_is)
    (case i1 => k_is)
    (case l1 => k_is)
    (case c1 => k_is)
    (case k1 => k_is)
    (case a2 => k_is)
    (case i2 => k_is)
    (case l2 => k_is)
    (case c2 => k_is)
    (case k2 => k_is)
    (case a3 => k_is)
    (case i3 => k_is)
    (case l3 => k_is)
    (case c3 => k_is)
    (case k3 => k_is)
    (case a4 => k_is)
    (case l4 => k_is)
    (case c4 => k_is)
    (case k4 => k_is)
    (case a5 => k_is)
    (case l5 => k_is)
    (case c5 => k_is)
    (case k5 => k_is)
    (case a6 => k_is)
    (case l6 => k_is)
    (case c6 => k_is)
    (case k6 => k_is)
    (case a7 => k_is)
    (case l7 => k_is)
    (case c7 => k_is)
    (case k7 => k_is)
    (case a8 => k_is)
    (case l8 => k_is)
    (case c8 => k_is)
    (case k8 => k_is)
    (case a9 => k_is)
    (case l9 => k_is)
    (case c9 => k_is)
    (case k9 => k_is)
    (case a10 => k_is)
    (case l10 => k_is)
    (case c10 => k_is)
    (case k10 => k_is)
    (case a11 => k_is)
    (case l11 => k_is)
    (case c11 => k_is)
    (case k11 => k_is)
    (case a12 => k_is)
    (case l12 => k_is)
    (case c12 => k_is)
    (case k12 => k_is)
    (case a13 => k_is)
    (case l13 => k_is)
    (case c13 => k_is)
    (case k13 => k_is)
    (case a14 => k_is)
    (case l14 => k_is)
    (case c14 => k_is)
    (case k14 => k_is)
    (case pg_Comments => k_is)
    (case hd_Comments => k_is)
    (case po_Comments => k_is)
    (case sa_Comments => k_is)
    (case mk_Comments => k_is)
    (case kc_Comments => k_is)
    (case n_Comments_vendor => k_is)
    (case n_Comments_entries => k_is)
    (case z_list => k_is)
    (case z_len => k_is)
    (case z_int => k_is)
    (case z_range => k_is)
    (case z_isinstance => k_is)
