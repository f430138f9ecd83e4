import PyProof.Rows.All
import Wide.All
import OpenK.AllK
import Wide.FinOn
import HandS.ForMost
import HandS.Steps
import HandS.Evl
import HandS.IsInst
import HandS.Wide
import HandS.Walk
import HandS.TryOnly
import HandS.Text
import PyProof.P3Eq
import PySem.Challenge.RW_monochord_k48_text_bytes
set_option Elab.async false
set_option linter.all false
set_option maxRecDepth 100000
set_option maxHeartbeats 4000000
namespace K48
open PySem PySem.Spec PyProof.Rows L2 Evl
def topS (i : Nat) : Stmt := PySem.Challenge.pw_monochord_k48_text_bytes.main.body.getD i (.Pass ⟨0, 0, 0, 0⟩)
abbrev s_points_of : Stmt := topS 4
theorem sc_points_of : FnScope ["string", "character"] ["string"] (defScope s_points_of) := ⟨rfl, rfl, rfl, by decide +kernel, rfl, by decide +kernel, by decide +kernel⟩
abbrev s_write_utf8 : Stmt := topS 5
theorem sc_write_utf8 : FnScope ["text", "data", "point"] ["text"] (defScope s_write_utf8) := ⟨rfl, rfl, rfl, by decide +kernel, rfl, by decide +kernel, by decide +kernel⟩
abbrev s_read_utf8 : Stmt := topS 6
theorem sc_read_utf8 : FnScope ["data", "start", "stop", "text", "place", "count"] ["data", "start", "stop"] (defScope s_read_utf8) := ⟨rfl, rfl, rfl, by decide +kernel, rfl, by decide +kernel, by decide +kernel⟩
abbrev s_point_count : Stmt := topS 7
theorem sc_point_count : FnScope ["point"] ["point"] (defScope s_point_count) := ⟨rfl, rfl, rfl, by decide +kernel, rfl, by decide +kernel, by decide +kernel⟩
abbrev s_least_first : Stmt := topS 8
theorem sc_least_first : FnScope ["count"] ["count"] (defScope s_least_first) := ⟨rfl, rfl, rfl, by decide +kernel, rfl, by decide +kernel, by decide +kernel⟩
abbrev s_point_bytes : Stmt := topS 9
theorem sc_point_bytes : FnScope ["point", "count", "data", "shift"] ["point"] (defScope s_point_bytes) := ⟨rfl, rfl, rfl, by decide +kernel, rfl, by decide +kernel, by decide +kernel⟩
abbrev s_count_told : Stmt := topS 10
theorem sc_count_told : FnScope ["first", "count"] ["first"] (defScope s_count_told) := ⟨rfl, rfl, rfl, by decide +kernel, rfl, by decide +kernel, by decide +kernel⟩
abbrev s_read_point : Stmt := topS 11
theorem sc_read_point : FnScope ["data", "place", "count", "point", "further"] ["data", "place", "count"] (defScope s_read_point) := ⟨rfl, rfl, rfl, by decide +kernel, rfl, by decide +kernel, by decide +kernel⟩
abbrev s_law_is_integer : Stmt := topS 13
theorem sc_law_is_integer : FnScope ["actual"] ["actual"] (defScope s_law_is_integer) := ⟨rfl, rfl, rfl, by decide +kernel, rfl, by decide +kernel, by decide +kernel⟩
abbrev s_law_refill : Stmt := topS 14
theorem sc_law_refill : FnScope ["script", "k", "cell"] ["script", "k"] (defScope s_law_refill) := ⟨rfl, rfl, rfl, by decide +kernel, rfl, by decide +kernel, by decide +kernel⟩
abbrev s_law_draw : Stmt := topS 15
theorem sc_law_draw : FnScope ["state", "script", "size", "digit"] ["state", "script", "size"] (defScope s_law_draw) := ⟨rfl, rfl, rfl, by decide +kernel, rfl, by decide +kernel, by decide +kernel⟩
abbrev s_law_junk : Stmt := topS 17
theorem sc_law_junk : FnScope ["state", "script", "count", "k"] ["state", "script", "count"] (defScope s_law_junk) := ⟨rfl, rfl, rfl, by decide +kernel, rfl, by decide +kernel, by decide +kernel⟩
abbrev s_law_is_bytes : Stmt := topS 18
theorem sc_law_is_bytes : FnScope ["actual", "byte"] ["actual"] (defScope s_law_is_bytes) := ⟨rfl, rfl, rfl, by decide +kernel, rfl, by decide +kernel, by decide +kernel⟩
abbrev s_law_point : Stmt := topS 20
theorem sc_law_point : FnScope ["state", "script", "edges", "point"] ["state", "script"] (defScope s_law_point) := ⟨rfl, rfl, rfl, by decide +kernel, rfl, by decide +kernel, by decide +kernel⟩
abbrev s_law_bytes : Stmt := topS 21
theorem sc_law_bytes : FnScope ["point", "low", "second"] ["point"] (defScope s_law_bytes) := ⟨rfl, rfl, rfl, by decide +kernel, rfl, by decide +kernel, by decide +kernel⟩
abbrev s_law : Stmt := topS 22
theorem sc_law : FnScope ["script", "state", "k", "text", "expected", "point", "handed", "actual", "before", "data", "back", "other", "chars", "a", "part", "char"] ["script"] (defScope s_law) := ⟨rfl, rfl, rfl, by decide +kernel, rfl, by decide +kernel, by decide +kernel⟩
theorem hu64 {A : Around} {k : Nat} (hr : Room k A) : A.units + 64 < cLine := hr.units
/-! ### short words for readings -/
theorem ret_eq {v w : V} {H H' : Hp} {Q : VK} (k : RetV v H Q) (ex : Ex H H') (e : w = v) : Q w H' := e ▸ k H' ex
/-- isinstance(x, T), T a built-in class -/
theorem ev_isi {K : PySem.W.Frag} {σ : L2.St} {H : Hp} {ta : TE} {x : V} {t : String} {T : String} {b : Bool} (ha : Ev ta σ H x) (ht : ∀ H1, Ex H H1 → TyX K H1 x (.type t)) (hk : kitB t T = some b) :
    Ev (tCB (rIsi K) (tCons ta (tCons (tC (.ty T)) tNil))) σ H (.bl b) :=
  ev_cb (ea_cons ha (ea_cons ev_c ea_nil)) fun H1 e Q q => ⟨x, .ty T, _, _, b, rfl, .ty T, ht H1 e, kit_ty hk, q H1 (Ex.refl H1)⟩
theorem isi_int {K : PySem.W.Frag} {H : Hp} {i : Int} : ∀ H1, Ex H H1 → TyX K H1 (V.int i) (.type "int") := fun _ _ => .base (.int _)
theorem isi_bl {K : PySem.W.Frag} {H : Hp} {b : Bool} : ∀ H1, Ex H H1 → TyX K H1 (V.bl b) (.type "bool") := fun _ _ => .base (.bl _)
theorem isi_non {K : PySem.W.Frag} {H : Hp} : ∀ H1, Ex H H1 → TyX K H1 V.non (.type "NoneType") := fun _ _ => .base .non
theorem isi_lst {K : PySem.W.Frag} {H : Hp} {a : Addr} {xs : List V} (h : H a = some (.lst xs)) : ∀ H1, Ex H H1 → TyX K H1 (V.ref a) (.type "list") := fun _ e => .base (.lst (e _ _ h))
theorem isi_tup {K : PySem.W.Frag} {H : Hp} {a : Addr} {xs : List V} (h : H a = some (.tup xs)) : ∀ H1, Ex H H1 → TyX K H1 (V.ref a) (.type "tuple") := fun _ e => .base (.tup (e _ _ h))
theorem kit_ii : kitB "int" "int" = some true := by decide +kernel
theorem kit_ib : kitB "int" "bool" = some false := by decide +kernel
theorem kit_bb : kitB "bool" "bool" = some true := by decide +kernel
theorem kit_bi : kitB "bool" "int" = some true := by decide +kernel
theorem kit_ll : kitB "list" "list" = some true := by decide +kernel
theorem kit_tt : kitB "tuple" "tuple" = some true := by decide +kernel
theorem ev_isiI {K : PySem.W.Frag} {σ : L2.St} {H : Hp} {ta : TE} {i : Int} (ha : Ev ta σ H (.int i)) : Ev (tCB (rIsi K) (tCons ta (tCons (tC (.ty "int")) tNil))) σ H (.bl true) := ev_isi ha isi_int kit_ii
theorem ev_isiB {K : PySem.W.Frag} {σ : L2.St} {H : Hp} {ta : TE} {i : Int} (ha : Ev ta σ H (.int i)) : Ev (tCB (rIsi K) (tCons ta (tCons (tC (.ty "bool")) tNil))) σ H (.bl false) := ev_isi ha isi_int kit_ib
theorem ev_isiL {K : PySem.W.Frag} {σ : L2.St} {H : Hp} {ta : TE} {a : Addr} {xs : List V} (ha : Ev ta σ H (.ref a)) (h : H a = some (.lst xs)) : Ev (tCB (rIsi K) (tCons ta (tCons (tC (.ty "list")) tNil))) σ H (.bl true) := ev_isi ha (isi_lst h) kit_ll
theorem ev_isiBB {K : PySem.W.Frag} {σ : L2.St} {H : Hp} {ta : TE} {b : Bool} (ha : Ev ta σ H (.bl b)) : Ev (tCB (rIsi K) (tCons ta (tCons (tC (.ty "bool")) tNil))) σ H (.bl true) := ev_isi ha isi_bl kit_bb
theorem ev_chain {σ : L2.St} {H : Hp} {ta tb tc : TE} {g g' : Int → Int → Bool} {a b c : Int} (ha : Ev ta σ H (.int a)) (hb : Ev tb σ H (.int b)) (hc : Ev tc σ H (.int c)) :
    Ev (tChain (rI0 fun i j => .bl (g i j)) (rI0 fun i j => .bl (g' i j)) ta tb tc) σ H (.bl (g a b && g' b c)) := fun H1 e Q q =>
  ha H1 e _ fun H2 e2 => hb H2 (e.trans e2) _ fun H3 e3 => ⟨a, b, rfl, rfl, g a b, rfl, by
    cases hg : g a b with
    | true =>
      rw [if_pos rfl]
      rw [hg, Bool.true_and] at q
      exact hc H3 ((e.trans e2).trans e3) _ fun H4 e4 => ⟨b, c, rfl, rfl, q H4 ((e2.trans e3).trans e4)⟩
    | false =>
      rw [if_neg (by decide)]
      rw [hg, Bool.false_and] at q
      exact q H3 (e2.trans e3)⟩
theorem ev_isN {σ : L2.St} {H : Hp} {ta : TE} {x : V} (ha : Ev ta σ H x) : Ev (tOp rIsN ta (tC .non)) σ H (.bl (decide (x = .non))) := fun H1 e Q q => ha H1 e _ fun H2 e2 => ⟨rfl, q H2 e2⟩
theorem ev_notN {σ : L2.St} {H : Hp} {ta : TE} {x : V} (ha : Ev ta σ H x) : Ev (tOp rNotN ta (tC .non)) σ H (.bl (!decide (x = .non))) := fun H1 e Q q => ha H1 e _ fun H2 e2 => ⟨rfl, q H2 e2⟩
theorem ev_min2 {σ : L2.St} {H : Hp} {ta tb : TE} {i j : Int} (ha : Ev ta σ H (.int i)) (hb : Ev tb σ H (.int j)) :
    Ev (tCB (fun xs H Q => ∃ i j, xs = [.int i, .int j] ∧ Q (.int (if j < i then j else i)) H) (tCons ta (tCons tb tNil))) σ H (.int (if j < i then j else i)) :=
  ev_cb (ea_cons ha (ea_cons hb ea_nil)) fun H1 _ _ q => ⟨i, j, rfl, q H1 (Ex.refl H1)⟩
theorem ev_negI {σ : L2.St} {H : Hp} {ta : TE} {i : Int} (ha : Ev ta σ H (.int i)) : Ev (tUn (rU fun i => .int (-i)) ta) σ H (.int (-i)) := ev_un ha ru_neg
theorem ev_I0 {σ : L2.St} {H : Hp} {ta tb : TE} {g : Int → Int → V} {i j : Int} (ha : Ev ta σ H (.int i)) (hb : Ev tb σ H (.int j)) : Ev (tOp (rI0 g) ta tb) σ H (g i j) := ev_op ha hb rv_I0
theorem ev_I {σ : L2.St} {H : Hp} {ta tb : TE} {C : Int → Int → Prop} {g : Int → Int → V} {i j : Int} (ha : Ev ta σ H (.int i)) (hb : Ev tb σ H (.int j)) (hc : C i j) : Ev (tOp (rI C g) ta tb) σ H (g i j) := ev_op ha hb (rv_I hc)
theorem ev_eq {σ : L2.St} {H : Hp} {ta tb : TE} {x y : V} (ha : Ev ta σ H x) (hb : Ev tb σ H y) (hs : scal x y = true) : Ev (tOp rEq ta tb) σ H (.bl (decide (x = y))) := ev_op ha hb (rv_eq hs)
theorem ev_ne {σ : L2.St} {H : Hp} {ta tb : TE} {x y : V} (ha : Ev ta σ H x) (hb : Ev tb σ H y) (hs : scal x y = true) : Ev (tOp rNe ta tb) σ H (.bl (!decide (x = y))) := ev_op ha hb (rv_ne hs)
theorem et_B' {σ : L2.St} {H : Hp} {te : TE} {x : V} {b : Bool} (h : Ev te σ H x) (e : x = .bl b) : EvT (tB te) σ H b := et_B (e ▸ h)
theorem dec_lt {a b : Nat} : decide ((a : Int) < (b : Int)) = decide (a < b) := by
  by_cases h : a < b
  · rw [decide_eq_true h, decide_eq_true (by omega)]
  · rw [decide_eq_false h, decide_eq_false (by omega)]
theorem int_at {ns : List Int} {i : Nat} {x : V} (hx : (ns.map V.int)[i]? = some x) : ∃ n, ns[i]? = some n ∧ i < ns.length ∧ x = V.int n := by
  rw [List.getElem?_map] at hx
  cases en : ns[i]? with
  | none => rw [en] at hx; cases hx
  | some n => rw [en] at hx; exact ⟨n, rfl, (List.getElem?_eq_some_iff.mp en).1, (Option.some.inj hx).symm⟩
theorem at_int {ns : List Int} {i : Nat} {n : Int} (h : ns[i]? = some n) : (ns.map V.int)[i]? = some (V.int n) := by rw [List.getElem?_map, h]; rfl
local macro_rules | `(tactic| walk_at "side") => `(tactic| first
  | omega | (show CMul _ _; unfold CMul; omega) | (show CDiv _ _; unfold CDiv; omega) | (show CPow _ _; unfold CPow; omega) | (show (_ : Int) < _; omega) | (show (_ : Int) ≤ _; omega) | decide)
local macro_rules | `(tactic| walk_at "ev") => `(tactic| first
  | exact ev_var rfl
  | exact ev_c
  | (refine' ev_I0 ?h1 ?h2; (case h1 => walk_at "ev"); (case h2 => walk_at "ev"))
  | (refine' ev_negI ?h1; (case h1 => walk_at "ev"))
  | (refine' ev_I ?h1 ?h2 ?hc; (case h1 => walk_at "ev"); (case h2 => walk_at "ev"); (case hc => walk_at "side"))
  | (refine' ev_eq ?h1 ?h2 ?hc; (case h1 => walk_at "ev"); (case h2 => walk_at "ev"); (case hc => rfl))
  | (refine' ev_ne ?h1 ?h2 ?hc; (case h1 => walk_at "ev"); (case h2 => walk_at "ev"); (case hc => rfl))
  | (refine' ev_max2 ?h1 ?h2; (case h1 => walk_at "ev"); (case h2 => walk_at "ev"))
  | (refine' ev_min2 ?h1 ?h2; (case h1 => walk_at "ev"); (case h2 => walk_at "ev"))
  | (refine' ev_chain ?h1 ?h2 ?h3; (case h1 => walk_at "ev"); (case h2 => walk_at "ev"); (case h3 => walk_at "ev"))
  | (refine' ev_isN ?h1; (case h1 => walk_at "ev"))
  | (refine' ev_notN ?h1; (case h1 => walk_at "ev"))
  | (refine' ev_isiI ?h1; (case h1 => walk_at "ev"))
  | (refine' ev_isiB ?h1; (case h1 => walk_at "ev"))
  | (refine' ev_isiBB ?h1; (case h1 => walk_at "ev"))
  | (refine' ev_andV ?h1 (fun _ => ?h2); (case h1 => walk_at "ev"); (case h2 => walk_at "ev"))
  | (refine' ev_orV ?h1 (fun _ => ?h2); (case h1 => walk_at "ev"); (case h2 => walk_at "ev"))
  | (refine' ev_notV ?h1; (case h1 => walk_at "ev"))
  | walk_at "evmore")
local macro_rules | `(tactic| walk_at "et") => `(tactic| first
  | (refine' et_test ?h1; (case h1 => walk_at "ev"))
  | (refine' et_B ?h1; (case h1 => walk_at "ev"))
  | (refine' et_not ?h1; (case h1 => walk_at "et"))
  | (refine' et_and ?h1 (fun _ => ?h2); (case h1 => walk_at "et"); (case h2 => walk_at "et"))
  | (refine' et_or ?h1 (fun _ => ?h2); (case h1 => walk_at "et"); (case h2 => walk_at "et")))
local macro_rules | `(tactic| walk_at "ea") => `(tactic| first
  | exact ea_nil
  | (refine' ea_cons ?h1 ?h2; (case h1 => walk_at "ev"); (case h2 => walk_at "ea")))
local macro_rules | `(tactic| walk_at "when") => `(tactic| (refine' q_when ?h ?h1 ?h2; (case h => walk_at "et")))
local macro_rules | `(tactic| walk_at "whenS") => `(tactic| (refine' s_when ?h ?h1 ?h2; (case h => walk_at "et")))
local macro_rules | `(tactic| walk_at "if") => `(tactic| (refine' q_if ?h ?h1 ?h2; (case h => walk_at "et")))
local macro_rules | `(tactic| walk_at "ifS") => `(tactic| (refine' s_if ?h ?h1 ?h2; (case h => walk_at "et")))
local macro_rules | `(tactic| walk_at "ret") => `(tactic| (refine' s_ret ?h ?h1; (case h => walk_at "ev")))
local macro_rules | `(tactic| walk_at "asg") => `(tactic| (refine' q_asg ?h ?h1; (case h => walk_at "ev")))
local macro_rules | `(tactic| walk_at "asgS") => `(tactic| (refine' s_asg ?h ?h1; (case h => walk_at "ev")))

/-! ### lists, existing or new -/
def EvR (te : TE) (σ : L2.St) (H : Hp) (xs : List V) : Prop := ∀ H1, Ex H H1 → ∀ Q : VK, (∀ p H2, Ex H1 H2 → H2 p = some (.lst xs) → Q (.ref p) H2) → te σ H1 Q
def EvS (K : PySem.W.Frag) (te : TE) (σ : L2.St) (H : Hp) (xs : List V) : Prop := ∀ H1, Ex H H1 → ∀ Q : VK, (∀ p H2, Ex H1 H2 → SqL K H2 p xs → Q (.ref p) H2) → te σ H1 Q
section
variable {K : PySem.W.Frag} {σ : L2.St} {H H' : Hp} {ta tb te : TE} {xs ys : List V} {a : Addr}
theorem EvL.r (h : EvL te σ H xs) : EvR te σ H xs := fun H1 e Q q => h H1 e Q fun p H2 _ e2 h2 => q p H2 e2 h2
theorem Ev.r (h : Ev te σ H (.ref a)) (hx : H a = some (.lst xs)) : EvR te σ H xs := fun H1 e Q q => h H1 e Q fun H2 e2 => q a H2 e2 (e2 _ _ (e _ _ hx))
theorem EvR.s (h : EvR te σ H xs) : EvS K te σ H xs := fun H1 e Q q => h H1 e Q fun p H2 e2 h2 => q p H2 e2 (sq_of h2)
theorem Ev.s (h : Ev te σ H (.ref a)) (hx : SqL K H a xs) : EvS K te σ H xs := fun H1 e Q q => h H1 e Q fun H2 e2 => q a H2 e2 (ex_l e2 (ex_l e hx))
theorem EvR.mono (e : Ex H H') (h : EvR te σ H xs) : EvR te σ H' xs := fun H1 a Q q => h H1 (e.trans a) Q q
theorem EvS.mono (e : Ex H H') (h : EvS K te σ H xs) : EvS K te σ H' xs := fun H1 a Q q => h H1 (e.trans a) Q q
theorem EvL.is (h : EvL te σ H xs) (e : xs = ys) : EvL te σ H ys := e ▸ h
theorem EvR.is (h : EvR te σ H xs) (e : xs = ys) : EvR te σ H ys := e ▸ h
theorem el_cat (ha : EvR ta σ H xs) (hb : EvR tb σ H ys) (hl : xs.length + ys.length ≤ 100000) : EvL (tOp rCat ta tb) σ H (xs ++ ys) := fun H1 e Q q =>
  ha H1 e _ fun p H2 e2 h2 => hb H2 (e.trans e2) _ fun r H3 e3 h3 => ⟨p, r, xs, ys, rfl, rfl, e3 _ _ h2, h3, sz_of hl, fun l hl => q l _ (fresh_back (e2.trans e3) hl) ((e2.trans e3).trans (Ex.new hl)) upd_same⟩
theorem el_rep {k : Int} (ha : EvR ta σ H xs) (hb : Ev tb σ H (.int k)) (hk : -(2 ^ 63) ≤ k ∧ k < 2 ^ 63) (hl : xs.length * k.toNat ≤ 100000) : EvL (tOp rRep ta tb) σ H (List.replicate k.toNat xs).flatten := fun H1 e Q q =>
  ha H1 e _ fun p H2 e2 h2 => hb H2 (e.trans e2) _ fun H3 e3 => ⟨p, k, xs, rfl, rfl, e3 _ _ h2, hk.1, hk.2, sz_of hl, fun l hl => q l _ (fresh_back (e2.trans e3) hl) ((e2.trans e3).trans (Ex.new hl)) upd_same⟩
theorem rep_one {x : V} (n : Nat) : (List.replicate n [x]).flatten = List.replicate n x := by
  induction n with
  | zero => rfl
  | succ n ih => rw [List.replicate_succ, List.replicate_succ, List.flatten_cons, ih]; rfl
theorem el_of {te : TE} (h : EvS K te σ H xs) : EvL (tCB (rListS K) (tCons te tNil)) σ H xs := fun H1 e Q q =>
  h H1 e _ fun p H2 e2 h2 => ⟨p, xs, rfl, .inl h2, fun l hl => q l _ (fresh_back e2 hl) (e2.trans (Ex.new hl)) upd_same⟩
theorem ev_lenS (h : EvS K te σ H xs) : Ev (tCB (rLenS K) (tCons te tNil)) σ H (.int (xs.length : Int)) := fun H1 e Q q =>
  h H1 e _ fun p H2 e2 h2 => ⟨p, xs, rfl, .inl h2, q H2 e2⟩
theorem ev_sum {ns : List Int} (h : EvS K te σ H (ns.map V.int)) : Ev (tCB (rSum K) (tCons te tNil)) σ H (.int ns.sum) := fun H1 e Q q =>
  h H1 e _ fun p H2 e2 h2 => ⟨p, ns, rfl, h2, q H2 e2⟩
theorem dp_ints {K : PySem.W.Frag} {H : Hp} : ∀ ns : List Int, DpAll K H (ns.map V.int) (ns.map PyData.int)
  | [] => .nil
  | n :: r => .cons (.int n) (dp_ints r)
theorem eqv_ints : ∀ ns ms : List Int, PyData.eqvAll (ns.map PyData.int) (ms.map PyData.int) = decide (ns = ms)
  | [], [] => by simp [PyData.eqvAll]
  | [], _ :: _ => by simp [PyData.eqvAll]
  | _ :: _, [] => by simp [PyData.eqvAll]
  | n :: r, m :: t => by
    show (PyData.eqv (.int n) (.int m) && PyData.eqvAll (r.map PyData.int) (t.map PyData.int)) = _
    rw [eqv_ints r t]
    show ((n == m) && decide (r = t)) = _
    by_cases h1 : n = m <;> by_cases h2 : r = t <;> simp [h1, h2]
theorem canLay_ints : ∀ ns : List Int, PyData.canLayAll0 (ns.map PyData.int) = true
  | [] => by simp [PyData.canLayAll0]
  | n :: r => by
    show PyData.canLayAll0 (PyData.int n :: r.map PyData.int) = true
    rw [PyData.canLayAll0, canLay_ints r]
    simp [PyData.canLay0]
theorem depth_ints : ∀ ns : List Int, PyData.depthAll (ns.map PyData.int) ≤ 1
  | [] => by simp [PyData.depthAll]
  | n :: r => by
    show PyData.depthAll (PyData.int n :: r.map PyData.int) ≤ 1
    have := depth_ints r
    simp only [PyData.depthAll, PyData.depth]
    omega
theorem shaped_ints (ns : List Int) : SeqAt.shaped (.list (ns.map PyData.int)) = true := by
  unfold SeqAt.shaped
  have h1 := canLay_ints ns
  have h2 := depth_ints ns
  have h3 : PyData.depth (.list (ns.map PyData.int)) ≤ 64 := by
    rw [PyData.depth]
    omega
  rw [decide_eq_true h3, Bool.and_true]
  simpa only [PyData.canLay0] using h1
theorem ev_eqI {ns ms : List Int} (ha : EvS K ta σ H (ns.map V.int)) (hb : EvS K tb σ H (ms.map V.int)) : Ev (tOp (rEqD K) ta tb) σ H (.bl (decide (ns = ms))) := fun H1 e Q q =>
  ha H1 e _ fun p H2 e2 h2 => hb H2 (e.trans e2) _ fun r H3 e3 h3 => ⟨.list (ns.map PyData.int), .list (ms.map PyData.int), .lst (ex_l e3 h2) (dp_ints ns), .lst h3 (dp_ints ms), shaped_ints ns, shaped_ints ms, by
    show Q (.bl (PyData.eqvAll (ns.map PyData.int) (ms.map PyData.int))) H3
    rw [eqv_ints]
    exact q H3 (e2.trans e3)⟩
theorem ev_neI {ns ms : List Int} (ha : EvS K ta σ H (ns.map V.int)) (hb : EvS K tb σ H (ms.map V.int)) : Ev (tOp (rNeD K) ta tb) σ H (.bl (!decide (ns = ms))) := fun H1 e Q q =>
  ha H1 e _ fun p H2 e2 h2 => hb H2 (e.trans e2) _ fun r H3 e3 h3 => ⟨.list (ns.map PyData.int), .list (ms.map PyData.int), .lst (ex_l e3 h2) (dp_ints ns), .lst h3 (dp_ints ms), shaped_ints ns, shaped_ints ms, by
    show Q (.bl (!PyData.eqvAll (ns.map PyData.int) (ms.map PyData.int))) H3
    rw [eqv_ints]
    exact q H3 (e2.trans e3)⟩
theorem ev_ixS {i : Nat} {n : Int} {tl ti : TE} {v : V} (h : EvS K tl σ H xs) (hi : Ev ti σ H (.int n)) (ha : atI xs n = some v) : Ev (tOp (rIxL K) tl ti) σ H v := fun H1 e Q q =>
  h H1 e _ fun p H2 e2 h2 => hi H2 (e.trans e2) _ fun H3 e3 => ⟨p, xs, n, v, rfl, rfl, ex_l e3 h2, ha, q H3 (e2.trans e3)⟩
theorem el_slS {tl th : TO} {lo hi : Option Int} (h : EvS K te σ H xs) (h1 : EvO tl σ H lo) (h2 : EvO th σ H hi) : EvL (tSl (rSlL K) te tl th) σ H (cutV xs lo hi) := fun H1 e _ q =>
  h H1 e _ fun a H2 e2 hs => h1 H2 (e.trans e2) _ fun H3 e3 => h2 H3 ((e.trans e2).trans e3) _ fun H4 e4 =>
    ⟨a, xs, rfl, ex_l (e3.trans e4) hs, fun p hp => q p _ (fresh_back ((e2.trans e3).trans e4) hp) (((e2.trans e3).trans e4).trans (Ex.new hp)) upd_same⟩
theorem ev_at {n : Int} {tl ti : TE} {v : V} (h : EvS K tl σ H xs) (hi : Ev ti σ H (.int n)) (ha : atI xs n = some v) : Ev (tOp (rIxL K) tl ti) σ H v := ev_ixS (i := 0) h hi ha
theorem cut_to (xs : List V) (i : Nat) : cutV xs none (some (i : Int)) = xs.take i := by
  unfold cutV
  rw [HT.sIx_none, HT.sIx_nat, List.drop_zero, Nat.sub_zero]
  by_cases h : i ≤ xs.length
  · rw [Nat.min_eq_left h]
  · rw [Nat.min_eq_right (by omega), List.take_of_length_le (Nat.le_refl _), List.take_of_length_le (by omega)]
theorem cut_from (xs : List V) (i : Nat) : cutV xs (some (i : Int)) none = xs.drop i := by
  unfold cutV
  rw [HT.sIx_none, HT.sIx_nat]
  by_cases h : i ≤ xs.length
  · rw [Nat.min_eq_left h, List.take_of_length_le (by rw [List.length_drop]; omega)]
  · rw [Nat.min_eq_right (by omega), List.drop_of_length_le (Nat.le_refl _), List.drop_of_length_le (show xs.length ≤ i by omega), List.take_nil]
theorem cut_mid (xs : List V) (i j : Nat) : cutV xs (some (i : Int)) (some (j : Int)) = (xs.drop i).take (j - i) := by
  unfold cutV
  rw [HT.sIx_nat, HT.sIx_nat]
  by_cases h : i ≤ xs.length
  · rw [Nat.min_eq_left h]
    by_cases h2 : j ≤ xs.length
    · rw [Nat.min_eq_left h2]
    · rw [Nat.min_eq_right (by omega), List.take_of_length_le (by rw [List.length_drop]; omega), List.take_of_length_le (by rw [List.length_drop]; omega)]
  · rw [Nat.min_eq_right (by omega : xs.length ≤ i), List.drop_of_length_le (Nat.le_refl _), List.drop_of_length_le (show xs.length ≤ i by omega)]
    simp
theorem el_to {th : TE} {ns : List Int} {i : Nat} (h : EvS K te σ H (ns.map V.int)) (h2 : Ev th σ H (.int i)) : EvL (tSl (rSlL K) te tNoPart (tPart th)) σ H ((ns.take i).map V.int) :=
  EvL.is (el_slS h eo_none (eo_some h2)) (by rw [List.map_take]; exact cut_to _ i)
theorem el_from {th : TE} {ns : List Int} {i : Nat} (h : EvS K te σ H (ns.map V.int)) (h2 : Ev th σ H (.int i)) : EvL (tSl (rSlL K) te (tPart th) tNoPart) σ H ((ns.drop i).map V.int) :=
  EvL.is (el_slS h (eo_some h2) eo_none) (by rw [List.map_drop]; exact cut_from _ i)
theorem el_mid {t1 t2 : TE} {ns : List Int} {i j : Nat} (h : EvS K te σ H (ns.map V.int)) (h1 : Ev t1 σ H (.int i)) (h2 : Ev t2 σ H (.int j)) : EvL (tSl (rSlL K) te (tPart t1) (tPart t2)) σ H (((ns.drop i).take (j - i)).map V.int) :=
  EvL.is (el_slS h (eo_some h1) (eo_some h2)) (by rw [List.map_take, List.map_drop]; exact cut_mid _ i j)
section
variable {D : Ends} {tz : TS} {sp : Sp} {dvs vs : List V} {E : XK} {tA : TA}
/-- x = f(..), whatever f promises -/
theorem q_asgC {i : Nat} (h : EvA tA σ H vs) (k : ∀ H1, Ex H H1 → sp (vs ++ dvs) H1 (fun x H2 => tz D (σ.set i (some x)) H2) E) : tSeq (tAsg (tCall sp dvs E tA) (gName i)) tz D σ H := h H (Ex.refl H) _ fun H1 e => k H1 e
theorem s_asgC {i : Nat} (h : EvA tA σ H vs) (k : ∀ H1, Ex H H1 → sp (vs ++ dvs) H1 (fun x H2 => D.nx (σ.set i (some x)) H2) E) : tAsg (tCall sp dvs E tA) (gName i) D σ H := h H (Ex.refl H) _ fun H1 e => k H1 e
theorem q_dropC (h : EvA tA σ H vs) (k : ∀ H1, Ex H H1 → sp (vs ++ dvs) H1 (fun _ H2 => tz D σ H2) E) : tSeq (tDrop (tCall sp dvs E tA)) tz D σ H := h H (Ex.refl H) _ fun H1 e => k H1 e
theorem s_retC (h : EvA tA σ H vs) (k : ∀ H1, Ex H H1 → sp (vs ++ dvs) H1 D.rt E) : tRet (tCall sp dvs E tA) D σ H := h H (Ex.refl H) _ fun H1 e => k H1 e
end
theorem gl_get {ns : List Int} {i : Nat} (h : i < ns.length) : ns[i]? = some (ns.getD i 0) := by
  rw [List.getD_eq_getElem?_getD, List.getElem?_eq_getElem h]
  rfl
theorem q_asgRaw {te : TE} {i : Nat} {D : Ends} {tz : TS} (P : V → Hp → Prop) (h : ∀ Q : VK, (∀ x H2, P x H2 → Q x H2) → te σ H Q) (k : ∀ x H2, P x H2 → tz D (σ.set i (some x)) H2) : tSeq (tAsg te (gName i)) tz D σ H := h _ k
/-- a, b = a pair -/
theorem q_asgT {te : TE} {i j : Nat} {D : Ends} {tz : TS} (P : V → V → Hp → Prop) (h : ∀ Q : VK, (∀ t x y H2, P x y H2 → SqT K H2 t [x, y] → Q (.ref t) H2) → te σ H Q) (k : ∀ x y H2, P x y H2 → tz D ((σ.set i (some x)).set j (some y)) H2) :
    tSeq (tAsg te (gTup K 2 (gCons (gName i) (gCons (gName j) gNil)))) tz D σ H := h _ fun t x y H2 hP hT => ⟨t, [x, y], rfl, hT, rfl, x, [y], rfl, y, [], rfl, rfl, k x y H2 hP⟩
/-- the law's cell -/
def cellI (ns : List Int) (k : Int) : Int := ns.getD k.toNat 0
theorem cellI_in {ns : List Int} {k : Int} (h0 : 0 ≤ k) (h : k < ns.length) : ns[k.toNat]? = some (cellI ns k) := by
  unfold cellI
  rw [List.getD_eq_getElem?_getD, List.getElem?_eq_getElem (by omega)]
  rfl
theorem cellI_out {ns : List Int} {k : Int} (h : ¬ k < ns.length) : cellI ns k = 0 := by
  unfold cellI
  rw [List.getD_eq_getElem?_getD, List.getElem?_eq_none (by omega)]
  rfl
end
theorem Ex.get {H H' : Hp} {a : Addr} {o : HO} (e : Ex H H') (h : H a = some o) : H' a = some o := e a o h
local macro_rules | `(tactic| walk_at "hp") => `(tactic| first
  | assumption
  | exact upd_same
  | (refine' Ex.get (by assumption) ?h1; (case h1 => walk_at "hp")))
local macro_rules | `(tactic| walk_at "ex") => `(tactic| first
  | assumption
  | exact Ex.refl _
  | (refine' Ex.trans ?h1 (by assumption); (case h1 => walk_at "ex")))
local macro_rules | `(tactic| walk_at "sq") => `(tactic| first
  | assumption
  | (refine' sq_of ?h1; (case h1 => walk_at "hp"))
  | (refine' ex_l (by assumption) ?h1; (case h1 => walk_at "sq")))
local macro_rules | `(tactic| walk_at "evs") => `(tactic| first
  | (refine' Ev.s ?h1 ?h2; (case h1 => exact ev_var rfl); (case h2 => walk_at "sq"))
  | (refine' EvR.s ?h1; (case h1 => walk_at "evr")))
local macro_rules | `(tactic| walk_at "evr") => `(tactic| first
  | (refine' Ev.r ?h1 ?h2; (case h1 => exact ev_var rfl); (case h2 => walk_at "hp"))
  | (refine' EvL.r ?h1; (case h1 => walk_at "el")))
local macro_rules | `(tactic| walk_at "eo") => `(tactic| first
  | exact eo_none
  | (refine' eo_some ?h1; (case h1 => walk_at "ev")))
local macro_rules | `(tactic| walk_at "el") => `(tactic| first
  | (refine' el_lst ?h1 ?h2; (case h1 => walk_at "ea"); (case h2 => exact Nat.le_of_ble_eq_true rfl))
  | (refine' el_cat ?h1 ?h2 ?h3; (case h1 => walk_at "evr"); (case h2 => walk_at "evr"); (case h3 => walk_at "len"))
  | (refine' el_rep ?h1 ?h2 ?h3 ?h4; (case h1 => walk_at "evr"); (case h2 => walk_at "ev"); (case h3 => walk_at "side2"); (case h4 => walk_at "len"))
  | (refine' el_of ?h1; (case h1 => walk_at "evs"))
  | (refine' el_to ?h1 ?h2; (case h1 => walk_at "evs"); (case h2 => walk_at "ev"))
  | (refine' el_from ?h1 ?h2; (case h1 => walk_at "evs"); (case h2 => walk_at "ev"))
  | (refine' el_mid ?h1 ?h2 ?h3; (case h1 => walk_at "evs"); (case h2 => walk_at "ev"); (case h3 => walk_at "ev"))
  | (refine' el_slS ?h1 ?h2 ?h3; (case h1 => walk_at "evs"); (case h2 => walk_at "eo"); (case h3 => walk_at "eo"))
  | walk_at "elmore")
local macro_rules | `(tactic| walk_at "evmore") => `(tactic| first
  | (refine' ev_lenS ?h1; (case h1 => walk_at "evs"))
  | (refine' ev_sum ?h1; (case h1 => walk_at "evs"))
  | (refine' ev_eqI ?h1 ?h2; (case h1 => walk_at "evs"); (case h2 => walk_at "evs"))
  | (refine' ev_neI ?h1 ?h2; (case h1 => walk_at "evs"); (case h2 => walk_at "evs"))
  | (refine' ev_at ?h1 ?h2 ?h3; (case h1 => walk_at "evs"); (case h2 => walk_at "ev"); (case h3 => walk_at "at"))
  | (refine' ev_isiL ?h1 ?h2; (case h1 => walk_at "ev"); (case h2 => walk_at "hp"))
  | walk_at "evown")
local macro_rules | `(tactic| walk_at "at") => `(tactic| first
  | exact at_of rfl (at_int (by assumption))
  | exact at_of rfl (by assumption))
local macro_rules | `(tactic| walk_at "asgL") => `(tactic| (refine' q_asgL ?h ?h1; (case h => walk_at "el")))
local macro_rules | `(tactic| walk_at "retL") => `(tactic| (refine' s_retL ?h ?h1; (case h => walk_at "el")))

/-- a walk's reading said in other words -/
theorem PI.k {X : Cx} {tg e : Expr} {wi wi' : TI} (h : PI X tg e wi) (q : wi = wi') : PI X tg e wi' := q ▸ h
/-! ### comprehensions whose items are said in a list -/
theorem et_yes {σ : L2.St} {H : Hp} : EvT tYes σ H true := fun H1 _ _ q => q H1 (Ex.refl H1)
section
variable {K : PySem.W.Frag} {σ : L2.St} {H : Hp} {t1 t2 te : TE} {xs ys zs : List V} {vs : List Nat}
theorem take_snoc {zs : List V} {i : Nat} {z : V} (h : zs[i]? = some z) : zs.take (i + 1) = zs.take i ++ [z] := by
  rw [List.take_add_one, h]
  rfl
theorem el_lcZ {j1 j2 : Nat} (zs : List V) (h1 : EvS K t1 σ H xs) (h2 : EvS K t2 σ H ys) (hz : zs.length = min xs.length ys.length) (hb : zs.length ≤ 50000)
    (hw : ∀ x y, wipe (((wipe σ vs).set j1 (some x)).set j2 (some y)) vs = wipe σ vs)
    (he : ∀ (i : Nat) (x y : V) H1, Ex H H1 → xs[i]? = some x → ys[i]? = some y → ∃ z, zs[i]? = some z ∧ Ev te (((wipe σ vs).set j1 (some x)).set j2 (some y)) H1 z) :
    EvL (tLc (iZip K (tCons t1 (tCons t2 tNil))) (gTup K 2 (gCons (gName j1) (gCons (gName j2) gNil))) tYes te vs) σ H zs := fun H0 e Q q =>
  h1 H0 e _ fun p H1 e1 hp => h2 H1 (e.trans e1) _ fun r H2 e2 hr => ⟨p, r, xs, ys, rfl, ex_l e2 hp, hr, fun D hD =>
    ⟨fun i m H' => m = zs.length - i ∧ i ≤ zs.length ∧ Ex H2 H' ∧ H' D = some (.lst (zs.take i)), ⟨zs.length, rfl, Nat.zero_le _, Ex.new hD, upd_same⟩, by
      rintro i m H' ⟨rfl, hi, ex, hd⟩
      have qx : SqL K H' p xs := ex_l (e2.trans ex) hp
      have qy : SqL K H' r ys := ex_l ex hr
      by_cases hlt : i < zs.length
      · have hx : xs[i]? = some xs[i] := List.getElem?_eq_getElem (by omega)
        have hy : ys[i]? = some ys[i] := List.getElem?_eq_getElem (by omega)
        refine .inr ⟨⟨xs, ys, _, _, qx, qy, hx, hy⟩, fun H3 => i + 1 ≤ zs.length ∧ Ex H2 H3 ∧ H3 D = some (.lst (zs.take (i + 1))), fun H3 h3 => ⟨zs.length - (i + 1), by omega, rfl, h3⟩, fun v H3 hv => ?_⟩
        obtain ⟨T, x, y, rfl, hT, rfl, f1, f2⟩ := hv
        have ex3 : Ex H' (upd H' T (.tup [x, y])) := Ex.new hT
        obtain ⟨z, hz1, hz2⟩ := he i x y (upd H' T (.tup [x, y])) ((((e.trans e1).trans e2).trans ex).trans ex3) (f1 _ qx) (f2 _ qy)
        refine ⟨T, [x, y], rfl, st_of upd_same, rfl, x, [y], rfl, y, [], rfl, rfl, hw x y, ?_⟩
        refine hz2 _ (Ex.refl _) _ fun H4 e4 => ⟨zs.take i, e4 _ _ (ex3 _ _ hd), sz_lt (by rw [List.length_take]; omega), hlt, ?_, ?_⟩
        · exact Ex.mut ((ex.trans ex3).trans e4) hD
        · rw [upd_same, take_snoc hz1]
      · have ei : i = zs.length := by omega
        refine .inl ⟨⟨xs, ys, qx, qy, by omega⟩, ?_⟩
        rw [ei, List.take_length] at hd
        exact q D H' (fresh_back (e1.trans e2) hD) ((e1.trans e2).trans ex) hd⟩⟩
/-- over a list, each item kept -/
theorem el_lcS {j : Nat} (zs : List V) (h1 : EvS K t1 σ H xs) (hz : zs.length = xs.length) (hb : zs.length ≤ 50000) (hw : ∀ x, wipe ((wipe σ vs).set j (some x)) vs = wipe σ vs)
    (he : ∀ (i : Nat) (x : V) H1, Ex H H1 → xs[i]? = some x → ∃ z, zs[i]? = some z ∧ Ev te ((wipe σ vs).set j (some x)) H1 z) :
    EvL (tLc (iList K t1) (gName j) tYes te vs) σ H zs := fun H0 e Q q =>
  h1 H0 e _ fun p H1 e1 hp => ⟨p, rfl, ⟨xs, hp⟩, fun D hD => lc_list (xs := xs) (fun i H' => Ex H1 H' ∧ H' D = some (.lst (zs.take i))) ⟨Ex.new hD, upd_same⟩ (fun i H' _ h => ex_l h.1 hp)
    (fun i x H' hi h => ⟨hw x, by
      obtain ⟨z, hz1, hz2⟩ := he i x H' ((e.trans e1).trans h.1) hi
      have hl : i < xs.length := (List.getElem?_eq_some_iff.mp hi).1
      refine hz2 H' (Ex.refl _) _ fun H4 e4 => ⟨zs.take i, e4 _ _ h.2, sz_lt (by rw [List.length_take]; omega), Ex.mut (h.1.trans e4) hD, ?_⟩
      rw [upd_same, take_snoc hz1]⟩)
    (fun H' h => q D H' (fresh_back e1 hD) (e1.trans h.1) (by rw [h.2, ← hz, List.take_length]))⟩
/-- over range(n) -/
theorem el_lcR {ta : TA} {n : Int} {j : Nat} (zs : List V) (h1 : EvA ta σ H [.int n]) (hn : -100000 ≤ n) (hz : zs.length = n.toNat) (hb : zs.length ≤ 50000) (hw : ∀ x, wipe ((wipe σ vs).set j (some x)) vs = wipe σ vs)
    (he : ∀ (i : Nat) H1, Ex H H1 → i < zs.length → ∃ z, zs[i]? = some z ∧ Ev te ((wipe σ vs).set j (some (.int (i : Int)))) H1 z) :
    EvL (tLc (iRng1 ta) (gName j) tYes te vs) σ H zs := fun H0 e Q q =>
  h1 H0 e _ fun H1 e1 => ⟨n, rfl, by omega, by omega, fun D hD => lc_range (lo := 0) (n := n.toNat) (fun i H' => Ex H1 H' ∧ H' D = some (.lst (zs.take i))) ⟨Ex.new hD, upd_same⟩
    (fun i H' hi h => by
      have e0 : (0 : Int) + (i : Int) = (i : Int) := Int.zero_add _
      rw [e0]
      obtain ⟨z, hz1, hz2⟩ := he i H' ((e.trans e1).trans h.1) (by omega)
      refine ⟨hw _, hz2 H' (Ex.refl _) _ fun H4 e4 => ⟨zs.take i, e4 _ _ h.2, sz_lt (by rw [List.length_take]; omega), Ex.mut (h.1.trans e4) hD, ?_⟩⟩
      rw [upd_same, take_snoc hz1])
    (fun H' h => q D H' (fresh_back e1 hD) (e1.trans h.1) (by rw [h.2, show n.toNat = zs.length by omega, List.take_length]))⟩
/-- y = [.. for x in f(..)], whatever f promises -/
theorem s_asgLC {sp : Sp} {dvs args : List V} {E : XK} {ta : TA} {g : TG} {tt : TT} {D : Ends} {i : Nat} (h : EvA ta σ H args) (k : ∀ H1, Ex H H1 → sp (args ++ dvs) H1 (fun x H2 => tAsg (tLc (iList K (tC x)) g tt te vs) (gName i) D σ H2) E) :
    tAsg (tLc (iList K (tCall sp dvs E ta)) g tt te vs) (gName i) D σ H := h H (Ex.refl H) _ fun H1 e => k H1 e
theorem q_asgLC {sp : Sp} {dvs args : List V} {E : XK} {ta : TA} {g : TG} {tt : TT} {D : Ends} {i : Nat} {tz : TS} (h : EvA ta σ H args) (k : ∀ H1, Ex H H1 → sp (args ++ dvs) H1 (fun x H2 => tSeq (tAsg (tLc (iList K (tC x)) g tt te vs) (gName i)) tz D σ H2) E) :
    tSeq (tAsg (tLc (iList K (tCall sp dvs E ta)) g tt te vs) (gName i)) tz D σ H := h H (Ex.refl H) _ fun H1 e => k H1 e
end

/-! ### data at any depth -/
mutual
theorem dp_ex {K : PySem.W.Frag} {H H' : Hp} (e : Ex H H') : ∀ (d : PyData) (v : V), Dp K H v d → Dp K H' v d
  | .none, _, h => by cases h; exact .non
  | .bool b, _, h => by cases h; exact .bl b
  | .int i, _, h => by cases h; exact .int i
  | .str x, _, h => by cases h; exact .str x
  | .list ds, _, h => by cases h with | lst hs ha => exact .lst (ex_l e hs) (dpa_ex e ds _ ha)
  | .tuple ds, _, h => by cases h with | tup hs ha => exact .tup (ex_t e hs) (dpa_ex e ds _ ha)
  | .dict _, _, h => by cases h
theorem dpa_ex {K : PySem.W.Frag} {H H' : Hp} (e : Ex H H') : ∀ (ds : List PyData) (vs : List V), DpAll K H vs ds → DpAll K H' vs ds
  | [], _, h => by cases h; exact .nil
  | d :: ds, _, h => by cases h with | cons h1 h2 => exact .cons (dp_ex e d _ h1) (dpa_ex e ds _ h2)
end
def EvD (K : PySem.W.Frag) (te : TE) (σ : L2.St) (H : Hp) (d : PyData) : Prop := ∀ H1, Ex H H1 → ∀ Q : VK, (∀ v H2, Ex H1 H2 → Dp K H2 v d → Q v H2) → te σ H1 Q
section
variable {K : PySem.W.Frag} {σ : L2.St} {H : Hp} {te ta tb t1 t2 t3 : TE} {d d1 d2 d3 : PyData} {v : V}
theorem EvD.of (h : Ev te σ H v) (hd : Dp K H v d) : EvD K te σ H d := fun H1 e Q q => h H1 e _ fun H2 e2 => q v H2 e2 (dp_ex (e.trans e2) d v hd)
theorem EvS.toD {ns : List Int} (h : EvS K te σ H (ns.map V.int)) : EvD K te σ H (.list (ns.map .int)) := fun H1 e Q q => h H1 e _ fun p H2 e2 hp => q (.ref p) H2 e2 (.lst hp (dp_ints ns))
theorem ed_tup2 (h1 : EvD K t1 σ H d1) (h2 : EvD K t2 σ H d2) : EvD K (tTup (tCons t1 (tCons t2 tNil))) σ H (.tuple [d1, d2]) := fun H1 e Q q => h1 H1 e _ fun v H2 e2 hv => h2 H2 (e.trans e2) _ fun u H3 e3 hu =>
  ⟨sz_of (show 2 ≤ 100000 by decide), fun p hp => q (.ref p) _ ((e2.trans e3).trans (Ex.new hp)) (.tup (st_of upd_same) (.cons (dp_ex (e3.trans (Ex.new hp)) _ _ hv) (.cons (dp_ex (Ex.new hp) _ _ hu) .nil)))⟩
theorem ev_eqDD (h1 : EvD K ta σ H d) (h2 : EvD K tb σ H d) (hs : SeqAt.shaped d = true) : Ev (tOp (rEqD K) ta tb) σ H (.bl true) := fun H1 e Q q => h1 H1 e _ fun v H2 e2 hv => h2 H2 (e.trans e2) _ fun u H3 e3 hu =>
  ⟨d, d, dp_ex e3 d v hv, hu, hs, hs, by rw [SeqAt.eqv_refl d (SeqAt.canLay_of_shaped hs)]; exact q H3 (e2.trans e3)⟩
theorem ev_neDD (h1 : EvD K ta σ H d) (h2 : EvD K tb σ H d) (hs : SeqAt.shaped d = true) : Ev (tOp (rNeD K) ta tb) σ H (.bl false) := fun H1 e Q q => h1 H1 e _ fun v H2 e2 hv => h2 H2 (e.trans e2) _ fun u H3 e3 hu =>
  ⟨d, d, dp_ex e3 d v hv, hu, hs, hs, by rw [SeqAt.eqv_refl d (SeqAt.canLay_of_shaped hs)]; exact q H3 (e2.trans e3)⟩
end
theorem shaped_pair (ns ms : List Int) : SeqAt.shaped (.tuple [.list (ns.map .int), .list (ms.map .int)]) = true := by
  unfold SeqAt.shaped
  have h1 := canLay_ints ns
  have h2 := depth_ints ns
  have h3 := canLay_ints ms
  have h4 := depth_ints ms
  rw [Bool.and_eq_true, decide_eq_true_iff]
  refine ⟨by simp only [PyData.canLay0, PyData.canLayAll0, h1, h3, Bool.and_self], ?_⟩
  simp only [PyData.depth, PyData.depthAll]
  omega

/-- what the top has left -/
structure TX (K : PySem.W.Frag) (mg : Str → Option Value) where
  a_points_of : Addr
  d_points_of : FuncData
  F_points_of : Fun K "points_of" "points_of" s_points_of a_points_of d_points_of
  b_points_of : Binds K d_points_of ["string"] []
  g_points_of : mg "points_of" = some (.ref a_points_of)
  a_write_utf8 : Addr
  d_write_utf8 : FuncData
  F_write_utf8 : Fun K "write_utf8" "write_utf8" s_write_utf8 a_write_utf8 d_write_utf8
  b_write_utf8 : Binds K d_write_utf8 ["text"] []
  g_write_utf8 : mg "write_utf8" = some (.ref a_write_utf8)
  a_read_utf8 : Addr
  d_read_utf8 : FuncData
  F_read_utf8 : Fun K "read_utf8" "read_utf8" s_read_utf8 a_read_utf8 d_read_utf8
  b_read_utf8 : Binds K d_read_utf8 ["data", "start", "stop"] []
  g_read_utf8 : mg "read_utf8" = some (.ref a_read_utf8)
  a_point_count : Addr
  d_point_count : FuncData
  F_point_count : Fun K "_point_count" "_point_count" s_point_count a_point_count d_point_count
  b_point_count : Binds K d_point_count ["point"] []
  g_point_count : mg "_point_count" = some (.ref a_point_count)
  a_least_first : Addr
  d_least_first : FuncData
  F_least_first : Fun K "_least_first" "_least_first" s_least_first a_least_first d_least_first
  b_least_first : Binds K d_least_first ["count"] []
  g_least_first : mg "_least_first" = some (.ref a_least_first)
  a_point_bytes : Addr
  d_point_bytes : FuncData
  F_point_bytes : Fun K "_point_bytes" "_point_bytes" s_point_bytes a_point_bytes d_point_bytes
  b_point_bytes : Binds K d_point_bytes ["point"] []
  g_point_bytes : mg "_point_bytes" = some (.ref a_point_bytes)
  a_count_told : Addr
  d_count_told : FuncData
  F_count_told : Fun K "_count_told" "_count_told" s_count_told a_count_told d_count_told
  b_count_told : Binds K d_count_told ["first"] []
  g_count_told : mg "_count_told" = some (.ref a_count_told)
  a_read_point : Addr
  d_read_point : FuncData
  F_read_point : Fun K "_read_point" "_read_point" s_read_point a_read_point d_read_point
  b_read_point : Binds K d_read_point ["data", "place", "count"] []
  g_read_point : mg "_read_point" = some (.ref a_read_point)
  a_law_is_integer : Addr
  d_law_is_integer : FuncData
  F_law_is_integer : Fun K "_law_is_integer" "_law_is_integer" s_law_is_integer a_law_is_integer d_law_is_integer
  b_law_is_integer : Binds K d_law_is_integer ["actual"] []
  g_law_is_integer : mg "_law_is_integer" = some (.ref a_law_is_integer)
  a_law_refill : Addr
  d_law_refill : FuncData
  F_law_refill : Fun K "_law_refill" "_law_refill" s_law_refill a_law_refill d_law_refill
  b_law_refill : Binds K d_law_refill ["script", "k"] []
  g_law_refill : mg "_law_refill" = some (.ref a_law_refill)
  a_law_draw : Addr
  d_law_draw : FuncData
  F_law_draw : Fun K "_law_draw" "_law_draw" s_law_draw a_law_draw d_law_draw
  b_law_draw : Binds K d_law_draw ["state", "script", "size"] []
  g_law_draw : mg "_law_draw" = some (.ref a_law_draw)
  a_law_junk : Addr
  d_law_junk : FuncData
  F_law_junk : Fun K "_law_junk" "_law_junk" s_law_junk a_law_junk d_law_junk
  b_law_junk : Binds K d_law_junk ["state", "script", "count"] []
  g_law_junk : mg "_law_junk" = some (.ref a_law_junk)
  a_law_is_bytes : Addr
  d_law_is_bytes : FuncData
  F_law_is_bytes : Fun K "_law_is_bytes" "_law_is_bytes" s_law_is_bytes a_law_is_bytes d_law_is_bytes
  b_law_is_bytes : Binds K d_law_is_bytes ["actual"] []
  g_law_is_bytes : mg "_law_is_bytes" = some (.ref a_law_is_bytes)
  a_law_point : Addr
  d_law_point : FuncData
  F_law_point : Fun K "_law_point" "_law_point" s_law_point a_law_point d_law_point
  b_law_point : Binds K d_law_point ["state", "script"] []
  g_law_point : mg "_law_point" = some (.ref a_law_point)
  a_law_bytes : Addr
  d_law_bytes : FuncData
  F_law_bytes : Fun K "_law_bytes" "_law_bytes" s_law_bytes a_law_bytes d_law_bytes
  b_law_bytes : Binds K d_law_bytes ["point"] []
  g_law_bytes : mg "_law_bytes" = some (.ref a_law_bytes)
  a_law : Addr
  d_law : FuncData
  F_law : Fun K "law" "law" s_law a_law d_law
  b_law : Binds K d_law ["script"] []
  g_law : mg "law" = some (.ref a_law)
  m_ord : mg "ord" = none
  m_range : mg "range" = none
  m_isinstance : mg "isinstance" = none
  m_int : mg "int" = none
  m_bool : mg "bool" = none
  m_len : mg "len" = none
  m_list : mg "list" = none
  m_all : mg "all" = none
section
variable {P : Program} {w : World} {K : PySem.W.Frag} {mg : Str → Option Value} {base : Heap}
/-! ### int(x), bits of a number -/
theorem Ev.is {σ : L2.St} {H : Hp} {te : TE} {x y : V} (h : Ev te σ H x) (e : x = y) : Ev te σ H y := e ▸ h
theorem ev_int1 {σ : L2.St} {H : Hp} {te : TE} {i : Int} (h : Ev te σ H (.int i)) : Ev (tCB (fun xs H Q => (∃ i, xs = [V.int i] ∧ Q (V.int i) H) ∨ ∃ k, xs = [V.bl k] ∧ Q (V.int (if k = true then 1 else 0)) H) (tCons te tNil)) σ H (.int i) :=
  ev_cb (ea_cons h ea_nil) fun H1 _ Q q => .inl ⟨i, rfl, q H1 (Ex.refl H1)⟩
theorem q_augR {σ : L2.St} {H : Hp} {te : TE} {D : Ends} {tz : TS} {i : Nat} {g : Int → Int → V} {a b : Int} (h1 : σ[i]? = some (some (.int a))) (h : Ev te σ H (.int b)) (k : ∀ H1, Ex H H1 → tz D (σ.set i (some (g a b))) H1) : tSeq (tAug i te (rI0 g)) tz D σ H :=
  ⟨_, h1, h H (Ex.refl H) _ fun H1 e => ⟨a, b, rfl, rfl, k H1 e⟩⟩
theorem s_augR {σ : L2.St} {H : Hp} {te : TE} {D : Ends} {i : Nat} {g : Int → Int → V} {a b : Int} (h1 : σ[i]? = some (some (.int a))) (h : Ev te σ H (.int b)) (k : ∀ H1, Ex H H1 → D.nx (σ.set i (some (g a b))) H1) : tAug i te (rI0 g) D σ H :=
  ⟨_, h1, h H (Ex.refl H) _ fun H1 e => ⟨a, b, rfl, rfl, k H1 e⟩⟩
theorem ev_atT {K : PySem.W.Frag} {σ : L2.St} {H : Hp} {tl ti : TE} {t : Addr} {xs : List V} {n : Int} {v : V} (h : Ev tl σ H (.ref t)) (hT : SqT K H t xs) (hi : Ev ti σ H (.int n)) (ha : atI xs n = some v) : Ev (tOp (rIxT K) tl ti) σ H v := fun H1 e Q q =>
  h H1 e _ fun H2 e2 => hi H2 (e.trans e2) _ fun H3 e3 => ⟨t, xs, n, v, rfl, rfl, ex_t ((e.trans e2).trans e3) hT, ha, q H3 (e2.trans e3)⟩
local macro_rules | `(tactic| walk_at "side") => `(tactic| first
  | omega
  | (show CDivW _ _; exact ⟨by omega, by decide⟩)
  | (show CDivW _ _; exact wide_div (b := 80) (by omega) (by omega) (by decide) (by decide)))
local macro_rules | `(tactic| walk_at "evown") => `(tactic| (refine' ev_int1 ?h1; (case h1 => walk_at "ev")))
/-- numbers from 0 on, as such -/
def cs (ds : List Nat) : List Int := ds.map fun d : Nat => (d : Int)
theorem cs_of {ns : List Int} {b : Int} (h : ∀ n ∈ ns, 0 ≤ n ∧ n < b) : ∃ ds : List Nat, ns = cs ds ∧ ds.length = ns.length ∧ ∀ d ∈ ds, (d : Int) < b := by
  refine ⟨ns.map Int.toNat, ?_, List.length_map .., fun d hd => ?_⟩
  · unfold cs
    rw [List.map_map]
    conv => lhs; rw [← List.map_id ns]
    refine List.map_congr_left fun n hn => ?_
    have := (h n hn).1
    show n = ((n.toNat : Nat) : Int)
    omega
  · obtain ⟨n, hn, rfl⟩ := List.mem_map.mp hd
    have := h n hn
    omega
theorem cs_len (ds : List Nat) : (cs ds).length = ds.length := List.length_map ..
theorem cs_at {ds : List Nat} {i : Nat} {d : Nat} (h : ds[i]? = some d) : (cs ds)[i]? = some (d : Int) := by unfold cs; rw [List.getElem?_map, h]; rfl
theorem cs_take (ds : List Nat) (i : Nat) : (cs ds).take i = cs (ds.take i) := by unfold cs; rw [List.map_take]
theorem cs_drop (ds : List Nat) (i : Nat) : (cs ds).drop i = cs (ds.drop i) := by unfold cs; rw [List.map_drop]
theorem cs_append (ds es : List Nat) : cs (ds ++ es) = cs ds ++ cs es := List.map_append ..

theorem ev_all {σ : L2.St} {H : Hp} {te : TE} {bs : List Bool} {b : Bool} (h : EvS K te σ H (bs.map V.bl)) (hb : bs.all id = b) : Ev (tCB (rAll K) (tCons te tNil)) σ H (.bl b) := fun H1 e Q q => h H1 e _ fun p H2 e2 hp => ⟨p, bs, rfl, hp, by rw [hb]; exact q H2 e2⟩

/-! ### from what is evaluated to what follows -/
theorem ev_go {te : TE} {σ : L2.St} {H : Hp} {v : V} {Q : VK} (h : Ev te σ H v) (k : ∀ H2, Ex H H2 → Q v H2) : te σ H Q := h H (Ex.refl H) Q k
theorem et_go {t : TT} {σ : L2.St} {H : Hp} {b : Bool} {Q : Bool → Hp → Prop} (h : EvT t σ H b) (k : ∀ H2, Ex H H2 → Q b H2) : t σ H Q := h H (Ex.refl H) Q k
theorem el_go {te : TE} {σ : L2.St} {H : Hp} {xs : List V} {Q : VK} (h : EvL te σ H xs) (k : ∀ p H2, H p = none → Ex H H2 → H2 p = some (.lst xs) → Q (.ref p) H2) : te σ H Q := h H (Ex.refl H) Q k
theorem eu_go {te : TE} {σ : L2.St} {H : Hp} {xs : List V} {Q : VK} (h : EvU te σ H xs) (k : ∀ p H2, H p = none → Ex H H2 → H2 p = some (.tup xs) → Q (.ref p) H2) : te σ H Q := h H (Ex.refl H) Q k
theorem ea_go {t : TA} {σ : L2.St} {H : Hp} {vs : List V} {Q : List V → Hp → Prop} (h : EvA t σ H vs) (k : ∀ H2, Ex H H2 → Q vs H2) : t σ H Q := h H (Ex.refl H) Q k
/-! ### the law's state, a list of two numbers, which draws change -/
theorem et_tru {σ : L2.St} {H : Hp} {te : TE} {a : Addr} {xs : List V} (h : Ev te σ H (.ref a)) (hs : SqL K H a xs) : EvT (fun σ H Q => te σ H fun x H' => ∃ k, TruV K x H' k ∧ Q k H') σ H (!xs.isEmpty) := fun H1 e Q q => h H1 e _ fun H2 e2 => ⟨_, .inl ⟨xs, ex_l (e.trans e2) hs, rfl⟩, q H2 e2⟩
def StAt (H : Hp) (s : Addr) : Prop := ∃ k c : Int, H s = some (.lst [.int k, .int c])
def Fr (s : Addr) (H H' : Hp) : Prop := (∀ b o, b ≠ s → H b = some o → H' b = some o) ∧ StAt H' s
theorem Fr.refl {s : Addr} {H : Hp} (st : StAt H s) : Fr s H H := ⟨fun _ _ _ h => h, st⟩
theorem Fr.ex {s : Addr} {H H' : Hp} (st : StAt H s) (e : Ex H H') : Fr s H H' := ⟨fun b o _ h => e b o h, by obtain ⟨k, c, h⟩ := st; exact ⟨k, c, e _ _ h⟩⟩
theorem Fr.trans {s : Addr} {H H1 H2 : Hp} (h : Fr s H H1) (g : Fr s H1 H2) : Fr s H H2 := ⟨fun b o n e => g.1 b o n (h.1 b o n e), g.2⟩
theorem Fr.tex {s : Addr} {H H1 H2 : Hp} (h : Fr s H H1) (e : Ex H1 H2) : Fr s H H2 := h.trans (Fr.ex h.2 e)
theorem Fr.fresh {s p : Addr} {H H' : Hp} (h : Fr s H H') (hp : H' p = none) : H p = none := by
  have hs : p ≠ s := by
    rintro rfl
    obtain ⟨k, c, g⟩ := h.2
    rw [g] at hp
    cases hp
  cases e : H p with
  | none => rfl
  | some o =>
    have := h.1 p o hs e
    rw [this] at hp
    cases hp
theorem ne_st {s p : Addr} {H : Hp} (st : StAt H s) (hp : H p = none) : p ≠ s := by
  rintro rfl
  obtain ⟨k, c, g⟩ := st
  rw [g] at hp
  cases hp
theorem Fr.mut {s p : Addr} {H H1 : Hp} {o : HO} (h : Fr s H H1) (hp : H p = none) (hs : p ≠ s) : Fr s H (upd H1 p o) := ⟨fun b u n e => by rw [upd_ne (ne_of_none e hp)]; exact h.1 b u n e, by obtain ⟨k, c, g⟩ := h.2; exact ⟨k, c, by rw [upd_ne (Ne.symm hs)]; exact g⟩⟩
theorem Fr.l {s a : Addr} {H H' : Hp} {xs : List V} (h : Fr s H H') (hs : a ≠ s) (q : H a = some (.lst xs)) : H' a = some (.lst xs) := h.1 a _ hs q
/-- a list, seen through all draws -/
def Scr (K : PySem.W.Frag) (s a : Addr) (H : Hp) (xs : List V) : Prop := ∀ H', Fr s H H' → SqL K H' a xs
theorem scr_mk {s a : Addr} {H H1 : Hp} {xs : List V} (hs : H s = none) (e : Ex H H1) (q : SqL K H a xs) : Scr K s a H1 xs := fun H' fr => by
  rcases q with q | q
  · rcases q with q | ⟨o, q⟩
    · exact .inl (.inl (fr.1 _ _ (ne_of_none q hs) (e _ _ q)))
    · exact .inl (.inr ⟨o, fr.1 _ _ (ne_of_none q hs) (e _ _ q)⟩)
  · exact .inr q
def DrS (K : PySem.W.Frag) (H : Hp) (s a : Addr) (ns : List Int) : Prop := StAt H s ∧ Scr K s a H (ns.map V.int)
theorem DrS.fr {H H' : Hp} {s a : Addr} {ns : List Int} (h : DrS K H s a ns) (f : Fr s H H') : DrS K H' s a ns := ⟨f.2, fun H2 g => h.2 H2 (f.trans g)⟩
theorem DrS.ex {H H' : Hp} {s a : Addr} {ns : List Int} (h : DrS K H s a ns) (e : Ex H H') : DrS K H' s a ns := h.fr (Fr.ex h.1 e)
theorem DrS.sq {H : Hp} {s a : Addr} {ns : List Int} (h : DrS K H s a ns) : SqL K H a (ns.map V.int) := h.2 H (Fr.refl h.1)
/-! numbers, tests that draw on the way -/
def EvI (s : Addr) (te : TE) (σ : L2.St) (H : Hp) (p : Int → Prop) : Prop := ∀ Q : VK, (∀ i H2, Fr s H H2 → p i → Q (.int i) H2) → te σ H Q
def EvTW (s : Addr) (t : TT) (σ : L2.St) (H : Hp) (p : Bool → Prop) : Prop := ∀ Q : Bool → Hp → Prop, (∀ b H2, Fr s H H2 → p b → Q b H2) → t σ H Q
section
variable {s : Addr} {σ : L2.St} {H : Hp} {ta tb te : TE} {p q : Int → Prop}
theorem wi_ev {i : Int} (st : StAt H s) (h : Ev te σ H (.int i)) : EvI s te σ H (fun z => z = i) := fun Q q => h H (Ex.refl H) _ fun H2 e2 => q i H2 (Fr.ex st e2) rfl
theorem wi_imp {p q : Int → Prop} (h : EvI s te σ H p) (hi : ∀ z, p z → q z) : EvI s te σ H q := fun Q k => h Q fun i H2 f hp => k i H2 f (hi i hp)
theorem wi_op {g : Int → Int → Int} (ha : EvI s ta σ H p) (hb : ∀ H1, Fr s H H1 → EvI s tb σ H1 q) : EvI s (tOp (rI0 fun i j => .int (g i j)) ta tb) σ H (fun z => ∃ i j, p i ∧ q j ∧ z = g i j) := fun Q k =>
  ha _ fun i H1 f1 hp => hb H1 f1 _ fun j H2 f2 hq => ⟨i, j, rfl, rfl, k _ H2 (f1.trans f2) ⟨i, j, hp, hq, rfl⟩⟩
theorem wi_opC {C : Int → Int → Prop} {g : Int → Int → Int} (ha : EvI s ta σ H p) (hb : ∀ H1, Fr s H H1 → EvI s tb σ H1 q) (hc : ∀ i j, p i → q j → C i j) : EvI s (tOp (rI C fun i j => .int (g i j)) ta tb) σ H (fun z => ∃ i j, p i ∧ q j ∧ z = g i j) := fun Q k =>
  ha _ fun i H1 f1 hp => hb H1 f1 _ fun j H2 f2 hq => ⟨i, j, rfl, rfl, hc i j hp hq, k _ H2 (f1.trans f2) ⟨i, j, hp, hq, rfl⟩⟩
theorem wt_cmp {g : Int → Int → Bool} (ha : EvI s ta σ H p) (hb : ∀ H1, Fr s H H1 → EvI s tb σ H1 q) : EvTW s (tTest (tOp (rI0 fun i j => .bl (g i j)) ta tb)) σ H (fun b => ∃ i j, p i ∧ q j ∧ b = g i j) := fun Q k =>
  ha _ fun i H1 f1 hp => hb H1 f1 _ fun j H2 f2 hq => ⟨i, j, rfl, rfl, g i j, rfl, k _ H2 (f1.trans f2) ⟨i, j, hp, hq, rfl⟩⟩
theorem wt_eq (ha : EvI s ta σ H p) (hb : ∀ H1, Fr s H H1 → EvI s tb σ H1 q) : EvTW s (tTest (tOp rEq ta tb)) σ H (fun b => ∃ i j, p i ∧ q j ∧ b = decide (i = j)) := fun Q k =>
  ha _ fun i H1 f1 hp => hb H1 f1 _ fun j H2 f2 hq => ⟨rfl, decide (V.int i = V.int j), rfl, k _ H2 (f1.trans f2) ⟨i, j, hp, hq, by simp⟩⟩
theorem wt_ev {t : TT} {b : Bool} (st : StAt H s) (h : EvT t σ H b) : EvTW s t σ H (fun z => z = b) := fun Q q => h H (Ex.refl H) _ fun H2 e2 => q b H2 (Fr.ex st e2) rfl
theorem wt_and {t u : TT} {p q : Bool → Prop} (h1 : EvTW s t σ H p) (h2 : ∀ H1, Fr s H H1 → p true → EvTW s u σ H1 q) : EvTW s (tAnd t u) σ H (fun b => (p false ∧ b = false) ∨ (p true ∧ q b)) := fun Q k => h1 _ fun b H1 f1 hb => by
  cases b with
  | true => exact h2 H1 f1 hb _ fun c H2 f2 hc => k c H2 (f1.trans f2) (.inr ⟨hb, hc⟩)
  | false => exact k false H1 f1 (.inl ⟨hb, rfl⟩)
theorem wt_not {t : TT} {p : Bool → Prop} (h1 : EvTW s t σ H p) : EvTW s (tNot t) σ H (fun b => p (!b)) := fun Q k => h1 _ fun b H1 f1 hb => k (!b) H1 f1 (by show p (!!b); rw [Bool.not_not]; exact hb)
variable {D : Ends} {tz tu : TS}
theorem qw_asg {j : Nat} (h : EvI s te σ H p) (k : ∀ i H1, Fr s H H1 → p i → tz D (σ.set j (some (.int i))) H1) : tSeq (tAsg te (gName j)) tz D σ H := h _ k
theorem sw_asg {j : Nat} (h : EvI s te σ H p) (k : ∀ i H1, Fr s H H1 → p i → D.nx (σ.set j (some (.int i))) H1) : tAsg te (gName j) D σ H := h _ k
theorem sw_ret (h : EvI s te σ H p) (k : ∀ i H1, Fr s H H1 → p i → D.rt (.int i) H1) : tRet te D σ H := h _ k
theorem qw_when {t : TT} {p : Bool → Prop} (h : EvTW s t σ H p) (h1 : p true → ∀ H1, Fr s H H1 → tu { D with nx := tz D } σ H1) (h2 : p false → ∀ H1, Fr s H H1 → tz D σ H1) : tSeq (tIfS t tu tNext) tz D σ H := h _ fun b H1 f hb => by
  cases b with
  | true => exact h1 hb H1 f
  | false => exact h2 hb H1 f
theorem sw_when {t : TT} {p : Bool → Prop} (h : EvTW s t σ H p) (h1 : p true → ∀ H1, Fr s H H1 → tu D σ H1) (h2 : p false → ∀ H1, Fr s H H1 → D.nx σ H1) : tIfS t tu tNext D σ H := h _ fun b H1 f hb => by
  cases b with
  | true => exact h1 hb H1 f
  | false => exact h2 hb H1 f
theorem sw_if {t : TT} {tw : TS} {p : Bool → Prop} (h : EvTW s t σ H p) (h1 : p true → ∀ H1, Fr s H H1 → tu D σ H1) (h2 : p false → ∀ H1, Fr s H H1 → tw D σ H1) : tIfS t tu tw D σ H := h _ fun b H1 f hb => by
  cases b with
  | true => exact h1 hb H1 f
  | false => exact h2 hb H1 f
theorem qw_forR1 {j : Nat} (h : EvI s te σ H p) (hp : ∀ i, p i → 0 ≤ i ∧ i ≤ 100000) (Pv : Int → Nat → L2.St → Hp → Prop) (h0 : ∀ n H1, p n → Fr s H H1 → Pv n 0 σ H1)
    (hs : ∀ n (i : Nat) σ' H', p n → (i : Int) < n → Pv n i σ' H' → tu { D with nx := Pv n (i + 1), ct := Pv n (i + 1), bk := tz D } (σ'.set j (some (.int (i : Int)))) H') (hd : ∀ n σ' H', p n → Pv n n.toNat σ' H' → tz D σ' H') : tSeq (tFor (iRng1 (tCons te tNil)) (gName j) tu) tz D σ H :=
  h _ fun n H1 f hn => ⟨n, rfl, by have := hp n hn; omega, by have := hp n hn; omega, for_range (D := { D with nx := tz D }) (lo := 0) (n := n.toNat) (Pv n) (h0 n H1 hn f) (fun i σ' H' hi q => by
    have e0 : (0 : Int) + (i : Int) = (i : Int) := Int.zero_add _
    show tu { D with nx := Pv n (i + 1), ct := Pv n (i + 1), bk := tz D } (σ'.set j (some (.int ((0 : Int) + (i : Int))))) H'
    rw [e0]
    exact hs n i σ' H' hn (by have := hp n hn; omega) q) fun σ' H' q => hd n σ' H' hn q⟩
end
/-- [e for j in range(n)] whose element draws -/
theorem tlc_rngW {ta : TA} {te : TE} {vs : List Nat} {n : Int} {j : Nat} {σ : L2.St} {H : Hp} {Q : VK} (h : EvA ta σ H [.int n]) (hn : -100000 ≤ n ∧ n ≤ 100000)
    (k : ∀ H1, Ex H H1 → ∀ Dl, H1 Dl = none → ∃ Pv : Nat → Hp → Prop, Pv 0 (upd H1 Dl (.lst [])) ∧ (∀ (i : Nat) H', i < n.toNat → Pv i H' → wipe ((wipe σ vs).set j (some (.int (i : Int)))) vs = wipe σ vs ∧ te ((wipe σ vs).set j (some (.int (i : Int)))) H' fun y H4 => ∃ acc, H4 Dl = some (.lst acc) ∧ acc.length < sizeLine ∧ Pv (i + 1) (upd H4 Dl (.lst (acc ++ [y])))) ∧ (∀ H', Pv n.toNat H' → Q (.ref Dl) H')) :
    tLc (iRng1 ta) (gName j) tYes te vs σ H Q := h H (Ex.refl H) _ fun H1 e1 => ⟨n, rfl, by omega, by omega, fun Dl hD => by
  obtain ⟨Pv, h0, hs, hd⟩ := k H1 e1 Dl hD
  refine lc_range (lo := 0) (n := n.toNat) Pv h0 (fun i H' hi p => ?_) hd
  rw [Int.zero_add]
  exact hs i H' hi p⟩
/-- xs[j] = e, e of a kind -/
theorem q_setLR {σ : L2.St} {H : Hp} {te ta tb : TE} {l : Addr} {xs : List V} {j : Nat} {D : Ends} {tz : TS} {P : V → Prop} (h : ∀ Q : VK, (∀ v H1, Ex H H1 → P v → Q v H1) → te σ H Q) (hl : H l = some (.lst xs)) (ho : ∀ H1, Ev ta σ H1 (.ref l)) (hi : ∀ H1, Ev tb σ H1 (.int (j : Int))) (hj : j < xs.length) (k : ∀ v H1, P v → Ex H H1 → tz D σ (upd H1 l (.lst (xs.set j v)))) : tSeq (tAsg te (gSub ta tb rSetL)) tz D σ H :=
  h _ fun v H1 e1 hv => ho H1 H1 (Ex.refl _) _ fun H2 e2 => hi H2 H2 (Ex.refl _) _ fun H3 e3 => ⟨l, xs, (j : Int), j, rfl, rfl, ((e1.trans e2).trans e3) l _ hl, ixN_nat hj, k v H3 hv ((e1.trans e2).trans e3)⟩
/-! ### the law's draws -/
def sp_isint : Sp := fun vs H Q _ => ∃ n : Int, vs = [.int n] ∧ RetV (.bl true) H Q
theorem ok_law_is_integer (T : TX K mg) : FnOk P w K mg base CX0 1 T.a_law_is_integer T.d_law_is_integer ["actual"] sp_isint := by
  refine T.F_law_is_integer.ok sc_law_is_integer (fun vs H Q E h => by obtain ⟨n, rfl, _⟩ := h; rfl) (fun cdv A outer s H vs Q E hr h => ?_)
  obtain ⟨n, rfl, k⟩ := h
  refine ⟨_, (pss_one (ps_ret (pe_and (pe_callB (r := rIsi K) call_isi (by rfl) T.m_isinstance PyProof.Rows.boot_isinstance (pa_cons (pv 0) (pa_cons (pe_bltn (v := V.ty "int") (by rfl) T.m_int PyProof.Rows.boot_int rfl) pa_nil))) (pe_one (pe_not (pe_callB (r := rIsi K) call_isi (by rfl) T.m_isinstance PyProof.Rows.boot_isinstance (pa_cons (pv 0) (pa_cons (pe_bltn (v := V.ty "bool") (by rfl) T.m_bool PyProof.Rows.boot_bool rfl) pa_nil)))))))), ?_⟩
  walk_at "ret"
  intro H2 e2
  exact ret_eq k e2 rfl
theorem ev_isint {σ : L2.St} {H : Hp} {te : TE} {E : XK} {n : Int} (h : Ev te σ H (.int n)) : Ev (tCall sp_isint [] E (tCons te tNil)) σ H (.bl true) := ev_call (ea_cons h ea_nil) fun H1 _ Q q _ => ⟨n, rfl, q⟩

def sp_refill (K : PySem.W.Frag) : Sp := fun vs H Q _ => ∃ (a : Addr) (ns : List Int) (k : Int), vs = [.ref a, .int k] ∧ SqL K H a (ns.map V.int) ∧ ∀ c : Int, RetV (.int c) H Q
theorem ok_law_refill (T : TX K mg) : FnOk P w K mg base CX0 1 T.a_law_refill T.d_law_refill ["script", "k"] (sp_refill K) := by
  refine T.F_law_refill.ok sc_law_refill (fun vs H Q E h => by obtain ⟨a, ns, k, rfl, _⟩ := h; rfl) (fun cdv A outer s0 H vs Q E hr h => ?_)
  obtain ⟨a, ns, k, rfl, hS, q⟩ := h
  refine ⟨_, (pss_cons (ps_set (i := 2) sc_law_refill.nd rfl (Or.inl rfl) pe_int)
      (pss_cons (ps_if (pt_truth (pv 0) (by intro _; rfl)) (pss_one (ps_set (i := 2) sc_law_refill.nd rfl (Or.inl rfl) (pe_ix (r := rIxL K) ix_list (pv 0) (pe_op op_mod (pv 1) (pe_callB (r := rLenS K) call_len_seq (by rfl) T.m_len PySem.boot_len (pa_cons (pv 0) pa_nil))) (fun _ _ => rfl)))) pss_nil)
      (pss_cons (ps_if (pt_cmpR op_lt (pv 2) pe_int (nomark _)) (pss_one (ps_set (i := 2) sc_law_refill.nd rfl (Or.inl rfl) (pe_op op_sub pe_int (pe_op op_mul pe_int (pv 2))))) pss_nil)
      (pss_cons (ps_if (PW.pt (pw_and (pt_cmpR op_ge (pv 2) (pe_op op_pow pe_int pe_int) (nomark _)) (pw_and1 (pt_cmpR op_lt (pv 1) (pe_callB (r := rLenS K) call_len_seq (by rfl) T.m_len PySem.boot_len (pa_cons (pv 0) pa_nil)) (nomark _))))) (pss_one (ps_ret (pv 2))) pss_nil)
      (pss_one (ps_ret (pe_op op_mod (pe_callTy call_int1 (by rfl) T.m_int PyProof.Rows.boot_int (pa_cons (pe_op op_add (pe_op op_mul (pe_callTy call_int1 (by rfl) T.m_int PyProof.Rows.boot_int (pa_cons (pe_op op_add (pe_op op_add (pe_op op_mul (pv 2) pe_int) (pe_op op_mul (pv 1) pe_int)) pe_int) pa_nil)) pe_int) pe_int) pa_nil)) pe_int))))))), ?_⟩
  refine q_asg ev_c fun H1 e1 => ?_
  have hl : (ns.map V.int).length = ns.length := List.length_map ..
  have rest : ∀ (c : Int) (H2 : Hp), Ex H H2 → tSeq (tIfS (tTest (tOp (rI0 fun i j => .bl (decide (i < j))) (tVar 2) (tC (.int 0)))) (tAsg (tOp (rI0 fun i j => .int (i - j)) (tC (.int 1)) (tOp (rI CMul fun i j => .int (i * j)) (tC (.int 2)) (tVar 2))) (gName 2)) tNext) (tSeq (tIfS (tAnd (tTest (tOp (rI0 fun i j => .bl (decide (j ≤ i))) (tVar 2) (tOp (rI CPow fun i j => .int (i ^ j.toNat)) (tC (.int 10)) (tC (.int 18))))) (tTest (tOp (rI0 fun i j => .bl (decide (i < j))) (tVar 1) (tCB (rLenS K) (tCons (tVar 0) tNil))))) (tRet (tVar 2)) tNext) (tRet (tOp (rI (fun _ j => 0 < j) fun i j => .int (i % j)) (tCB (fun xs H Q => (∃ i, xs = [V.int i] ∧ Q (V.int i) H) ∨ ∃ k, xs = [V.bl k] ∧ Q (V.int (if k = true then 1 else 0)) H) (tCons (tOp (rI0 fun i j => .int (i + j)) (tOp (rI CMul fun i j => .int (i * j)) (tCB (fun xs H Q => (∃ i, xs = [V.int i] ∧ Q (V.int i) H) ∨ ∃ k, xs = [V.bl k] ∧ Q (V.int (if k = true then 1 else 0)) H) (tCons (tOp (rI0 fun i j => .int (i + j)) (tOp (rI0 fun i j => .int (i + j)) (tOp (rI CMul fun i j => .int (i * j)) (tVar 2) (tC (.int 48271))) (tOp (rI CMul fun i j => .int (i * j)) (tVar 1) (tC (.int 69621)))) (tC (.int 12345))) tNil)) (tC (.int 40692))) (tC (.int 7))) tNil)) (tC (.int 2147483399))))) { nx := fun _ H' => Q .non H', rt := Q } [some (.ref a), some (.int k), some (.int c)] H2 := fun c H2 e2 => by
    obtain ⟨c1, hc1⟩ : ∃ c1 : Int, (if c < 0 then 1 - 2 * c else c) = c1 := ⟨_, rfl⟩
    refine q_ifAsg (b := decide (c < 0)) (v := .int c1) (et_test (ev_I0 (ev_var rfl) ev_c)) (fun h => Ev.is (ev_I0 ev_c (ev_I ev_c (ev_var rfl) (.inl (by decide)))) (congrArg V.int (by rw [← hc1, if_pos (of_decide_eq_true h)]))) (fun h => by rw [← hc1, if_neg (of_decide_eq_false h)]; rfl) fun H3 e3 => ?_
    refine q_when (et_and (et_test (ev_I0 (ev_var rfl) (ev_I ev_c ev_c ⟨by decide, by decide, by decide⟩))) fun _ => et_test (ev_I0 (ev_var rfl) (ev_lenS (Ev.s (ev_var rfl) (ex_l (e2.trans e3) hS))))) (fun _ H4 e4 => ?_) (fun _ H4 e4 => ?_)
    · exact s_ret (ev_var rfl) fun H5 e5 => (q _).go ((e2.trans e3).trans (e4.trans e5))
    · exact s_ret (ev_I (ev_int1 (ev_I0 (ev_I (ev_int1 (ev_I0 (ev_I0 (ev_I (ev_var rfl) ev_c (.inr (by decide))) (ev_I (ev_var rfl) ev_c (.inr (by decide)))) ev_c)) ev_c (.inr (by decide))) ev_c)) ev_c (by decide)) fun H5 e5 => (q _).go ((e2.trans e3).trans (e4.trans e5))
  refine q_when (et_tru (ev_var rfl) (ex_l e1 hS)) (fun hb H2 e2 => ?_) (fun _ H2 e2 => rest 0 H2 (e1.trans e2))
  have h0 : 0 < ns.length := by
    cases ns with
    | nil => cases hb
    | cons x r => rw [List.length_cons]; omega
  have h1 := Int.emod_nonneg k (show (ns.length : Int) ≠ 0 by omega)
  have h2 := Int.emod_lt_of_pos k (show (0 : Int) < ns.length by omega)
  refine s_asg (v := .int (ns.getD (k % (ns.length : Int)).toNat 0)) (ev_ixS (i := 0) (n := k % (ns.length : Int)) (Ev.s (ev_var rfl) (ex_l (e1.trans e2) hS)) (ev_I (ev_var rfl) (Ev.is (ev_lenS (Ev.s (ev_var rfl) (ex_l (e1.trans e2) hS))) (by rw [hl])) (by omega)) (at_of (j := (k % (ns.length : Int)).toNat) (by omega) (at_int (gl_get (by omega))))) fun H3 e3 => rest _ H3 (e1.trans (e2.trans e3))
def sp_draw (K : PySem.W.Frag) : Sp := fun vs H Q _ => ∃ (s a : Addr) (ns : List Int) (n : Int), vs = [.ref s, .ref a, .int n] ∧ DrS K H s a ns ∧ 0 < n ∧ n ≤ 2 ^ 80 ∧ ∀ (d : Nat) H', (d : Int) < n → Fr s H H' → Q (.int (d : Int)) H'
theorem ok_law_draw (T : TX K mg) : FnOk P w K mg base CX0 2 T.a_law_draw T.d_law_draw ["state", "script", "size"] (sp_draw K) := by
  refine T.F_law_draw.ok sc_law_draw (fun vs H Q E h => by obtain ⟨s, a, ns, n, rfl, _⟩ := h; rfl) (fun cdv A outer s0 H vs Q E hr h => ?_)
  obtain ⟨s, a, ns, n, rfl, hd, hn0, hn, k⟩ := h
  have hn' : n ≤ 1208925819614629174706176 := hn
  have hlog : n.natAbs.log2 < 9000 := by
    have : n.natAbs < 2 ^ 81 := by omega
    have := (Nat.log2_lt (n := n.natAbs) (k := 81) (by omega)).mpr this
    omega
  refine ⟨_, (pss_cut (ps_if (pt_cmpR op_eq (pe_ix (r := rIxL K) ix_list (pv 0) pe_int (fun _ _ => rfl)) pe_int (nomark _)) (pss_cons (ps_asg (pe_call (ok_law_refill T) (hr.mono (by decide)) (by rfl) T.g_law_refill T.F_law_refill.kp T.b_law_refill .nil pass0 (pa_cons (pv 1) (pa_cons (pe_ix (r := rIxL K) ix_list (pv 0) pe_int (fun _ _ => rfl)) pa_nil))) (pg_sub (pv 0) pe_int set_list))
        (pss_one (ps_asg (pe_op op_add (pe_ix (r := rIxL K) ix_list (pv 0) pe_int (fun _ _ => rfl)) pe_int) (pg_sub (pv 0) pe_int set_list)))) pss_nil)
      (pss_cons (ps_set (i := 3) sc_law_draw.nd rfl (Or.inl rfl) (pe_op op_mod (pe_callTy call_int1 (by rfl) T.m_int PyProof.Rows.boot_int (pa_cons (pe_ix (r := rIxL K) ix_list (pv 0) pe_int (fun _ _ => rfl)) pa_nil)) (pv 2)))
      (pss_cons (ps_asg (pe_op op_fdivW (pe_ix (r := rIxL K) ix_list (pv 0) pe_int (fun _ _ => rfl)) (pv 2)) (pg_sub (pv 0) pe_int set_list))
      (pss_one (ps_ret (pv 3)))))), ?_⟩
  refine q_cut (M := fun σ' H' => ∃ kk cc : Int, σ' = [some (.ref s), some (.ref a), some (.int n), none] ∧ (∀ b o, b ≠ s → H b = some o → H' b = some o) ∧ H' s = some (.lst [.int kk, .int cc])) ?_ ?_
  · obtain ⟨kk, cc, g⟩ := hd.1
    refine s_when (et_test (ev_eq (ev_ixS (i := 0) (n := 1) (Ev.s (ev_var rfl) (sq_of g)) ev_c (at_of (j := 1) rfl rfl)) ev_c rfl)) (fun _ H1 e1 => ?_) (fun _ H1 e1 => ⟨kk, cc, rfl, fun b o _ h => e1 b o h, e1 _ _ g⟩)
    have g1 := e1 _ _ g
    refine q_setLR (l := s) (xs := [.int kk, .int cc]) (j := 1) (P := fun v => ∃ c : Int, v = .int c) (fun Q' q' => (ea_cons (ev_var rfl) (ea_cons (ev_ixS (K := K) (i := 0) (n := 0) (v := .int kk) (xs := [.int kk, .int cc]) (Ev.s (ev_var rfl) (sq_of g1)) ev_c (at_of (j := 0) rfl rfl)) ea_nil)) H1 (Ex.refl _) _ fun H2 e2 => ⟨a, ns, kk, rfl, (hd.ex (e1.trans e2)).sq, fun c H3 e3 => q' _ _ (e2.trans e3) ⟨c, rfl⟩⟩) g1 (fun _ => ev_var rfl) (fun _ => ev_c) (Nat.le_of_ble_eq_true rfl) fun v H2 hv e2 => ?_
    obtain ⟨c, rfl⟩ := hv
    have u2 : (upd H2 s (.lst [V.int kk, V.int c])) s = some (.lst [V.int kk, V.int c]) := upd_same
    refine s_setL (l := s) (j := 0) (v := .int (kk + 1)) u2 (ev_I0 (ev_ixS (i := 0) (n := 0) (Ev.s (ev_var rfl) (sq_of u2)) ev_c (at_of (j := 0) rfl rfl)) ev_c) (ev_var rfl) ev_c (Nat.le_of_ble_eq_true rfl) fun H3 e3 => ⟨kk + 1, c, rfl, fun b o hb h => ?_, upd_same⟩
    rw [upd_ne hb]
    exact e3 _ _ (by rw [upd_ne hb]; exact e2 _ _ (e1 _ _ h))
  · rintro σ' H1 ⟨kk, cc, rfl, fr, g⟩
    have h0 := Int.emod_nonneg cc (show n ≠ 0 by omega)
    have h1 := Int.emod_lt_of_pos cc hn0
    obtain ⟨d, hd'⟩ : ∃ d : Nat, cc % n = (d : Int) := ⟨(cc % n).toNat, by omega⟩
    refine q_asg (v := .int (d : Int)) (Ev.is (ev_I (ev_int1 (ev_ixS (i := 0) (n := 1) (Ev.s (ev_var rfl) (sq_of g)) ev_c (at_of (j := 1) rfl rfl))) (ev_var rfl) hn0) (congrArg V.int hd')) fun H2 e2 => ?_
    refine q_setL (l := s) (j := 1) (v := .int (cc / n)) (e2 _ _ g) (ev_I (ev_ixS (i := 0) (n := 1) (Ev.s (ev_var rfl) (sq_of (e2 _ _ g))) ev_c (at_of (j := 1) rfl rfl)) (ev_var rfl) ⟨hn0, hlog⟩) (ev_var rfl) ev_c (Nat.le_of_ble_eq_true rfl) fun H3 e3 => ?_
    refine s_ret (v := .int (d : Int)) (ev_var rfl) fun H4 e4 => k d H4 (by omega) ⟨fun b o hb h => e4 _ _ (by rw [upd_ne hb]; exact e3 _ _ (e2 _ _ (fr b o hb h))), ⟨kk, cc / n, e4 _ _ upd_same⟩⟩
theorem wi_draw {s a : Addr} {ns : List Int} {σ : L2.St} {H : Hp} {tn : TE} {E : XK} {n : Int} {i j : Nat} (hd : DrS K H s a ns) (h1 : σ[i]? = some (some (.ref s))) (h2 : σ[j]? = some (some (.ref a))) (h3 : Ev tn σ H (.int n)) (h0 : 0 < n) (hn : n ≤ 2 ^ 80) :
    EvI s (tCall (sp_draw K) [] E (tCons (tVar i) (tCons (tVar j) (tCons tn tNil)))) σ H (fun z => ∃ d : Nat, z = (d : Int) ∧ (d : Int) < n) := fun Q q =>
  (ea_cons (ev_var h1) (ea_cons (ev_var h2) (ea_cons h3 ea_nil))) H (Ex.refl _) _ fun H1 e1 => ⟨s, a, ns, n, rfl, hd.ex e1, h0, hn, fun d H2 hdn f => q _ H2 ((Fr.ex hd.1 e1).trans f) ⟨d, rfl, hdn⟩⟩

def sp_junk (K : PySem.W.Frag) : Sp := fun vs H Q _ => ∃ (s a : Addr) (ns : List Int) (m : Nat), vs = [.ref s, .ref a, .int (m : Int)] ∧ DrS K H s a ns ∧ m ≤ 1000 ∧ ∀ p (ds : List Nat) H', H p = none → Fr s H H' → H' p = some (.lst ((cs ds).map V.int)) → ds.length = m → (∀ d ∈ ds, d < 256) → Q (.ref p) H'
theorem ok_law_junk (T : TX K mg) : FnOk P w K mg base CX0 3 T.a_law_junk T.d_law_junk ["state", "script", "count"] (sp_junk K) := by
  refine T.F_law_junk.ok sc_law_junk (fun vs H Q E h => by obtain ⟨s, a, ns, m, rfl, _⟩ := h; rfl) (fun cdv A outer s0 H vs Q E hr h => ?_)
  obtain ⟨s, a, ns, m, rfl, hd, hm, k⟩ := h
  refine ⟨_, (pss_one (ps_ret (pe_lc (own := [("k", 3)]) (g := gName 3) (tt := tYes) rfl sc_law_junk.nd (pi_range1 (by rfl) T.m_range (pa_cons (pv 2) pa_nil)) (blkOk_by (N := ["state", "script", "count", "k"]) (sc := defScope s_law_junk) (by decide +kernel)) (fun _ _ _ _ _ => pg_name (i := 3) sc_law_junk.nd rfl (Or.inl rfl)) (fun _ _ _ _ _ => pts_nil) (fun _ _ _ _ _ => (pe_call (ok_law_draw T) (hr.mono (by decide)) (by rfl) T.g_law_draw T.F_law_draw.kp T.b_law_draw .nil pass0 (pa_cons (pv 0) (pa_cons (pv 1) (pa_cons pe_int pa_nil)))))))), ?_⟩
  refine tlc_rngW (n := (m : Int)) (ea_cons (ev_var rfl) ea_nil) (by omega) fun H1 e1 Dl hD => ⟨fun i H' => ∃ ds : List Nat, Fr s H H' ∧ H' Dl = some (.lst ((cs ds).map V.int)) ∧ ds.length = i ∧ ∀ d ∈ ds, d < 256, ⟨[], ?_, upd_same, rfl, fun d hd => by cases hd⟩, ?_, ?_⟩
  · exact Fr.ex hd.1 (Ex.mut e1 (fresh_back e1 hD))
  · rintro i H' hi ⟨ds, f, g, hl, hb⟩
    have hi : i < m := by omega
    have hDs : Dl ≠ s := ne_st hd.1 (fresh_back e1 hD)
    refine ⟨rfl, wi_draw (hd.fr f) rfl rfl ev_c (by decide) (by decide) _ fun z H2 f2 hz => ?_⟩
    obtain ⟨d, rfl, hdn⟩ := hz
    refine ⟨(cs ds).map V.int, f2.l hDs g, sz_lt (by rw [List.length_map, cs_len]; omega), ds ++ [d], (f.trans f2).mut (fresh_back e1 hD) hDs, ?_, by rw [List.length_append, hl]; rfl, fun y hy => ?_⟩
    · rw [upd_same, cs_append, List.map_append]
      rfl
    · rcases List.mem_append.mp hy with h | h
      · exact hb y h
      · rw [List.mem_singleton.mp h]
        omega
  · rintro H' ⟨ds, f, g, hl, hb⟩
    exact k Dl ds H' (fresh_back e1 hD) f g (by omega) hb

def sp_isbytes (K : PySem.W.Frag) : Sp := fun vs H Q _ => ∃ (p : Addr) (ds : List Nat), vs = [.ref p] ∧ H p = some (.lst ((cs ds).map V.int)) ∧ ds.length ≤ 40000 ∧ (∀ d ∈ ds, d < 256) ∧ RetV (.bl true) H Q
theorem ok_law_is_bytes (T : TX K mg) : FnOk P w K mg base CX0 2 T.a_law_is_bytes T.d_law_is_bytes ["actual"] (sp_isbytes K) := by
  refine T.F_law_is_bytes.ok sc_law_is_bytes (fun vs H Q E h => by obtain ⟨p, ds, rfl, _⟩ := h; rfl) (fun cdv A outer s0 H vs Q E hr h => ?_)
  obtain ⟨p, ds, rfl, hp, hl, hb, k⟩ := h
  refine ⟨_, (pss_cons (ps_if (pt_not (pt_val (pe_callB (r := rIsi K) call_isi (by rfl) T.m_isinstance PyProof.Rows.boot_isinstance (pa_cons (pv 0) (pa_cons (pe_bltn (v := V.ty "list") (by rfl) T.m_list PyProof.Rows.boot_list rfl) pa_nil))))) (pss_one (ps_ret pe_bl)) pss_nil)
      (pss_one (ps_ret (pe_callB (r := rAll K) (cr_all rfl) (by rfl) T.m_all PyProof.Rows.boot_all (pa_cons (pe_lc (own := [("byte", 1)]) (g := gName 1) (tt := tYes) rfl sc_law_is_bytes.nd (pi_list (pv 0)) (blkOk_by (N := ["actual", "byte"]) (sc := defScope s_law_is_bytes) (by decide +kernel)) (fun _ _ _ _ _ => pg_name (i := 1) sc_law_is_bytes.nd rfl (Or.inl rfl)) (fun _ _ _ _ _ => pts_nil) (fun _ _ _ _ _ => (pe_and (pe_call (ok_law_is_integer T) (hr.mono (by decide)) (by rfl) T.g_law_is_integer T.F_law_is_integer.kp T.b_law_is_integer .nil pass0 (pa_cons (pv 1) pa_nil)) (pe_one (pe_chain op_le op_le pe_int (pv 1) pe_int))))) pa_nil))))), ?_⟩
  refine q_when (b := false) (et_is (et_not (et_B (ev_isiL (ev_var rfl) hp))) rfl) (fun h => by cases h) fun _ H1 e1 => ?_
  refine s_ret (v := .bl true) (ev_all (bs := (cs ds).map fun _ => true) (EvR.s (EvL.r (EvL.is (xs := (cs ds).map fun _ => V.bl true) (el_lcS _ (Ev.s (ev_var rfl) (sq_of (e1 _ _ hp))) (by rw [List.length_map, List.length_map]) (by rw [List.length_map, cs_len]; omega) (fun _ => rfl) fun i x H2 e2 hx => ?_) (by rw [List.map_map]; rfl)))) (by simp)) fun H2 e2 => k.go (e1.trans e2)
  obtain ⟨n, hn, hi, rfl⟩ := int_at hx
  obtain ⟨d, hd, rfl⟩ := List.mem_map.mp (List.mem_of_getElem? hn)
  have := hb d hd
  exact ⟨.bl true, by rw [List.getElem?_map, hn]; rfl, Ev.is (ev_andV (a := true) (b := true) (ev_isint (ev_var rfl)) fun _ => Ev.is (ev_chain ev_c (ev_var rfl) ev_c) (congrArg V.bl (by rw [Bool.and_eq_true, decide_eq_true_iff, decide_eq_true_iff]; omega))) rfl⟩
theorem ev_isbytes {σ : L2.St} {H : Hp} {te : TE} {E : XK} {ds : List Nat} (h : EvR te σ H ((cs ds).map V.int)) (hl : ds.length ≤ 40000) (hb : ∀ d ∈ ds, d < 256) : Ev (tCall (sp_isbytes K) [] E (tCons te tNil)) σ H (.bl true) := fun H1 e Q q =>
  h H1 e _ fun p H2 e2 hp => ⟨p, ds, rfl, hp, hl, hb, fun H3 e3 => q H3 (e2.trans e3)⟩
theorem and_mask255 (x : Nat) : Builtin.bitAnd (x : Int) 255 = ((x % 256 : Nat) : Int) := by
  have h := _root_.Bits.bitAnd_mask (x := (x : Int)) 8 (by omega)
  have e : (2 : Int) ^ 8 - 1 = 255 := rfl
  rw [e] at h
  rw [h]
  have e2 : (2 : Int) ^ 8 = 256 := rfl
  rw [e2]
  omega
def bigB (x n : Nat) : List Nat := (List.range n).map fun k => x / 2 ^ (8 * (n - 1 - k)) % 256
theorem bigB_len (x n : Nat) : (bigB x n).length = n := by unfold bigB; rw [List.length_map, List.length_range]
theorem bigB_lt (x n : Nat) : ∀ d ∈ bigB x n, d < 256 := fun d hd => by
  unfold bigB at hd
  obtain ⟨k, _, rfl⟩ := List.mem_map.mp hd
  exact Nat.mod_lt _ (by decide)
theorem p2n (j : Nat) : ((2 : Int) ^ j) = ((2 ^ j : Nat) : Int) := by rw [Int.natCast_pow]; rfl
theorem ev_byte {σ : L2.St} {H : Hp} {t1 t2 : TE} {x j : Nat} (h1 : Ev t1 σ H (.int (x : Int))) (h2 : Ev t2 σ H (.int (j : Int))) : Ev (tOp (rI0 fun i j => .int (Builtin.bitAnd i j)) (tOp (rI (fun _ j => 0 ≤ j) fun i j => .int (i / 2 ^ j.toNat)) t1 t2) (tC (.int 255))) σ H (.int ((x / 2 ^ j % 256 : Nat) : Int)) :=
  Ev.is (ev_I0 (Ev.is (ev_I h1 h2 (by omega)) (congrArg V.int (show (x : Int) / 2 ^ (j : Int).toNat = ((x / 2 ^ j : Nat) : Int) by rw [Int.toNat_natCast, p2n, Int.natCast_ediv]))) ev_c) (congrArg V.int (and_mask255 _))

/-! ### ranges with a step -/
theorem s_forRC {σ : L2.St} {H : Hp} {D : Ends} {tu : TS} {ta : TA} {j n : Nat} {a b c : Int} (h : EvA ta σ H [.int a, .int b, .int c]) (hr : RgC a b c n) (Pv : Nat → L2.St → Hp → Prop) (h0 : ∀ H1, Ex H H1 → Pv 0 σ H1)
    (hs : ∀ i σ' H', i < n → Pv i σ' H' → tu { nx := Pv (i + 1), rt := D.rt, bk := D.nx, ct := Pv (i + 1) } (σ'.set j (some (.int (a + (i : Nat) * c)))) H') (hd : ∀ σ' H', Pv n σ' H' → D.nx σ' H') : tFor (iRng3 ta) (gName j) tu D σ H :=
  h H (Ex.refl H) _ fun H1 e1 => ⟨a, b, c, n, rfl, hr, for_rangeC Pv (h0 H1 e1) hs hd⟩
theorem q_forRC {σ : L2.St} {H : Hp} {D : Ends} {tu tz : TS} {ta : TA} {j n : Nat} {a b c : Int} (h : EvA ta σ H [.int a, .int b, .int c]) (hr : RgC a b c n) (Pv : Nat → L2.St → Hp → Prop) (h0 : ∀ H1, Ex H H1 → Pv 0 σ H1)
    (hs : ∀ i σ' H', i < n → Pv i σ' H' → tu { nx := Pv (i + 1), rt := D.rt, bk := tz D, ct := Pv (i + 1) } (σ'.set j (some (.int (a + (i : Nat) * c)))) H') (hd : ∀ σ' H', Pv n σ' H' → tz D σ' H') : tSeq (tFor (iRng3 ta) (gName j) tu) tz D σ H :=
  h H (Ex.refl H) _ fun H1 e1 => ⟨a, b, c, n, rfl, hr, for_rangeC Pv (h0 H1 e1) hs hd⟩
theorem el_lcC {σ : L2.St} {H : Hp} {ta : TA} {te : TE} {vs : List Nat} {j n : Nat} {a b c : Int} (zs : List V) (h1 : EvA ta σ H [.int a, .int b, .int c]) (hr : RgC a b c n) (hz : zs.length = n) (hb : zs.length ≤ 50000) (hw : ∀ x, wipe ((wipe σ vs).set j (some x)) vs = wipe σ vs)
    (he : ∀ (i : Nat) H1, Ex H H1 → i < n → ∃ z, zs[i]? = some z ∧ Ev te ((wipe σ vs).set j (some (.int (a + (i : Nat) * c)))) H1 z) : EvL (tLc (iRng3 ta) (gName j) tYes te vs) σ H zs := fun H0 e Q q =>
  h1 H0 e _ fun H1 e1 => ⟨a, b, c, n, rfl, hr, fun D hD => lc_it walk_rangeC (fun i H' => Ex H1 H' ∧ H' D = some (.lst (zs.take i))) ⟨Ex.new hD, upd_same⟩ (fun _ _ _ _ => trivial) (by
    rintro i x H' H'' hi ⟨ex, hd⟩ ⟨rfl, rfl⟩
    obtain ⟨z, hz1, hz2⟩ := he i H'' ((e.trans e1).trans ex) hi
    refine ⟨hw _, ?_⟩
    refine hz2 _ (Ex.refl _) _ fun H4 e4 => ⟨zs.take i, e4 _ _ hd, sz_lt (by rw [List.length_take]; omega), ?_, ?_⟩
    · exact Ex.mut (ex.trans e4) hD
    · rw [upd_same, take_snoc hz1]) fun H' ⟨ex, hd⟩ => by
      rw [← hz, List.take_length] at hd
      exact q D H' (fresh_back e1 hD) (e1.trans ex) hd⟩
theorem rs_m6 (i : Int) (n : Nat) : Builtin.Range.rangeSize i (i - 6 * n) (-6) = (n : Int) := by
  unfold Builtin.Range.rangeSize
  rw [if_neg (by decide), show (-(-6) : Int) = 6 from rfl]
  split <;> omega
theorem rg_m6 {i : Int} {n : Nat} (hi : -(2 ^ 60) ≤ i ∧ i < 2 ^ 60) (hn : n ≤ 100000) : RgC i (i - 6 * n) (-6) n := by
  refine ⟨by decide, by decide, ?_, rs_m6 i n⟩
  unfold Builtin.Range.small
  rw [rs_m6]
  simp only [Builtin.Range.rangeFitsLong, Bool.and_eq_true, Bool.or_eq_true, decide_eq_true_eq, beq_iff_eq, show ¬ ((-6 : Int) > 0) by decide, if_false]
  omega
theorem rs_m8 (i : Int) (n : Nat) : Builtin.Range.rangeSize i (i - 8 * n) (-8) = (n : Int) := by
  unfold Builtin.Range.rangeSize
  rw [if_neg (by decide), show (-(-8) : Int) = 8 from rfl]
  split <;> omega
theorem rg_m8 {i : Int} {n : Nat} (hi : -(2 ^ 60) ≤ i ∧ i < 2 ^ 60) (hn : n ≤ 100000) : RgC i (i - 8 * n) (-8) n := by
  refine ⟨by decide, by decide, ?_, rs_m8 i n⟩
  unfold Builtin.Range.small
  rw [rs_m8]
  simp only [Builtin.Range.rangeFitsLong, Bool.and_eq_true, Bool.or_eq_true, decide_eq_true_eq, beq_iff_eq, show ¬ ((-8 : Int) > 0) by decide, if_false]
  omega
theorem rs_8 (i : Int) (n : Nat) : Builtin.Range.rangeSize i (i + 8 * n) (8) = (n : Int) := by
  unfold Builtin.Range.rangeSize
  rw [if_pos (by decide)]
  split <;> omega
theorem rg_8 {i : Int} {n : Nat} (hi : -(2 ^ 60) ≤ i ∧ i < 2 ^ 60) (hn : n ≤ 100000) : RgC i (i + 8 * n) (8) n := by
  refine ⟨by decide, by decide, ?_, rs_8 i n⟩
  unfold Builtin.Range.small
  rw [rs_8]
  simp only [Builtin.Range.rangeFitsLong, Bool.and_eq_true, Bool.or_eq_true, decide_eq_true_eq, beq_iff_eq, show ((8 : Int) > 0) by decide, if_true]
  omega
theorem rs_18 (i : Int) (n : Nat) : Builtin.Range.rangeSize i (i + 18 * n) (18) = (n : Int) := by
  unfold Builtin.Range.rangeSize
  rw [if_pos (by decide)]
  split <;> omega
theorem rg_18 {i : Int} {n : Nat} (hi : -(2 ^ 60) ≤ i ∧ i < 2 ^ 60) (hn : n ≤ 100000) : RgC i (i + 18 * n) (18) n := by
  refine ⟨by decide, by decide, ?_, rs_18 i n⟩
  unfold Builtin.Range.small
  rw [rs_18]
  simp only [Builtin.Range.rangeFitsLong, Bool.and_eq_true, Bool.or_eq_true, decide_eq_true_eq, beq_iff_eq, show ((18 : Int) > 0) by decide, if_true]
  omega
theorem rs_12 (i : Int) (n : Nat) : Builtin.Range.rangeSize i (i + 12 * n) (12) = (n : Int) := by
  unfold Builtin.Range.rangeSize
  rw [if_pos (by decide)]
  split <;> omega
theorem rg_12 {i : Int} {n : Nat} (hi : -(2 ^ 60) ≤ i ∧ i < 2 ^ 60) (hn : n ≤ 100000) : RgC i (i + 12 * n) (12) n := by
  refine ⟨by decide, by decide, ?_, rs_12 i n⟩
  unfold Builtin.Range.small
  rw [rs_12]
  simp only [Builtin.Range.rangeFitsLong, Bool.and_eq_true, Bool.or_eq_true, decide_eq_true_eq, beq_iff_eq, show ((12 : Int) > 0) by decide, if_true]
  omega

theorem s_ext {σ : L2.St} {H : Hp} {ta te : TE} {D : Ends} {l : Addr} {xs zs : List V} (hl : H l = some (.lst xs)) (ha : Ev ta σ H (.ref l)) (he : EvR te σ H zs) (hs : xs.length + zs.length ≤ 100000) (k : ∀ H1, Ex H H1 → D.nx σ (upd H1 l (.lst (xs ++ zs)))) : tDrop (tBM K "list" rExtend ta (tCons te tNil)) D σ H :=
  ha H (Ex.refl H) _ fun H1 e1 => ⟨.inl ⟨rfl, _, sq_of (e1 _ _ hl)⟩, he H1 e1 _ fun b H2 e2 g2 => ⟨l, b, xs, zs, rfl, rfl, (e1.trans e2) _ _ hl, g2, sz_of hs, k H2 (e1.trans e2)⟩⟩
theorem q_ext {σ : L2.St} {H : Hp} {ta te : TE} {D : Ends} {tz : TS} {l : Addr} {xs zs : List V} (hl : H l = some (.lst xs)) (ha : Ev ta σ H (.ref l)) (he : EvR te σ H zs) (hs : xs.length + zs.length ≤ 100000) (k : ∀ H1, Ex H H1 → tz D σ (upd H1 l (.lst (xs ++ zs)))) : tSeq (tDrop (tBM K "list" rExtend ta (tCons te tNil))) tz D σ H := s_ext (D := { D with nx := tz D }) hl ha he hs k

/-! ### code points and their bytes -/
def ptN (p : Nat) : Nat := if p < 128 then 1 else if p < 2048 then 2 else if p < 65536 then 3 else 4
def ptB (p : Nat) : List Nat := if p < 128 then [p] else if p < 2048 then [192 + p / 64, 128 + p % 64] else if p < 65536 then [224 + p / 4096, 128 + p / 64 % 64, 128 + p % 64] else [240 + p / 262144, 128 + p / 4096 % 64, 128 + p / 64 % 64, 128 + p % 64]
theorem ptB_len (p : Nat) : (ptB p).length = ptN p := by unfold ptB ptN; split; rfl; split; rfl; split <;> rfl
theorem ptN_bd (p : Nat) : 1 ≤ ptN p ∧ ptN p ≤ 4 := by unfold ptN; split; omega; split; omega; split <;> omega
theorem ptB_lt {p : Nat} (h : p < 2097152) : ∀ d ∈ ptB p, d < 256 := fun d hd => by
  unfold ptB at hd
  split at hd
  · rw [List.mem_singleton.mp hd]; omega
  split at hd
  · rcases List.mem_cons.mp hd with rfl | hd
    · omega
    · rw [List.mem_singleton.mp hd]; omega
  split at hd
  · rcases List.mem_cons.mp hd with rfl | hd
    · omega
    rcases List.mem_cons.mp hd with rfl | hd
    · omega
    · rw [List.mem_singleton.mp hd]; omega
  · rcases List.mem_cons.mp hd with rfl | hd
    · omega
    rcases List.mem_cons.mp hd with rfl | hd
    · omega
    rcases List.mem_cons.mp hd with rfl | hd
    · omega
    · rw [List.mem_singleton.mp hd]; omega
def sp_pcount : Sp := fun vs H Q _ => ∃ p : Nat, vs = [.int (p : Int)] ∧ RetV (.int (ptN p : Int)) H Q
theorem ok_point_count (T : TX K mg) : FnOk P w K mg base CX0 1 T.a_point_count T.d_point_count ["point"] sp_pcount := by
  refine T.F_point_count.ok sc_point_count (fun vs H Q E h => by obtain ⟨p, rfl, _⟩ := h; rfl) (fun cdv A outer s0 H vs Q E hr h => ?_)
  obtain ⟨p, rfl, k⟩ := h
  refine ⟨_, (pss_cons (ps_if (pt_cmpR op_lt (pv 0) pe_int (nomark _)) (pss_one (ps_ret pe_int)) pss_nil)
      (pss_cons (ps_if (pt_cmpR op_lt (pv 0) pe_int (nomark _)) (pss_one (ps_ret pe_int)) pss_nil)
      (pss_cons (ps_if (pt_cmpR op_lt (pv 0) pe_int (nomark _)) (pss_one (ps_ret pe_int)) pss_nil)
      (pss_one (ps_ret pe_int))))), ?_⟩
  unfold ptN at k
  refine q_when (b := decide (p < 128)) (et_is (et_test (ev_I0 (ev_var rfl) ev_c)) (decide_eq_decide.mpr (by omega))) (fun h H1 e1 => ?_) (fun h H1 e1 => ?_)
  · rw [if_pos (of_decide_eq_true h)] at k
    exact s_ret ev_c fun H2 e2 => k.go (e1.trans e2)
  rw [if_neg (of_decide_eq_false h)] at k
  refine q_when (b := decide (p < 2048)) (et_is (et_test (ev_I0 (ev_var rfl) ev_c)) (decide_eq_decide.mpr (by omega))) (fun h H2 e2 => ?_) (fun h H2 e2 => ?_)
  · rw [if_pos (of_decide_eq_true h)] at k
    exact s_ret ev_c fun H3 e3 => k.go (e1.trans (e2.trans e3))
  rw [if_neg (of_decide_eq_false h)] at k
  refine q_when (b := decide (p < 65536)) (et_is (et_test (ev_I0 (ev_var rfl) ev_c)) (decide_eq_decide.mpr (by omega))) (fun h H3 e3 => ?_) (fun h H3 e3 => ?_)
  · rw [if_pos (of_decide_eq_true h)] at k
    exact s_ret ev_c fun H4 e4 => k.go (e1.trans (e2.trans (e3.trans e4)))
  rw [if_neg (of_decide_eq_false h)] at k
  exact s_ret ev_c fun H4 e4 => k.go (e1.trans (e2.trans (e3.trans e4)))
theorem ev_pcount {σ : L2.St} {H : Hp} {te : TE} {E : XK} {p : Nat} (h : Ev te σ H (.int (p : Int))) : Ev (tCall sp_pcount [] E (tCons te tNil)) σ H (.int (ptN p : Int)) := ev_call (ea_cons h ea_nil) fun H1 _ Q q _ => ⟨p, rfl, q⟩
def leastN (c : Nat) : Nat := 256 - 256 / 2 ^ c
def sp_least : Sp := fun vs H Q _ => ∃ c : Nat, vs = [.int (c : Int)] ∧ RetV (.int (leastN c : Int)) H Q
theorem ok_least_first (T : TX K mg) : FnOk P w K mg base CX0 1 T.a_least_first T.d_least_first ["count"] sp_least := by
  refine T.F_least_first.ok sc_least_first (fun vs H Q E h => by obtain ⟨c, rfl, _⟩ := h; rfl) (fun cdv A outer s0 H vs Q E hr h => ?_)
  obtain ⟨c, rfl, k⟩ := h
  refine ⟨_, (pss_one (ps_ret (pe_op op_sub pe_int (pe_op op_shr pe_int (pv 0))))), ?_⟩
  refine s_ret (v := .int (leastN c : Int)) (Ev.is (ev_I0 ev_c (ev_I ev_c (ev_var rfl) (by show (0 : Int) ≤ _; omega))) (congrArg V.int ?_)) k
  rw [Int.toNat_natCast, p2n]
  have h1 : (256 : Int) / ((2 ^ c : Nat) : Int) = ((256 / 2 ^ c : Nat) : Int) := by rw [Int.natCast_ediv]; rfl
  have h2 : 256 / 2 ^ c ≤ 256 := Nat.div_le_self _ _
  unfold leastN
  omega
theorem ev_least {σ : L2.St} {H : Hp} {te : TE} {E : XK} {c : Nat} (h : Ev te σ H (.int (c : Int))) : Ev (tCall sp_least [] E (tCons te tNil)) σ H (.int (leastN c : Int)) := ev_call (ea_cons h ea_nil) fun H1 _ Q q _ => ⟨c, rfl, q⟩
theorem and_mask63 (x : Nat) : Builtin.bitAnd (x : Int) 63 = ((x % 64 : Nat) : Int) := by
  have h := _root_.Bits.bitAnd_mask (x := (x : Int)) 6 (by omega)
  have e : (2 : Int) ^ 6 - 1 = 63 := rfl
  rw [e] at h
  rw [h]
  have e2 : (2 : Int) ^ 6 = 64 := rfl
  rw [e2]
  omega
theorem ev_shrN {σ : L2.St} {H : Hp} {t1 t2 : TE} {x j : Nat} (h1 : Ev t1 σ H (.int (x : Int))) (h2 : Ev t2 σ H (.int (j : Int))) : Ev (tOp (rI (fun _ j => 0 ≤ j) fun i j => .int (i / 2 ^ j.toNat)) t1 t2) σ H (.int ((x / 2 ^ j : Nat) : Int)) :=
  Ev.is (ev_I h1 h2 (by omega)) (congrArg V.int (show (x : Int) / 2 ^ (j : Int).toNat = ((x / 2 ^ j : Nat) : Int) by rw [Int.toNat_natCast, p2n, Int.natCast_ediv]))
theorem ev_and63 {σ : L2.St} {H : Hp} {te : TE} {x : Nat} (h : Ev te σ H (.int (x : Int))) : Ev (tOp (rI0 fun i j => .int (Builtin.bitAnd i j)) te (tC (.int 63))) σ H (.int ((x % 64 : Nat) : Int)) := Ev.is (ev_I0 h ev_c) (congrArg V.int (and_mask63 x))
def sp_pbytes : Sp := fun vs H Q _ => ∃ p : Nat, vs = [.int (p : Int)] ∧ p < 2097152 ∧ RetL ((cs (ptB p)).map V.int) H Q
theorem ptB_many {p n : Nat} (hn : ptN p = n + 2) : ptB p = (List.range (n + 2)).map fun i => if i = 0 then leastN (n + 2) + p / 2 ^ (6 * (n + 1)) else 128 + p / 2 ^ (6 * (n + 1 - i)) % 64 := by
  have h4 := ptN_bd p
  have : n = 0 ∨ n = 1 ∨ n = 2 := by omega
  unfold ptN at hn
  unfold ptB
  rcases this with rfl | rfl | rfl
  · have h : ¬ p < 128 ∧ p < 2048 := by split at hn; omega; split at hn; omega; split at hn <;> omega
    rw [if_neg h.1, if_pos h.2]
    show _ = [leastN 2 + p / 64, 128 + p / 1 % 64]
    rw [Nat.div_one]
    rfl
  · have h : ¬ p < 128 ∧ ¬ p < 2048 ∧ p < 65536 := by split at hn; omega; split at hn; omega; split at hn <;> omega
    rw [if_neg h.1, if_neg h.2.1, if_pos h.2.2]
    show _ = [leastN 3 + p / 4096, 128 + p / 64 % 64, 128 + p / 1 % 64]
    rw [Nat.div_one]
    rfl
  · have h : ¬ p < 128 ∧ ¬ p < 2048 ∧ ¬ p < 65536 := by split at hn; omega; split at hn; omega; split at hn <;> omega
    rw [if_neg h.1, if_neg h.2.1, if_neg h.2.2]
    show _ = [leastN 4 + p / 262144, 128 + p / 4096 % 64, 128 + p / 64 % 64, 128 + p / 1 % 64]
    rw [Nat.div_one]
    rfl
theorem ok_point_bytes (T : TX K mg) : FnOk P w K mg base CX0 2 T.a_point_bytes T.d_point_bytes ["point"] sp_pbytes := by
  refine T.F_point_bytes.ok sc_point_bytes (fun vs H Q E h => by obtain ⟨p, rfl, _⟩ := h; rfl) (fun cdv A outer s0 H vs Q E hr h => ?_)
  obtain ⟨p, rfl, hp, k⟩ := h
  refine ⟨_, (pss_cons (ps_set (i := 1) sc_point_bytes.nd rfl (Or.inl rfl) (pe_call (ok_point_count T) (hr.mono (by decide)) (by rfl) T.g_point_count T.F_point_count.kp T.b_point_count .nil pass0 (pa_cons (pv 0) pa_nil)))
      (pss_cons (ps_if (pt_cmpR op_eq (pv 1) pe_int (nomark _)) (pss_one (ps_ret (pe_lst (pa_cons (pv 0) pa_nil)))) pss_nil)
      (pss_cons (ps_set (i := 2) sc_point_bytes.nd rfl (Or.inl rfl) (pe_lst (pa_cons (pe_op op_add (pe_call (ok_least_first T) (hr.mono (by decide)) (by rfl) T.g_least_first T.F_least_first.kp T.b_least_first .nil pass0 (pa_cons (pv 1) pa_nil)) (pe_op op_shr (pv 0) (pe_op op_sub (pe_op op_mul pe_int (pv 1)) pe_int))) pa_nil)))
      (pss_cons (ps_for PassesOwn.never rfl (pi_range3 (by rfl) T.m_range (pa_cons (pe_op op_sub (pe_op op_mul pe_int (pv 1)) pe_int) (pa_cons (pe_un un_neg pe_int) (pa_cons (pe_un un_neg pe_int) pa_nil)))) (pg_name (i := 3) sc_point_bytes.nd rfl (Or.inl rfl)) (pss_one (ps_expr (pe_bm PySem.F.plainAttrs_list PySem.F.slot_list_append PySem.F.type_list_append mt_append (pv 2) (pa_cons (pe_op op_add pe_int (pe_op op_and (pe_op op_shr (pv 0) (pv 3)) pe_int)) pa_nil)))))
      (pss_one (ps_ret (pv 2))))))), ?_⟩
  refine q_asg (ev_pcount (ev_var rfl)) fun H1 e1 => ?_
  have h4 := ptN_bd p
  refine q_when (b := decide (ptN p = 1)) (et_is (et_test (ev_eq (ev_var rfl) ev_c rfl)) (by rw [decide_eq_decide]; exact ⟨fun h => by have := V.int.inj h; omega, fun h => by rw [h]; rfl⟩)) (fun h H2 e2 => ?_) (fun h H2 e2 => ?_)
  · have h : ptN p = 1 := of_decide_eq_true h
    have hb : ptB p = [p] := by unfold ptN at h; unfold ptB; split at h; rw [if_pos (by assumption)]; split at h; omega; split at h <;> omega
    rw [hb] at k
    exact s_retL (el_lst (ea_cons (ev_var rfl) ea_nil) (Nat.le_of_ble_eq_true rfl)) fun q H3 hq e3 g3 => k.go (e1.trans e2) hq e3 g3
  have h : ¬ ptN p = 1 := of_decide_eq_false h
  obtain ⟨n, hn⟩ : ∃ n, ptN p = n + 2 := ⟨ptN p - 2, by omega⟩
  rw [ptB_many hn] at k
  rw [hn]
  generalize hg : (fun i => if i = 0 then leastN (n + 2) + p / 2 ^ (6 * (n + 1)) else 128 + p / 2 ^ (6 * (n + 1 - i)) % 64) = g at k
  have g0 : g 0 = leastN (n + 2) + p / 2 ^ (6 * (n + 1)) := by rw [← hg]; rfl
  have g1 : ∀ i, g (i + 1) = 128 + p / 2 ^ (6 * (n - i)) % 64 := fun i => by rw [← hg]; show 128 + p / 2 ^ (6 * (n + 1 - (i + 1))) % 64 = _; rw [show n + 1 - (i + 1) = n - i by omega]
  refine q_asgL (xs := (cs ((List.range 1).map g)).map V.int) (EvL.is (el_lst (ea_cons (Ev.is (ev_I0 (ev_least (ev_var rfl)) (ev_shrN (j := 6 * (n + 1)) (ev_var rfl) (Ev.is (ev_I0 (ev_I ev_c (ev_var rfl) (.inl (by decide))) ev_c) (congrArg V.int (by omega))))) (congrArg V.int (show _ = ((g 0 : Nat) : Int) by rw [g0]; omega))) ea_nil) (Nat.le_of_ble_eq_true rfl)) rfl) fun q H3 hq e3 g3 => ?_
  have hqH := fresh_back (e1.trans e2) hq
  refine q_forRC (n := n + 1) (a := 6 * ((n : Int) + 2) - 12) (b := -6) (c := -6) (ea_cons (Ev.is (ev_I0 (ev_I ev_c (ev_var rfl) (.inl (by decide))) ev_c) (congrArg V.int (by omega))) (ea_cons (ev_negI ev_c) (ea_cons (ev_negI ev_c) ea_nil))) (by have := rg_m6 (i := 6 * ((n : Int) + 2) - 12) (n := n + 1) (by omega) (by omega); rwa [show 6 * ((n : Int) + 2) - 12 - 6 * ((n + 1 : Nat) : Int) = -6 by omega] at this) (fun i σ' H' => ∃ z, σ' = [some (.int (p : Int)), some (.int ((n + 2 : Nat) : Int)), some (.ref q), z] ∧ Ex H H' ∧ H' q = some (.lst ((cs ((List.range (i + 1)).map g)).map V.int))) (fun H4 e4 => ⟨none, rfl, (e1.trans e2).trans (e3.trans e4), e4 _ _ g3⟩) ?_ ?_
  · rintro i σ' H4 hi ⟨z, rfl, ex, gq⟩
    have hsh : 6 * ((n : Int) + 2) - 12 + (i : Int) * (-6) = ((6 * (n - i) : Nat) : Int) := by omega
    refine s_app (v := .int ((g (i + 1) : Nat) : Int)) gq (ev_var rfl) (Ev.is (ev_I0 ev_c (ev_and63 (ev_shrN (j := 6 * (n - i)) (ev_var rfl) (Ev.is (ev_var rfl) (congrArg V.int hsh))))) (congrArg V.int (by rw [g1]; omega))) (by rw [List.length_map, cs_len, List.length_map, List.length_range]; omega) fun H5 e5 => ⟨_, rfl, Ex.mut (ex.trans e5) hqH, ?_⟩
    rw [upd_same, List.range_succ (n := i + 1), List.map_append, cs_append, List.map_append]
    rfl
  · rintro σ' H4 ⟨z, rfl, ex, gq⟩
    exact s_ret (v := .ref q) (ev_var rfl) fun H5 e5 => k q H5 hqH (ex.trans e5) (e5 _ _ gq)
theorem el_pbytes {σ : L2.St} {H : Hp} {te : TE} {E : XK} {p : Nat} (h : Ev te σ H (.int (p : Int))) (hp : p < 2097152) : EvL (tCall sp_pbytes [] E (tCons te tNil)) σ H ((cs (ptB p)).map V.int) := el_call (ea_cons h ea_nil) fun H1 _ Q q _ => ⟨p, rfl, hp, q⟩
def utfB (ts : List Nat) : List Nat := ts.flatMap ptB
theorem utfB_len (ts : List Nat) : ts.length ≤ (utfB ts).length ∧ (utfB ts).length ≤ 4 * ts.length := by
  induction ts with
  | nil => exact ⟨Nat.le_refl _, Nat.le_refl _⟩
  | cons t r ih =>
    have := ptN_bd t
    show (t :: r).length ≤ (ptB t ++ utfB r).length ∧ (ptB t ++ utfB r).length ≤ 4 * (t :: r).length
    rw [List.length_append, ptB_len, List.length_cons]
    omega
theorem utfB_snoc {ts : List Nat} {i p : Nat} (h : ts[i]? = some p) : utfB (ts.take (i + 1)) = utfB (ts.take i) ++ ptB p := by
  unfold utfB
  rw [show ts.take (i + 1) = ts.take i ++ [p] from by rw [List.take_add_one, h]; rfl, List.flatMap_append]
  show _ ++ (ptB p ++ []) = _
  rw [List.append_nil]
theorem utfB_lt {ts : List Nat} (h : ∀ t ∈ ts, t < 2097152) : ∀ d ∈ utfB ts, d < 256 := fun d hd => by
  obtain ⟨t, ht, hd⟩ := List.mem_flatMap.mp hd
  exact ptB_lt (h t ht) d hd
theorem cs_get {ds : List Nat} {i : Nat} {x : V} (hx : ((cs ds).map V.int)[i]? = some x) : ∃ d, ds[i]? = some d ∧ i < ds.length ∧ x = V.int (d : Int) := by
  obtain ⟨n, hn, hi, rfl⟩ := int_at hx
  unfold cs at hn
  rw [List.getElem?_map] at hn
  cases e : ds[i]? with
  | none => rw [e] at hn; cases hn
  | some d =>
    rw [e] at hn
    exact ⟨d, rfl, (List.getElem?_eq_some_iff.mp e).1, by rw [← Option.some.inj hn]⟩
def sp_wutf (K : PySem.W.Frag) : Sp := fun vs H Q _ => ∃ (a : Addr) (ts : List Nat), vs = [.ref a] ∧ SqL K H a ((cs ts).map V.int) ∧ ts.length ≤ 10000 ∧ (∀ t ∈ ts, t < 2097152) ∧ RetL ((cs (utfB ts)).map V.int) H Q
theorem ok_write_utf8 (T : TX K mg) : FnOk P w K mg base CX0 3 T.a_write_utf8 T.d_write_utf8 ["text"] (sp_wutf K) := by
  refine T.F_write_utf8.ok sc_write_utf8 (fun vs H Q E h => by obtain ⟨a, ts, rfl, _⟩ := h; rfl) (fun cdv A outer s0 H vs Q E hr h => ?_)
  obtain ⟨a, ts, rfl, hS, hl, ht, k⟩ := h
  refine ⟨_, (pss_cons (ps_set (i := 1) sc_write_utf8.nd rfl (Or.inl rfl) (pe_lst pa_nil))
      (pss_cons (ps_for PassesOwn.never rfl (pi_list (pv 0)) (pg_name (i := 2) sc_write_utf8.nd rfl (Or.inl rfl)) (pss_one (ps_expr (pe_bm PySem.F.plainAttrs_list PySem.F.slot_list_extend PySem.F.type_list_extend mt_extend (pv 1) (pa_cons (pe_call (ok_point_bytes T) (hr.mono (by decide)) (by rfl) T.g_point_bytes T.F_point_bytes.kp T.b_point_bytes .nil pass0 (pa_cons (pv 2) pa_nil)) pa_nil)))))
      (pss_one (ps_ret (pv 1))))), ?_⟩
  refine q_asgL (xs := []) (el_lst ea_nil (by decide)) fun q H1 hq e1 g1 => ?_
  refine q_forLn (K := K) (a := a) (ev_var rfl) (ex_l e1 hS) (fun i σ' H' => ∃ z, σ' = [some (.ref a), some (.ref q), z] ∧ Ex H H' ∧ H' q = some (.lst ((cs (utfB (ts.take i))).map V.int))) (fun H2 e2 => ⟨none, rfl, e1.trans e2, e2 _ _ g1⟩) (fun i σ' H' _ h => by obtain ⟨_, _, ex, _⟩ := h; exact ex_l ex hS) ?_ ?_
  · rintro i x σ' H2 hx ⟨z, rfl, ex, gq⟩
    obtain ⟨p, hp, hi, rfl⟩ := cs_get hx
    have h1 := utfB_len (ts.take i)
    have h2 := ptN_bd p
    rw [List.length_take] at h1
    refine s_ext gq (ev_var rfl) (EvL.r (el_pbytes (ev_var rfl) (ht p (List.mem_of_getElem? hp)))) (by rw [List.length_map, cs_len, List.length_map, cs_len, ptB_len]; omega) fun H3 e3 => ⟨_, rfl, Ex.mut (ex.trans e3) hq, ?_⟩
    rw [upd_same, utfB_snoc hp, cs_append, List.map_append]
  · rintro σ' H2 ⟨z, rfl, ex, gq⟩
    rw [List.length_map, cs_len, List.take_length] at gq
    exact s_ret (v := .ref q) (ev_var rfl) fun H3 e3 => k q H3 hq (ex.trans e3) (e3 _ _ gq)
theorem el_wutf {σ : L2.St} {H : Hp} {te : TE} {E : XK} {ts : List Nat} (h : EvS K te σ H ((cs ts).map V.int)) (hl : ts.length ≤ 10000) (ht : ∀ t ∈ ts, t < 2097152) : EvL (tCall (sp_wutf K) [] E (tCons te tNil)) σ H ((cs (utfB ts)).map V.int) := fun H1 e Q q =>
  h H1 e _ fun p H2 e2 hp => ⟨p, ts, rfl, hp, hl, ht, fun r H3 hr e3 g3 => q r H3 (fresh_back e2 hr) (e2.trans e3) g3⟩

/-! ### reading what was written -/
def cntG (d : Nat) : Nat → Nat
  | 0 => 0
  | k + 1 => if leastN (4 - k) ≤ d ∧ d < leastN (4 - k + 1) then 4 - k else cntG d k
def cntT (d : Nat) : Nat := if d < 128 then 1 else cntG d 3
/-- for x in (a, b, ..), the tuple made on the way -/
theorem q_forNTn {σ : L2.St} {H : Hp} {D : Ends} {tu tz : TS} {xs : List V} {tl : TE} {j : Nat} (h : EvU tl σ H xs) (Pv : Addr → Nat → L2.St → Hp → Prop) (h0 : ∀ p H1, H p = none → Ex H H1 → H1 p = some (.tup xs) → Pv p 0 σ H1) (hl : ∀ p i σ' H', i ≤ xs.length → Pv p i σ' H' → SqT K H' p xs)
    (hs : ∀ p i x σ' H', xs[i]? = some x → Pv p i σ' H' → tu { D with nx := Pv p (i + 1), ct := Pv p (i + 1), bk := tz D } (σ'.set j (some x)) H') (hd : ∀ p σ' H', Pv p xs.length σ' H' → tz D σ' H') : tSeq (tFor (iTup K tl) (gName j) tu) tz D σ H :=
  h H (Ex.refl H) _ fun p H1 hp e h1 => ⟨p, rfl, ⟨xs, st_of h1⟩, for_tup (D := { D with nx := tz D }) (Pv p) (h0 p H1 hp e h1) (hl p) (hs p) (hd p)⟩
def sp_told : Sp := fun vs H Q _ => ∃ d : Nat, vs = [.int (d : Int)] ∧ RetV (.int (cntT d : Int)) H Q
theorem ok_count_told (T : TX K mg) : FnOk P w K mg base CX0 2 T.a_count_told T.d_count_told ["first"] sp_told := by
  refine T.F_count_told.ok sc_count_told (fun vs H Q E h => by obtain ⟨d, rfl, _⟩ := h; rfl) (fun cdv A outer s0 H vs Q E hr h => ?_)
  obtain ⟨d, rfl, k⟩ := h
  refine ⟨_, (pss_cons (ps_if (pt_cmpR op_lt (pv 0) pe_int (nomark _)) (pss_one (ps_ret pe_int)) pss_nil)
      (pss_cons (ps_for PassesOwn.never rfl (pi_tup (pe_tup (pa_cons pe_int (pa_cons pe_int (pa_cons pe_int pa_nil))))) (pg_name (i := 1) sc_count_told.nd rfl (Or.inl rfl)) (pss_one (ps_if (pt_chain op_le op_lt (pe_call (ok_least_first T) (hr.mono (by decide)) (by rfl) T.g_least_first T.F_least_first.kp T.b_least_first .nil pass0 (pa_cons (pv 1) pa_nil)) (pv 0) (pe_call (ok_least_first T) (hr.mono (by decide)) (by rfl) T.g_least_first T.F_least_first.kp T.b_least_first .nil pass0 (pa_cons (pe_op op_add (pv 1) pe_int) pa_nil))) (pss_one (ps_ret (pv 1))) pss_nil)))
      (pss_one (ps_ret pe_int)))), ?_⟩
  unfold cntT at k
  refine q_when (b := decide (d < 128)) (et_is (et_test (ev_I0 (ev_var rfl) ev_c)) (decide_eq_decide.mpr (by omega))) (fun h H1 e1 => ?_) (fun h H1 e1 => ?_)
  · rw [if_pos (of_decide_eq_true h)] at k
    exact s_ret ev_c fun H2 e2 => k.go (e1.trans e2)
  rw [if_neg (of_decide_eq_false h)] at k
  refine q_forNTn (K := K) (xs := [.int 2, .int 3, .int 4]) (eu_tup (ea_cons ev_c (ea_cons ev_c (ea_cons ev_c ea_nil))) (by decide)) (fun p i σ' H' => ∃ z, σ' = [some (.int (d : Int)), z] ∧ Ex H H' ∧ H' p = some (.tup [.int 2, .int 3, .int 4]) ∧ cntG d 3 = cntG d (3 - i)) (fun p H2 hp e2 g2 => ⟨none, rfl, e1.trans e2, g2, rfl⟩) (fun p i σ' H' _ h => by obtain ⟨_, _, _, g, _⟩ := h; exact st_of g) ?_ ?_
  · rintro p i x σ' H2 hx ⟨z, rfl, ex, g, hc⟩
    have hi : i < 3 ∧ x = .int ((2 + i : Nat) : Int) := by
      match i, hx with
      | 0, hx => exact ⟨by decide, (Option.some.inj hx).symm⟩
      | 1, hx => exact ⟨by decide, (Option.some.inj hx).symm⟩
      | 2, hx => exact ⟨by decide, (Option.some.inj hx).symm⟩
      | i + 3, hx => simp at hx
    obtain ⟨hi, rfl⟩ := hi
    have hst : cntG d (3 - i) = if leastN (2 + i) ≤ d ∧ d < leastN (2 + i + 1) then 2 + i else cntG d (3 - (i + 1)) := by
      rw [show 3 - i = (2 - i) + 1 by omega]
      show (if leastN (4 - (2 - i)) ≤ d ∧ d < leastN (4 - (2 - i) + 1) then 4 - (2 - i) else cntG d (2 - i)) = _
      rw [show 4 - (2 - i) = 2 + i by omega, show 2 - i = 3 - (i + 1) by omega]
    refine s_when (b := decide (leastN (2 + i) ≤ d ∧ d < leastN (2 + i + 1))) (et_is (et_test (ev_chain (ev_least (ev_var rfl)) (ev_var rfl) (ev_least (c := 2 + i + 1) (Ev.is (ev_I0 (ev_var rfl) ev_c) (congrArg V.int (by omega)))))) ?_) (fun h H3 e3 => ?_) (fun h H3 e3 => ?_)
    · rw [Bool.eq_iff_iff, Bool.and_eq_true, decide_eq_true_iff, decide_eq_true_iff, decide_eq_true_iff]
      omega
    · rw [hc, hst, if_pos (of_decide_eq_true h)] at k
      exact s_ret (ev_var rfl) fun H4 e4 => k.go (ex.trans (e3.trans e4))
    · exact ⟨_, rfl, ex.trans e3, e3 _ _ g, by rw [hc, hst, if_neg (of_decide_eq_false h)]⟩
  · rintro p σ' H2 ⟨z, rfl, ex, g, hc⟩
    have hc : cntG d 3 = 0 := hc
    rw [hc] at k
    exact s_ret ev_c fun H3 e3 => k.go (ex.trans e3)
theorem ev_told {σ : L2.St} {H : Hp} {te : TE} {E : XK} {d : Nat} (h : Ev te σ H (.int (d : Int))) : Ev (tCall sp_told [] E (tCons te tNil)) σ H (.int (cntT d : Int)) := ev_call (ea_cons h ea_nil) fun H1 _ Q q _ => ⟨d, rfl, q⟩
def ptOk (p : Nat) : Prop := p ≤ 1114111 ∧ ¬ (55296 ≤ p ∧ p ≤ 57343)
theorem ptB_head {p : Nat} (h : p ≤ 1114111) : ∃ d, (ptB p)[0]? = some d ∧ cntT d = ptN p := by
  unfold ptB ptN
  by_cases h1 : p < 128
  · rw [if_pos h1, if_pos h1]
    exact ⟨p, rfl, by unfold cntT; rw [if_pos h1]⟩
  rw [if_neg h1, if_neg h1]
  have l2 : leastN 2 = 192 := rfl
  have l3 : leastN 3 = 224 := rfl
  have l4 : leastN 4 = 240 := rfl
  have l5 : leastN 5 = 248 := rfl
  have hG : ∀ d, cntG d 3 = if 192 ≤ d ∧ d < 224 then 2 else if 224 ≤ d ∧ d < 240 then 3 else if 240 ≤ d ∧ d < 248 then 4 else 0 := fun d => rfl
  by_cases h2 : p < 2048
  · rw [if_pos h2, if_pos h2]
    refine ⟨_, rfl, ?_⟩
    unfold cntT
    rw [if_neg (by omega), hG, if_pos (by omega)]
  rw [if_neg h2, if_neg h2]
  by_cases h3 : p < 65536
  · rw [if_pos h3, if_pos h3]
    refine ⟨_, rfl, ?_⟩
    unfold cntT
    rw [if_neg (by omega), hG, if_neg (by omega), if_pos (by omega)]
  rw [if_neg h3, if_neg h3]
  refine ⟨_, rfl, ?_⟩
  unfold cntT
  rw [if_neg (by omega), hG, if_neg (by omega), if_neg (by omega), if_pos (by omega)]
theorem or_join6 (q : Nat) : Builtin.bitOr (((q / 64 : Nat) : Int) * 2 ^ (6 : Int).toNat) ((q % 64 : Nat) : Int) = (q : Int) := by
  have h := _root_.Bits.bitOr_join' (a := ((q % 64 : Nat) : Int)) (b := ((q / 64 : Nat) : Int)) (k := 6) (by omega) (by show _ < ((2 : Int) ^ 6); have e : ((2 : Int) ^ 6) = 64 := rfl; omega) (by omega)
  have e : (6 : Int).toNat = 6 := rfl
  rw [e, h]
  have e2 : ((2 : Int) ^ 6) = 64 := rfl
  omega
def sp_rpoint (K : PySem.W.Frag) : Sp := fun vs H Q _ => ∃ (a : Addr) (ds : List Nat) (pl p : Nat), vs = [.ref a, .int (pl : Int), .int (ptN p : Int)] ∧ SqL K H a ((cs ds).map V.int) ∧ (ds.drop pl).take (ptN p) = ptB p ∧ ptOk p ∧ RetV (.int (p : Int)) H Q
theorem ok_read_point (T : TX K mg) : FnOk P w K mg base CX0 2 T.a_read_point T.d_read_point ["data", "place", "count"] (sp_rpoint K) := by
  refine T.F_read_point.ok sc_read_point (fun vs H Q E h => by obtain ⟨a, ds, pl, p, rfl, _⟩ := h; rfl) (fun cdv A outer s0 H vs Q E hr h => ?_)
  obtain ⟨a, ds, pl, p, rfl, hS, hds, hp, k⟩ := h
  refine ⟨_, (pss_cons (ps_if (pt_cmpR op_eq (pv 2) pe_int (nomark _)) (pss_one (ps_ret (pe_ix (r := rIxL K) ix_list (pv 0) (pv 1) (fun _ _ => rfl)))) pss_nil)
      (pss_cons (ps_set (i := 3) sc_read_point.nd rfl (Or.inl rfl) (pe_op op_sub (pe_ix (r := rIxL K) ix_list (pv 0) (pv 1) (fun _ _ => rfl)) (pe_call (ok_least_first T) (hr.mono (by decide)) (by rfl) T.g_least_first T.F_least_first.kp T.b_least_first .nil pass0 (pa_cons (pv 2) pa_nil))))
      (pss_cons (ps_for PassesOwn.never rfl (pi_list (pe_slice (r := rSlL K) sl_list (pv 0) (po_some (pe_op op_add (pv 1) pe_int)) (po_some (pe_op op_add (pv 1) (pv 2))))) (pg_name (i := 4) sc_read_point.nd rfl (Or.inl rfl)) (pss_cons (ps_if (PW.pt (pw_or (pt_cmpR op_lt (pv 4) pe_int (nomark _)) (pw_or1 (pt_cmpR op_gt (pv 4) pe_int (nomark _))))) (pss_one ps_never) pss_nil)
        (pss_one (ps_set (i := 3) sc_read_point.nd rfl (Or.inl rfl) (pe_op op_or (pe_op op_shl (pv 3) pe_int) (pe_op op_sub (pv 4) pe_int))))))
      (pss_cons (ps_if (PW.pt (pw_or (pt_cmpR op_gt (pv 3) pe_int (nomark _)) (pw_or (pt_chain op_le op_le pe_int (pv 3) pe_int) (pw_or1 (pt_cmpR op_lt (pe_call (ok_point_count T) (hr.mono (by decide)) (by rfl) T.g_point_count T.F_point_count.kp T.b_point_count .nil pass0 (pa_cons (pv 3) pa_nil)) (pv 2) (nomark _)))))) (pss_one ps_never) pss_nil)
      (pss_one (ps_ret (pv 3))))))), ?_⟩
  have hp1 : p ≤ 1114111 := hp.1
  have h4 := ptN_bd p
  have at_ : ∀ i, i < ptN p → ds[pl + i]? = (ptB p)[i]? := fun i hi => by
    rw [← hds, List.getElem?_take, if_pos hi, List.getElem?_drop]
  have byte : ∀ {σ : L2.St} {H' : Hp} {d : Nat}, σ[0]? = some (some (.ref a)) → σ[1]? = some (some (.int (pl : Int))) → Ex H H' → ds[pl]? = some d → Ev (tOp (rIxL K) (tVar 0) (tVar 1)) σ H' (.int (d : Int)) := fun h1 h2 e hd => ev_ixS (i := 0) (n := (pl : Int)) (Ev.s (ev_var h1) (ex_l e hS)) (ev_var h2) (at_of (j := pl) rfl (at_int (cs_at hd)))
  refine q_when (b := decide (ptN p = 1)) (et_is (et_test (ev_eq (ev_var rfl) ev_c rfl)) (by rw [decide_eq_decide]; exact ⟨fun h => by have := V.int.inj h; omega, fun h => by rw [h]; rfl⟩)) (fun h H1 e1 => ?_) (fun h H1 e1 => ?_)
  · have h : ptN p = 1 := of_decide_eq_true h
    have hb : ptB p = [p] := by unfold ptN at h; unfold ptB; split at h; rw [if_pos (by assumption)]; split at h; omega; split at h <;> omega
    have h0 := at_ 0 (by omega)
    rw [hb] at h0
    exact s_ret (byte rfl rfl e1 h0) fun H2 e2 => k.go (e1.trans e2)
  have h : ¬ ptN p = 1 := of_decide_eq_false h
  obtain ⟨n, hn⟩ : ∃ n, ptN p = n + 2 := ⟨ptN p - 2, by omega⟩
  have hmany := ptB_many hn
  have h0 : ds[pl]? = some (leastN (n + 2) + p / 2 ^ (6 * (n + 1))) := by
    have := at_ 0 (by omega)
    rw [Nat.add_zero, hmany] at this
    rw [this, List.getElem?_map, List.getElem?_range (by omega)]
    rfl
  rw [hn]
  refine q_asg (v := .int ((p / 2 ^ (6 * (n + 1)) : Nat) : Int)) (Ev.is (ev_I0 (byte rfl rfl e1 h0) (ev_least (ev_var rfl))) (congrArg V.int (by omega))) fun H2 e2 => ?_
  have e12 := e1.trans e2
  have hsl : (((cs ds).drop (pl + 1)).take (n + 1)) = cs ((ptB p).drop 1) := by
    rw [cs_drop, cs_take, ← hds, hn, List.drop_take, List.drop_drop]
    rfl
  refine q_forNLn (K := K) (xs := (cs ((ptB p).drop 1)).map V.int) (EvL.is (el_mid (i := pl + 1) (j := pl + (n + 2)) (Ev.s (ev_var rfl) (ex_l e12 hS)) (Ev.is (ev_I0 (ev_var rfl) ev_c) (congrArg V.int (by omega))) (Ev.is (ev_I0 (ev_var rfl) (ev_var rfl)) (congrArg V.int (by omega)))) (by rw [show pl + (n + 2) - (pl + 1) = n + 1 by omega, hsl])) (fun q i σ' H' => ∃ z, σ' = [some (.ref a), some (.int (pl : Int)), some (.int ((n + 2 : Nat) : Int)), some (.int ((p / 2 ^ (6 * (n + 1 - i)) : Nat) : Int)), z] ∧ Ex H H' ∧ H' q = some (.lst ((cs ((ptB p).drop 1)).map V.int))) (fun q H3 hq e3 g3 => ⟨none, rfl, e12.trans e3, g3⟩) (fun q i σ' H' _ h => by obtain ⟨_, _, _, g⟩ := h; exact sq_of g) ?_ ?_
  · rintro q i x σ' H3 hx ⟨z, rfl, ex, gq⟩
    obtain ⟨d, hd, hi, rfl⟩ := cs_get hx
    rw [List.length_drop, ptB_len, hn] at hi
    have hd' : d = 128 + p / 2 ^ (6 * (n - i)) % 64 := by
      rw [List.getElem?_drop, hmany, List.getElem?_map, List.getElem?_range (by omega)] at hd
      have : (if 1 + i = 0 then leastN (n + 2) + p / 2 ^ (6 * (n + 1)) else 128 + p / 2 ^ (6 * (n + 1 - (1 + i))) % 64) = d := Option.some.inj hd
      rw [if_neg (by omega), show n + 1 - (1 + i) = n - i by omega] at this
      exact this.symm
    have hq6 : p / 2 ^ (6 * (n + 1 - i)) = p / 2 ^ (6 * (n - i)) / 64 := by
      rw [show 6 * (n + 1 - i) = 6 * (n - i) + 6 by omega, Nat.pow_add, ← Nat.div_div_eq_div_mul]
    obtain ⟨y, hy⟩ : ∃ y, p / 2 ^ (6 * (n - i)) = y := ⟨_, rfl⟩
    rw [hq6, hy]
    rw [hy] at hd'
    have hyp : y ≤ p := by rw [← hy]; exact Nat.div_le_self _ _
    refine q_when (b := false) (et_is (et_or (a := false) (b := false) (et_is (et_test (ev_I0 (ev_var rfl) ev_c)) (decide_eq_false (by omega))) fun _ => et_is (et_test (ev_I0 (ev_var rfl) ev_c)) (decide_eq_false (by omega))) rfl) (fun h => by cases h) fun _ H4 e4 => ?_
    refine s_asg (v := .int ((y : Nat) : Int)) (Ev.is (ev_I0 (ev_I (ev_var rfl) ev_c (show CPow ((y / 64 : Nat) : Int) 6 from ⟨by decide, by decide, by omega⟩)) (Ev.is (ev_I0 (ev_var rfl) ev_c) (congrArg V.int (show _ = ((y % 64 : Nat) : Int) by omega)))) (congrArg V.int (or_join6 y))) fun H5 e5 => ⟨some (.int (d : Int)), by rw [show n + 1 - (i + 1) = n - i by omega, hy]; rfl, ex.trans (e4.trans e5), (e4.trans e5) _ _ gq⟩
  · rintro q σ' H3 ⟨z, rfl, ex, gq⟩
    have hlen : ((cs ((ptB p).drop 1)).map V.int).length = n + 1 := by rw [List.length_map, cs_len, List.length_drop, ptB_len, hn]; omega
    rw [hlen, Nat.sub_self, Nat.mul_zero, Nat.pow_zero, Nat.div_one]
    have hok := hp.2
    refine q_when (b := false) (et_is (et_or (a := false) (b := false) (et_is (et_test (ev_I0 (ev_var rfl) ev_c)) (decide_eq_false (by omega))) fun _ => et_or (a := false) (b := false) (et_is (et_test (ev_chain ev_c (ev_var rfl) ev_c)) ?_) fun _ => et_is (et_test (ev_I0 (ev_pcount (ev_var rfl)) (ev_var rfl))) (decide_eq_false (by omega))) rfl) (fun h => by cases h) fun _ H4 e4 => ?_
    · rw [Bool.and_eq_false_iff, decide_eq_false_iff_not, decide_eq_false_iff_not]
      omega
    · exact s_ret (ev_var rfl) fun H5 e5 => k.go (ex.trans (e4.trans e5))
theorem ev_rpoint {σ : L2.St} {H : Hp} {t1 t2 t3 : TE} {E : XK} {a : Addr} {ds : List Nat} {pl p : Nat} (h1 : Ev t1 σ H (.ref a)) (hS : SqL K H a ((cs ds).map V.int)) (h2 : Ev t2 σ H (.int (pl : Int))) (h3 : Ev t3 σ H (.int (ptN p : Int))) (hds : (ds.drop pl).take (ptN p) = ptB p) (hp : ptOk p) : Ev (tCall (sp_rpoint K) [] E (tCons t1 (tCons t2 (tCons t3 tNil)))) σ H (.int (p : Int)) :=
  ev_call (ea_cons h1 (ea_cons h2 (ea_cons h3 ea_nil))) fun H1 e Q q _ => ⟨a, ds, pl, p, rfl, ex_l e hS, hds, hp, q⟩
def sp_rutf (K : PySem.W.Frag) : Sp := fun vs H Q _ => ∃ (a : Addr) (pre ts post : List Nat), vs = [.ref a, .int (pre.length : Int), .int ((pre.length + (utfB ts).length : Nat) : Int)] ∧ SqL K H a ((cs (pre ++ (utfB ts ++ post))).map V.int) ∧ ts.length ≤ 10000 ∧ (∀ t ∈ ts, ptOk t) ∧ RetL ((cs ts).map V.int) H Q
theorem ok_read_utf8 (T : TX K mg) : FnOk P w K mg base CX0 3 T.a_read_utf8 T.d_read_utf8 ["data", "start", "stop"] (sp_rutf K) := by
  refine T.F_read_utf8.ok sc_read_utf8 (fun vs H Q E h => by obtain ⟨a, pre, ts, post, rfl, _⟩ := h; rfl) (fun cdv A outer s0 H vs Q E hr h => ?_)
  obtain ⟨a, pre, ts, post, rfl, hS, hl, ht, k⟩ := h
  refine ⟨_, (pss_cons (ps_set (i := 3) sc_read_utf8.nd rfl (Or.inl rfl) (pe_lst pa_nil))
      (pss_cons (ps_set (i := 4) sc_read_utf8.nd rfl (Or.inl rfl) (pv 1))
      (pss_cons (ps_while PassesOwn.never (pt_cmpR op_lt (pv 4) (pv 2) (nomark _)) (pss_cons (ps_set (i := 5) sc_read_utf8.nd rfl (Or.inl rfl) (pe_call (ok_count_told T) (hr.mono (by decide)) (by rfl) T.g_count_told T.F_count_told.kp T.b_count_told .nil pass0 (pa_cons (pe_ix (r := rIxL K) ix_list (pv 0) (pv 4) (fun _ _ => rfl)) pa_nil)))
        (pss_cons (ps_if (PW.pt (pw_or (pt_cmpR op_eq (pv 5) pe_int (nomark _)) (pw_or1 (pt_cmpR op_gt (pe_op op_add (pv 4) (pv 5)) (pv 2) (nomark _))))) (pss_one ps_never) pss_nil)
        (pss_cons (ps_expr (pe_bm PySem.F.plainAttrs_list PySem.F.slot_list_append PySem.F.type_list_append mt_append (pv 3) (pa_cons (pe_call (ok_read_point T) (hr.mono (by decide)) (by rfl) T.g_read_point T.F_read_point.kp T.b_read_point .nil pass0 (pa_cons (pv 0) (pa_cons (pv 4) (pa_cons (pv 5) pa_nil)))) pa_nil)))
        (pss_one (ps_aug (i := 4) sc_read_utf8.nd rfl (Or.inl rfl) (pv 5) ip_add))))))
      (pss_one (ps_ret (pv 3)))))), ?_⟩
  refine q_asgL (xs := []) (el_lst ea_nil (by decide)) fun q H1 hq e1 g1 => ?_
  refine q_asg (ev_var rfl) fun H2 e2 => ?_
  have hlen : ∀ i, i ≤ ts.length → (utfB (ts.take i)).length + (utfB (ts.drop i)).length = (utfB ts).length := fun i _ => by
    have : utfB ts = utfB (ts.take i) ++ utfB (ts.drop i) := by unfold utfB; rw [← List.flatMap_append, List.take_append_drop]
    rw [this, List.length_append]
  refine q_while (fun m σ' H' => ∃ (i : Nat) (z : Option V), m = ts.length - i ∧ i ≤ ts.length ∧ σ' = [some (.ref a), some (.int (pre.length : Int)), some (.int ((pre.length + (utfB ts).length : Nat) : Int)), some (.ref q), some (.int ((pre.length + (utfB (ts.take i)).length : Nat) : Int)), z] ∧ Ex H H' ∧ H' q = some (.lst ((cs (ts.take i)).map V.int))) ts.length ⟨0, none, rfl, Nat.zero_le _, rfl, e1.trans e2, e2 _ _ g1⟩ ?_
  rintro m σ' H3 ⟨i, z, rfl, hi, rfl, ex, gq⟩
  have hlr := utfB_len (ts.drop i)
  have hsum := hlen i hi
  rw [List.length_drop] at hlr
  refine ⟨decide (i < ts.length), et_is (et_test (ev_I0 (ev_var rfl) (ev_var rfl))) (decide_eq_decide.mpr (by omega)), fun hb H4 e4 => ?_, fun hb H4 e4 => ?_⟩
  · have hb := of_decide_eq_true hb
    have hp : ts[i]? = some ts[i] := List.getElem?_eq_getElem hb
    obtain ⟨p, hpe⟩ : ∃ p, ts[i] = p := ⟨_, rfl⟩
    rw [hpe] at hp
    have hok := ht p (List.mem_of_getElem? hp)
    obtain ⟨d, hd, hc⟩ := ptB_head hok.1
    have h4 := ptN_bd p
    have hU : utfB ts = utfB (ts.take i) ++ (ptB p ++ utfB (ts.drop (i + 1))) := by
      have : ts = ts.take i ++ (p :: ts.drop (i + 1)) := by
        rw [← hpe, List.getElem_cons_drop, List.take_append_drop]
      conv => lhs; rw [this]
      unfold utfB
      rw [List.flatMap_append]
      rfl
    have hdrop : (pre ++ (utfB ts ++ post)).drop (pre.length + (utfB (ts.take i)).length) = ptB p ++ (utfB (ts.drop (i + 1)) ++ post) := by
      rw [List.drop_append, List.drop_of_length_le (by omega), show pre.length + (utfB (ts.take i)).length - pre.length = (utfB (ts.take i)).length by omega, hU, List.append_assoc, List.drop_left, List.nil_append, List.append_assoc]
    generalize hpl : pre.length + (utfB (ts.take i)).length = pl at *
    have hat : (pre ++ (utfB ts ++ post))[pl]? = some d := by
      have := congrArg (fun l : List Nat => l[0]?) hdrop
      rw [List.getElem?_drop, Nat.add_zero] at this
      exact this.trans (by rw [List.getElem?_append_left (by rw [ptB_len]; omega)]; exact hd)
    have htk : ((pre ++ (utfB ts ++ post)).drop pl).take (ptN p) = ptB p := by rw [hdrop, ← ptB_len, List.take_left]
    have hfit : pl + ptN p ≤ pre.length + (utfB ts).length := by
      have := congrArg List.length hU
      rw [List.length_append, List.length_append, ptB_len] at this
      omega
    refine ⟨fun σ2 H2 => σ2 = [some (.ref a), some (.int (pre.length : Int)), some (.int ((pre.length + (utfB ts).length : Nat) : Int)), some (.ref q), some (.int ((pl + ptN p : Nat) : Int)), some (.int (ptN p : Int))] ∧ Ex H H2 ∧ H2 q = some (.lst ((cs (ts.take (i + 1))).map V.int)), ?_, ?_⟩
    · rintro σ2 H5 ⟨rfl, e5, g5⟩
      refine ⟨ts.length - (i + 1), by omega, i + 1, some (.int (ptN p : Int)), rfl, by omega, ?_, e5, g5⟩
      rw [utfB_snoc hp, List.length_append, ptB_len, ← Nat.add_assoc, hpl]
    refine q_asg (v := .int (ptN p : Int)) (Ev.is (ev_told (ev_ixS (i := 0) (n := (pl : Int)) (Ev.s (ev_var rfl) (ex_l (ex.trans e4) hS)) (ev_var rfl) (at_of (j := pl) rfl (at_int (cs_at hat))))) (congrArg V.int (by rw [hc]))) fun H5 e5 => ?_
    refine q_when (b := false) (et_is (et_or (a := false) (b := false) (et_is (et_test (ev_eq (ev_var rfl) ev_c rfl)) (decide_eq_false (fun h => by have := V.int.inj h; omega))) fun _ => et_is (et_test (ev_I0 (ev_I0 (ev_var rfl) (ev_var rfl)) (ev_var rfl))) (decide_eq_false (by omega))) rfl) (fun h => by cases h) fun _ H6 e6 => ?_
    have ex6 := ex.trans (e4.trans (e5.trans e6))
    refine q_app (v := .int (p : Int)) ((e4.trans (e5.trans e6)) _ _ gq) (ev_var rfl) (ev_rpoint (ev_var rfl) (ex_l ex6 hS) (ev_var rfl) (ev_var rfl) htk hok) (by rw [List.length_map, cs_len, List.length_take]; omega) fun H7 e7 => ?_
    refine s_aug (a := (pl : Int)) (b := (ptN p : Int)) rfl (ev_var rfl) fun H8 e8 => ⟨?_, (Ex.mut (ex6.trans e7) hq).trans e8, e8 _ _ ?_⟩
    · show [_, _, _, _, some (V.int ((pl : Int) + (ptN p : Int))), _] = _
      rw [show (pl : Int) + (ptN p : Int) = ((pl + ptN p : Nat) : Int) by omega]
    · rw [upd_same, show ts.take (i + 1) = ts.take i ++ [p] from by rw [List.take_add_one, hp]; rfl, cs_append, List.map_append]
      rfl
  · have hb := of_decide_eq_false hb
    have : i = ts.length := by omega
    subst this
    rw [List.take_length] at gq
    exact s_ret (v := .ref q) (ev_var rfl) fun H5 e5 => k q H5 hq (ex.trans (e4.trans e5)) ((e4.trans e5) _ _ gq)
theorem el_rutf {σ : L2.St} {H : Hp} {t1 t2 t3 : TE} {E : XK} {pre ts post : List Nat} (h1 : EvS K t1 σ H ((cs (pre ++ (utfB ts ++ post))).map V.int)) (h2 : Ev t2 σ H (.int (pre.length : Int))) (h3 : Ev t3 σ H (.int ((pre.length + (utfB ts).length : Nat) : Int))) (hl : ts.length ≤ 10000) (ht : ∀ t ∈ ts, ptOk t) : EvL (tCall (sp_rutf K) [] E (tCons t1 (tCons t2 (tCons t3 tNil)))) σ H ((cs ts).map V.int) := fun H1 e Q q =>
  h1 H1 e _ fun p H2 e2 hp => h2 H2 (e.trans e2) _ fun H3 e3 => h3 H3 ((e.trans e2).trans e3) _ fun H4 e4 => ⟨p, pre, ts, post, rfl, ex_l (e3.trans e4) hp, hl, ht, fun r H5 hr e5 g5 => q r H5 (fresh_back ((e2.trans e3).trans e4) hr) (((e2.trans e3).trans e4).trans e5) g5⟩

/-! ### new lists, draws on the way -/
def EvLW (s : Addr) (te : TE) (σ : L2.St) (H : Hp) (P : List V → Prop) : Prop := ∀ Q : VK, (∀ p xs H2, H p = none → Fr s H H2 → H2 p = some (.lst xs) → P xs → Q (.ref p) H2) → te σ H Q
section
variable {s : Addr} {σ : L2.St} {H : Hp} {ta tb te : TE} {D : Ends} {tz tu : TS} {P : List V → Prop}
theorem wl_cat {xs : List V} (st : StAt H s) (ha : EvL ta σ H xs) (hb : ∀ H1, Fr s H H1 → EvLW s tb σ H1 P) (hl : ∀ ys, P ys → xs.length + ys.length ≤ 100000) : EvLW s (tOp rCat ta tb) σ H (fun zs => ∃ ys, P ys ∧ zs = xs ++ ys) := fun Q k =>
  ha H (Ex.refl _) _ fun p H1 hp e1 g1 => hb H1 (Fr.ex st e1) _ fun r ys H2 hr f2 g2 hy => ⟨p, r, xs, ys, rfl, rfl, f2.l (ne_st st hp) g1, g2, sz_of (hl ys hy), fun l hl' => by
    have f02 : Fr s H H2 := (Fr.ex st e1).trans f2
    exact k l _ _ (f02.fresh hl') (f02.tex (Ex.new hl')) upd_same ⟨ys, hy, rfl⟩⟩
theorem qw_asgL {i : Nat} (h : EvLW s te σ H P) (k : ∀ p xs H1, H p = none → Fr s H H1 → H1 p = some (.lst xs) → P xs → tz D (σ.set i (some (.ref p))) H1) : tSeq (tAsg te (gName i)) tz D σ H := h _ k
theorem sw_asgL {i : Nat} (h : EvLW s te σ H P) (k : ∀ p xs H1, H p = none → Fr s H H1 → H1 p = some (.lst xs) → P xs → D.nx (σ.set i (some (.ref p))) H1) : tAsg te (gName i) D σ H := h _ k
/-- [e for j in range(n)], n drawn, e draws -/
theorem tlc_rngWW {te0 : TE} {vs : List Nat} {j : Nat} {Q : VK} {p : Int → Prop} (h : EvI s te0 σ H p) (hp : ∀ i, p i → 0 ≤ i ∧ i ≤ 100000)
    (k : ∀ n H1, p n → Fr s H H1 → ∀ Dl, H1 Dl = none → ∃ Pv : Nat → Hp → Prop, Pv 0 (upd H1 Dl (.lst [])) ∧ (∀ (i : Nat) H', i < n.toNat → Pv i H' → wipe ((wipe σ vs).set j (some (.int (i : Int)))) vs = wipe σ vs ∧ te ((wipe σ vs).set j (some (.int (i : Int)))) H' fun y H4 => ∃ acc, H4 Dl = some (.lst acc) ∧ acc.length < sizeLine ∧ Pv (i + 1) (upd H4 Dl (.lst (acc ++ [y])))) ∧ (∀ H', Pv n.toNat H' → Q (.ref Dl) H')) :
    tLc (iRng1 (tCons te0 tNil)) (gName j) tYes te vs σ H Q := h _ fun n H1 f1 hn => ⟨n, rfl, by have := hp n hn; omega, by have := hp n hn; omega, fun Dl hD => by
  obtain ⟨Pv, h0, hs, hd⟩ := k n H1 hn f1 Dl hD
  refine lc_range (lo := 0) (n := n.toNat) Pv h0 (fun i H' hi p => ?_) hd
  rw [Int.zero_add]
  exact hs i H' hi p⟩
end

theorem wl_junk {s a : Addr} {ns : List Int} {σ : L2.St} {H : Hp} {tn : TE} {E : XK} {i j : Nat} {p : Int → Prop} (hd : DrS K H s a ns) (h1 : σ[i]? = some (some (.ref s))) (h2 : σ[j]? = some (some (.ref a))) (h3 : EvI s tn σ H p) (hp : ∀ z, p z → 0 ≤ z ∧ z ≤ 1000) :
    EvLW s (tCall (sp_junk K) [] E (tCons (tVar i) (tCons (tVar j) (tCons tn tNil)))) σ H (fun xs => ∃ ds : List Nat, xs = (cs ds).map V.int ∧ ds.length ≤ 1000 ∧ p (ds.length : Int) ∧ ∀ d ∈ ds, d < 256) := fun Q q =>
  ⟨_, h1, ⟨_, h2, h3 _ fun n H1 f1 hn => by
    have hn2 := hp n hn
    exact ⟨s, a, ns, n.toNat, by rw [Int.toNat_of_nonneg hn2.1]; rfl, hd.fr f1, by omega, fun r ds H2 hr f2 g2 hl hb => q r _ H2 (f1.fresh hr) (f1.trans f2) g2 ⟨ds, rfl, by omega, by rw [hl, Int.toNat_of_nonneg hn2.1]; exact hn, hb⟩⟩⟩⟩
theorem sw_setLR {s : Addr} {σ : L2.St} {H : Hp} {te ta tb : TE} {l : Addr} {xs : List V} {j : Nat} {D : Ends} {P : V → Prop} (h : ∀ Q : VK, (∀ v H1, Fr s H H1 → P v → Q v H1) → te σ H Q) (hls : l ≠ s) (hl : H l = some (.lst xs)) (ho : ∀ H1, Ev ta σ H1 (.ref l)) (hi : ∀ H1, Ev tb σ H1 (.int (j : Int))) (hj : j < xs.length) (k : ∀ v H1, P v → Fr s H H1 → D.nx σ (upd H1 l (.lst (xs.set j v)))) : tAsg te (gSub ta tb rSetL) D σ H :=
  h _ fun v H1 f1 hv => ho H1 H1 (Ex.refl _) _ fun H2 e2 => hi H2 H2 (Ex.refl _) _ fun H3 e3 => ⟨l, xs, (j : Int), j, rfl, rfl, (e2.trans e3) l _ (f1.l hls hl), ixN_nat hj, k v H3 hv (f1.tex (e2.trans e3))⟩
theorem qw_setLR {s : Addr} {σ : L2.St} {H : Hp} {te ta tb : TE} {l : Addr} {xs : List V} {j : Nat} {D : Ends} {tz : TS} {P : V → Prop} (h : ∀ Q : VK, (∀ v H1, Fr s H H1 → P v → Q v H1) → te σ H Q) (hls : l ≠ s) (hl : H l = some (.lst xs)) (ho : ∀ H1, Ev ta σ H1 (.ref l)) (hi : ∀ H1, Ev tb σ H1 (.int (j : Int))) (hj : j < xs.length) (k : ∀ v H1, P v → Fr s H H1 → tz D σ (upd H1 l (.lst (xs.set j v)))) : tSeq (tAsg te (gSub ta tb rSetL)) tz D σ H := sw_setLR (D := { D with nx := tz D }) h hls hl ho hi hj k
/-- a list of mine may change -/
theorem Fr.upd {s l : Addr} {H1 : Hp} {o : HO} (h : StAt H1 s) (hl : l ≠ s) : StAt (upd H1 l o) s := by obtain ⟨k, c, g⟩ := h; exact ⟨k, c, by rw [upd_ne (Ne.symm hl)]; exact g⟩
theorem cs_inj {a b : List Nat} (h : cs a = cs b) : a = b := by
  unfold cs at h
  exact (List.map_inj_right fun x y e => Int.ofNat.inj e).mp h
theorem cs_eqd (a b : List Nat) : decide (cs a = cs b) = decide (a = b) := decide_eq_decide.mpr ⟨cs_inj, fun h => by rw [h]⟩
theorem cs_set (ds : List Nat) (i d : Nat) : (cs ds).set i (d : Int) = cs (ds.set i d) := by unfold cs; rw [List.map_set]

/-! ### texts -/
theorem el_lcStr {σ : L2.St} {H : Hp} {t1 te : TE} {z : Str} {vs : List Nat} {j : Nat} (zs : List V) (h1 : Ev t1 σ H (.str z)) (hz : zs.length = z.cps.size) (hb : zs.length ≤ 50000) (hw : ∀ x, wipe ((wipe σ vs).set j (some x)) vs = wipe σ vs)
    (he : ∀ (i : Nat) (c : Nat) H1, Ex H H1 → z.cps[i]? = some c → ∃ v, zs[i]? = some v ∧ Ev te ((wipe σ vs).set j (some (.str ⟨#[c]⟩))) H1 v) : EvL (tLc (iStr t1) (gName j) tYes te vs) σ H zs := fun H0 e Q q =>
  h1 H0 e _ fun H1 e1 => ⟨z, rfl, fun D hD => lc_it walk_str (fun i H' => Ex H1 H' ∧ H' D = some (.lst (zs.take i))) ⟨Ex.new hD, upd_same⟩ (fun _ _ _ _ => trivial) (by
    rintro i x H' H'' hi ⟨ex, hd⟩ ⟨rfl, c, hc, rfl⟩
    obtain ⟨z, hz1, hz2⟩ := he i c H'' ((e.trans e1).trans ex) hc
    refine ⟨hw _, ?_⟩
    refine hz2 _ (Ex.refl _) _ fun H4 e4 => ⟨zs.take i, e4 _ _ hd, sz_lt (by rw [List.length_take]; omega), ?_, ?_⟩
    · exact Ex.mut (ex.trans e4) hD
    · rw [upd_same, take_snoc hz1]) fun H' ⟨ex, hd⟩ => by
      rw [← hz, List.take_length] at hd
      exact q D H' (fresh_back e1 hD) (e1.trans ex) hd⟩
theorem ev_ord {σ : L2.St} {H : Hp} {te : TE} {c : Nat} (h : Ev te σ H (.str ⟨#[c]⟩)) : Ev (tCB (fun xs H Q => ∃ x, xs = [V.str x] ∧ x.length = 1 ∧ Q (V.int (x.cps.getD 0 0 : Nat)) H) (tCons te tNil)) σ H (.int (c : Int)) :=
  ev_cb (ea_cons h ea_nil) fun H1 _ Q q => ⟨⟨#[c]⟩, rfl, rfl, q H1 (Ex.refl H1)⟩
theorem cps_get {z : Str} {i c : Nat} (h : z.cps[i]? = some c) : z.cps.toList[i]? = some c := by rw [Array.getElem?_toList]; exact h
theorem el_ords {σ : L2.St} {H : Hp} {t1 : TE} {z : Str} {vs : List Nat} {j : Nat} (h1 : Ev t1 σ H (.str z)) (hb : z.cps.size ≤ 50000) (hw : ∀ x, wipe ((wipe σ vs).set j (some x)) vs = wipe σ vs) (hj : ∀ x, ((wipe σ vs).set j (some x))[j]? = some (some x)) :
    EvL (tLc (iStr t1) (gName j) tYes (tCB (fun xs H Q => ∃ x, xs = [V.str x] ∧ x.length = 1 ∧ Q (V.int (x.cps.getD 0 0 : Nat)) H) (tCons (tVar j) tNil)) vs) σ H ((cs z.cps.toList).map V.int) :=
  el_lcStr _ h1 (by rw [List.length_map, cs_len, Array.length_toList]) (by rw [List.length_map, cs_len, Array.length_toList]; exact hb) hw fun i c H2 e2 hc => ⟨_, at_int (cs_at (cps_get hc)), ev_ord (ev_var (hj _))⟩

def sp_pointsof : Sp := fun vs H Q _ => ∃ z : Str, vs = [.str z] ∧ z.cps.size ≤ 50000 ∧ RetL ((cs z.cps.toList).map V.int) H Q
theorem ok_points_of (T : TX K mg) : FnOk P w K mg base CX0 1 T.a_points_of T.d_points_of ["string"] sp_pointsof := by
  refine T.F_points_of.ok sc_points_of (fun vs H Q E h => by obtain ⟨z, rfl, _⟩ := h; rfl) (fun cdv A outer s0 H vs Q E hr h => ?_)
  obtain ⟨z, rfl, hz, k⟩ := h
  refine ⟨_, (pss_one (ps_ret (pe_lc (own := [("character", 1)]) (g := gName 1) (tt := tYes) rfl sc_points_of.nd (pi_str (pv 0)) (blkOk_by (N := ["string", "character"]) (sc := defScope s_points_of) (by decide +kernel)) (fun _ _ _ _ _ => pg_name (i := 1) sc_points_of.nd rfl (Or.inl rfl)) (fun _ _ _ _ _ => pts_nil) (fun _ _ _ _ _ => (pe_callB call_ord (by rfl) T.m_ord PyProof.Rows.boot_ord (pa_cons (pv 1) pa_nil)))))), ?_⟩
  exact s_retL (el_ords (ev_var rfl) hz (fun _ => rfl) (fun _ => rfl)) k
def sp_lpoint (K : PySem.W.Frag) : Sp := fun vs H Q _ => ∃ (s a : Addr) (ns : List Int), vs = [.ref s, .ref a] ∧ DrS K H s a ns ∧ ∀ (p : Nat) H', ptOk p → Fr s H H' → Q (.int (p : Int)) H'
theorem ok_law_point (T : TX K mg) : FnOk P w K mg base CX0 3 T.a_law_point T.d_law_point ["state", "script"] (sp_lpoint K) := by
  refine T.F_law_point.ok sc_law_point (fun vs H Q E h => by obtain ⟨s, a, ns, rfl, _⟩ := h; rfl) (fun cdv A outer s0 H vs Q E hr h => ?_)
  obtain ⟨s, a, ns, rfl, hd, k⟩ := h
  refine ⟨_, (pss_cons (ps_set (i := 2) sc_law_point.nd rfl (Or.inl rfl) (pe_lst (pa_cons pe_int (pa_cons pe_int (pa_cons pe_int (pa_cons pe_int (pa_cons pe_int (pa_cons pe_int (pa_cons pe_int (pa_cons pe_int (pa_cons pe_int (pa_cons pe_int (pa_cons pe_int (pa_cons pe_int pa_nil))))))))))))))
      (pss_cons (ps_if (pt_cmpR op_eq (pe_call (ok_law_draw T) (hr.mono (by decide)) (by rfl) T.g_law_draw T.F_law_draw.kp T.b_law_draw .nil pass0 (pa_cons (pv 0) (pa_cons (pv 1) (pa_cons pe_int pa_nil)))) pe_int (nomark _)) (pss_one (ps_ret (pe_ix (r := rIxL K) ix_list (pv 2) (pe_call (ok_law_draw T) (hr.mono (by decide)) (by rfl) T.g_law_draw T.F_law_draw.kp T.b_law_draw .nil pass0 (pa_cons (pv 0) (pa_cons (pv 1) (pa_cons pe_int pa_nil)))) (fun _ _ => rfl)))) pss_nil)
      (pss_cons (ps_set (i := 3) sc_law_point.nd rfl (Or.inl rfl) (pe_call (ok_law_draw T) (hr.mono (by decide)) (by rfl) T.g_law_draw T.F_law_draw.kp T.b_law_draw .nil pass0 (pa_cons (pv 0) (pa_cons (pv 1) (pa_cons (pe_op op_sub pe_int pe_int) pa_nil)))))
      (pss_cons (ps_if (pt_cmpR op_ge (pv 3) pe_int (nomark _)) (pss_one (ps_ret (pe_op op_add (pv 3) pe_int))) pss_nil)
      (pss_one (ps_ret (pv 3))))))), ?_⟩
  let es : List Nat := [0, 127, 128, 2047, 2048, 55295, 57344, 65535, 65536, 1114111, 65, 61]
  refine q_asgL (xs := (cs es).map V.int) (el_lst (ea_cons ev_c (ea_cons ev_c (ea_cons ev_c (ea_cons ev_c (ea_cons ev_c (ea_cons ev_c (ea_cons ev_c (ea_cons ev_c (ea_cons ev_c (ea_cons ev_c (ea_cons ev_c (ea_cons ev_c ea_nil)))))))))))) (by decide)) fun q H1 hq e1 g1 => ?_
  have hd1 := hd.ex e1
  have hqs := ne_st hd.1 hq
  refine qw_when (wt_eq (wi_draw hd1 rfl rfl ev_c (by decide) (by decide)) fun H2 f2 => wi_ev f2.2 ev_c) (fun _ H2 f2 => ?_) (fun _ H2 f2 => ?_)
  · refine ⟨.ref q, rfl, wi_draw (hd1.fr f2) rfl rfl ev_c (by decide) (by decide) _ fun z H3 f3 hz => ?_⟩
    obtain ⟨d, rfl, hdl⟩ := hz
    have hd12 : d < 12 := by omega
    have hall : ∀ i, i < 12 → ∃ p, es[i]? = some p ∧ ptOk p := by
      intro i hi
      have : i = 0 ∨ i = 1 ∨ i = 2 ∨ i = 3 ∨ i = 4 ∨ i = 5 ∨ i = 6 ∨ i = 7 ∨ i = 8 ∨ i = 9 ∨ i = 10 ∨ i = 11 := by omega
      rcases this with rfl | rfl | rfl | rfl | rfl | rfl | rfl | rfl | rfl | rfl | rfl | rfl <;> exact ⟨_, rfl, by unfold ptOk; omega⟩
    obtain ⟨p, hp, hok⟩ := hall d hd12
    exact ⟨q, _, (d : Int), .int (p : Int), rfl, rfl, sq_of ((f2.trans f3).l hqs g1), at_of (j := d) rfl (at_int (cs_at hp)), k p H3 hok ((Fr.ex hd.1 e1).trans (f2.trans f3))⟩
  have f12 := (Fr.ex hd.1 e1).trans f2
  refine qw_asg (wi_draw (n := 1112064) (hd1.fr f2) rfl rfl (ev_I0 ev_c ev_c) (by decide) (by decide)) fun z H3 f3 hz => ?_
  obtain ⟨p, rfl, hp⟩ := hz
  have f13 := f12.trans f3
  refine q_when (b := decide (55296 ≤ p)) (et_is (et_test (ev_I0 (ev_var rfl) ev_c)) (decide_eq_decide.mpr (by omega))) (fun h H4 e4 => ?_) (fun h H4 e4 => ?_)
  · have h := of_decide_eq_true h
    exact s_ret (v := .int ((p + 2048 : Nat) : Int)) (Ev.is (ev_I0 (ev_var rfl) ev_c) (congrArg V.int (by omega))) fun H5 e5 => k (p + 2048) H5 (by unfold ptOk; omega) (f13.tex (e4.trans e5))
  · have h := of_decide_eq_false h
    exact s_ret (v := .int (p : Int)) (ev_var rfl) fun H5 e5 => k p H5 (by unfold ptOk; omega) (f13.tex (e4.trans e5))
theorem ok_law_bytes (T : TX K mg) : FnOk P w K mg base CX0 1 T.a_law_bytes T.d_law_bytes ["point"] sp_pbytes := by
  refine T.F_law_bytes.ok sc_law_bytes (fun vs H Q E h => by obtain ⟨p, rfl, _⟩ := h; rfl) (fun cdv A outer s0 H vs Q E hr h => ?_)
  obtain ⟨p, rfl, hp, k⟩ := h
  refine ⟨_, (pss_cons (ps_if (pt_cmpR op_lt (pv 0) pe_int (nomark _)) (pss_one (ps_ret (pe_lst (pa_cons (pv 0) pa_nil)))) pss_nil)
      (pss_cons (ps_set (i := 1) sc_law_bytes.nd rfl (Or.inl rfl) (pe_op op_add pe_int (pe_op op_and (pv 0) pe_int)))
      (pss_cons (ps_if (pt_cmpR op_lt (pv 0) pe_int (nomark _)) (pss_one (ps_ret (pe_lst (pa_cons (pe_op op_add pe_int (pe_op op_shr (pv 0) pe_int)) (pa_cons (pv 1) pa_nil))))) pss_nil)
      (pss_cons (ps_set (i := 2) sc_law_bytes.nd rfl (Or.inl rfl) (pe_op op_add pe_int (pe_op op_and (pe_op op_shr (pv 0) pe_int) pe_int)))
      (pss_cons (ps_if (pt_cmpR op_lt (pv 0) pe_int (nomark _)) (pss_one (ps_ret (pe_lst (pa_cons (pe_op op_add pe_int (pe_op op_shr (pv 0) pe_int)) (pa_cons (pv 2) (pa_cons (pv 1) pa_nil)))))) pss_nil)
      (pss_one (ps_ret (pe_lst (pa_cons (pe_op op_add pe_int (pe_op op_shr (pv 0) pe_int)) (pa_cons (pe_op op_add pe_int (pe_op op_and (pe_op op_shr (pv 0) pe_int) pe_int)) (pa_cons (pv 2) (pa_cons (pv 1) pa_nil)))))))))))), ?_⟩
  unfold ptB at k
  have s6 : ∀ {σ : L2.St} {H' : Hp} (j : Nat), σ[0]? = some (some (.int (p : Int))) → Ev (tOp (rI (fun _ j => 0 ≤ j) fun i j => .int (i / 2 ^ j.toNat)) (tVar 0) (tC (.int (j : Int)))) σ H' (.int ((p / 2 ^ j : Nat) : Int)) := fun j h => ev_shrN (ev_var h) ev_c
  refine q_when (b := decide (p < 128)) (et_is (et_test (ev_I0 (ev_var rfl) ev_c)) (decide_eq_decide.mpr (by omega))) (fun h H1 e1 => ?_) (fun h H1 e1 => ?_)
  · rw [if_pos (of_decide_eq_true h)] at k
    exact s_retL (el_lst (ea_cons (ev_var rfl) ea_nil) (Nat.le_of_ble_eq_true rfl)) fun q H3 hq e3 g3 => k.go e1 hq e3 g3
  rw [if_neg (of_decide_eq_false h)] at k
  refine q_asg (v := .int ((128 + p % 64 : Nat) : Int)) (Ev.is (ev_I0 ev_c (ev_and63 (ev_var rfl))) (congrArg V.int (by omega))) fun H2 e2 => ?_
  refine q_when (b := decide (p < 2048)) (et_is (et_test (ev_I0 (ev_var rfl) ev_c)) (decide_eq_decide.mpr (by omega))) (fun h H3 e3 => ?_) (fun h H3 e3 => ?_)
  · rw [if_pos (of_decide_eq_true h)] at k
    exact s_retL (el_lst (ea_cons (Ev.is (ev_I0 ev_c (s6 6 rfl)) (congrArg V.int (show _ = ((192 + p / 64 : Nat) : Int) by rw [show (2 : Nat) ^ 6 = 64 from rfl]; omega))) (ea_cons (ev_var rfl) ea_nil)) (Nat.le_of_ble_eq_true rfl)) fun q H4 hq e4 g4 => k.go ((e1.trans e2).trans e3) hq e4 g4
  rw [if_neg (of_decide_eq_false h)] at k
  refine q_asg (v := .int ((128 + p / 64 % 64 : Nat) : Int)) (Ev.is (ev_I0 ev_c (ev_and63 (s6 6 rfl))) (congrArg V.int (by rw [show (2 : Nat) ^ 6 = 64 from rfl]; omega))) fun H4 e4 => ?_
  have e14 := (e1.trans e2).trans (e3.trans e4)
  refine q_when (b := decide (p < 65536)) (et_is (et_test (ev_I0 (ev_var rfl) ev_c)) (decide_eq_decide.mpr (by omega))) (fun h H5 e5 => ?_) (fun h H5 e5 => ?_)
  · rw [if_pos (of_decide_eq_true h)] at k
    exact s_retL (el_lst (ea_cons (Ev.is (ev_I0 ev_c (s6 12 rfl)) (congrArg V.int (show _ = ((224 + p / 4096 : Nat) : Int) by rw [show (2 : Nat) ^ 12 = 4096 from rfl]; omega))) (ea_cons (ev_var rfl) (ea_cons (ev_var rfl) ea_nil))) (Nat.le_of_ble_eq_true rfl)) fun q H6 hq e6 g6 => k.go (e14.trans e5) hq e6 g6
  rw [if_neg (of_decide_eq_false h)] at k
  exact s_retL (el_lst (ea_cons (Ev.is (ev_I0 ev_c (s6 18 rfl)) (congrArg V.int (show _ = ((240 + p / 262144 : Nat) : Int) by rw [show (2 : Nat) ^ 18 = 262144 from rfl]; omega))) (ea_cons (Ev.is (ev_I0 ev_c (ev_and63 (s6 12 rfl))) (congrArg V.int (show _ = ((128 + p / 4096 % 64 : Nat) : Int) by rw [show (2 : Nat) ^ 12 = 4096 from rfl]; omega))) (ea_cons (ev_var rfl) (ea_cons (ev_var rfl) ea_nil)))) (Nat.le_of_ble_eq_true rfl)) fun q H6 hq e6 g6 => k.go (e14.trans e5) hq e6 g6
/-! ### one text, one row of bytes -/
theorem ptB_inj {p q : Nat} (hp : p ≤ 1114111) (hq : q ≤ 1114111) {r t : List Nat} (h : ptB p ++ r = ptB q ++ t) : p = q ∧ r = t := by
  obtain ⟨d, hd, hc⟩ := ptB_head hp
  obtain ⟨e, he, hc2⟩ := ptB_head hq
  have hl := ptN_bd p
  have hl2 := ptN_bd q
  have h0 := congrArg (fun l : List Nat => l[0]?) h
  rw [List.getElem?_append_left (by rw [ptB_len]; omega), List.getElem?_append_left (by rw [ptB_len]; omega), hd, he] at h0
  cases h0
  have hlen : (ptB p).length = (ptB q).length := by rw [ptB_len, ptB_len]; omega
  obtain ⟨h1, h2⟩ := List.append_inj h hlen
  refine ⟨?_, h2⟩
  have hN : ptN p = ptN q := by omega
  unfold ptN at hN
  unfold ptB at h1
  by_cases a1 : p < 128
  · rw [if_pos a1] at hN h1
    by_cases b1 : q < 128
    · rw [if_pos b1] at h1
      cases h1
      rfl
    · rw [if_neg b1] at hN
      split at hN
      omega
      split at hN <;> omega
  rw [if_neg a1] at hN h1
  by_cases b1 : q < 128
  · rw [if_pos b1] at hN
    split at hN
    omega
    split at hN <;> omega
  rw [if_neg b1] at hN h1
  by_cases a2 : p < 2048
  · rw [if_pos a2] at hN h1
    by_cases b2 : q < 2048
    · rw [if_pos b2] at h1
      injection h1 with h3 h4
      injection h4 with h4 _
      omega
    · rw [if_neg b2] at hN
      split at hN <;> omega
  rw [if_neg a2] at hN h1
  by_cases b2 : q < 2048
  · rw [if_pos b2] at hN
    split at hN <;> omega
  rw [if_neg b2] at hN h1
  by_cases a3 : p < 65536
  · rw [if_pos a3] at hN h1
    by_cases b3 : q < 65536
    · rw [if_pos b3] at h1
      injection h1 with h3 h4
      injection h4 with h4 h5
      injection h5 with h5 _
      omega
    · rw [if_neg b3] at hN
      omega
  rw [if_neg a3] at hN h1
  by_cases b3 : q < 65536
  · rw [if_pos b3] at hN
    omega
  rw [if_neg b3] at h1
  injection h1 with h3 h4
  injection h4 with h4 h5
  injection h5 with h5 h6
  injection h6 with h6 _
  omega
theorem utfB_inj : ∀ {ts us : List Nat}, (∀ t ∈ ts, ptOk t) → (∀ t ∈ us, ptOk t) → utfB ts = utfB us → ts = us
  | [], [], _, _, _ => rfl
  | [], u :: us, _, _, h => by
    have := congrArg List.length h
    have h2 := utfB_len (u :: us)
    rw [List.length_cons] at h2
    have h3 : (utfB []).length = 0 := rfl
    omega
  | t :: ts, [], _, _, h => by
    have := congrArg List.length h
    have h2 := utfB_len (t :: ts)
    rw [List.length_cons] at h2
    have h3 : (utfB []).length = 0 := rfl
    omega
  | t :: ts, u :: us, h1, h2, h => by
    obtain ⟨rfl, hr⟩ := ptB_inj (h1 t (List.mem_cons_self ..)).1 (h2 u (List.mem_cons_self ..)).1 (show ptB t ++ utfB ts = ptB u ++ utfB us from h)
    rw [utfB_inj (fun x hx => h1 x (List.mem_cons_of_mem _ hx)) (fun x hx => h2 x (List.mem_cons_of_mem _ hx)) hr]

theorem ev_lpoint {s a : Addr} {ns : List Int} {σ : L2.St} {H : Hp} {E : XK} {i j : Nat} (hd : DrS K H s a ns) (h1 : σ[i]? = some (some (.ref s))) (h2 : σ[j]? = some (some (.ref a))) : ∀ Q : VK, (∀ v H1, Fr s H H1 → (∃ p : Nat, v = .int (p : Int) ∧ ptOk p) → Q v H1) → tCall (sp_lpoint K) [] E (tCons (tVar i) (tCons (tVar j) tNil)) σ H Q := fun Q q =>
  ⟨_, h1, _, h2, s, a, ns, rfl, hd, fun p H1 hp f1 => q _ H1 f1 ⟨p, rfl, hp⟩⟩
theorem ev_adds {σ : L2.St} {H : Hp} {ta tb : TE} {i j : Str} (ha : Ev ta σ H (.str i)) (hb : Ev tb σ H (.str j)) (hl : i.length + j.length ≤ sizeLine) : Ev (tOp (fun x y H Q => ∃ i j, x = V.str i ∧ y = V.str j ∧ i.length + j.length ≤ sizeLine ∧ Q (V.str (i ++ j)) H) ta tb) σ H (.str (i ++ j)) := fun H1 e Q q =>
  ha H1 e _ fun H2 e2 => hb H2 (e.trans e2) _ fun H3 e3 => ⟨i, j, rfl, rfl, hl, q H3 (e2.trans e3)⟩
theorem ev_lens {σ : L2.St} {H : Hp} {te : TE} {z : Str} (h : Ev te σ H (.str z)) (hz : z.length ≤ sizeLine) : Ev (tCB (fun xs H Q => ∃ z, xs = [V.str z] ∧ z.length ≤ sizeLine ∧ Q (V.int z.length) H) (tCons te tNil)) σ H (.int (z.length : Int)) := ev_cb (ea_cons h ea_nil) fun H1 _ Q q => ⟨z, rfl, hz, q H1 (Ex.refl H1)⟩
def sp_law (K : PySem.W.Frag) : Sp := fun vs H Q _ => ∃ (a : Addr) (ns : List Int), vs = [.ref a] ∧ SqL K H a (ns.map V.int) ∧ ns.length ≤ 63 ∧ ∀ H', Q (.bl true) H'
theorem ok_law (T : TX K mg) : FnOk P w K mg base CX0 4 T.a_law T.d_law ["script"] (sp_law K) := by
  refine T.F_law.ok sc_law (fun vs H Q E h => by obtain ⟨a, ns, rfl, _⟩ := h; rfl) (fun cdv A outer s0 H vs Q E hr h => ?_)
  obtain ⟨a, ns, rfl, hS, hlen, k⟩ := h
  refine ⟨_, (pss_cons (ps_set (i := 1) sc_law.nd rfl (Or.inr rfl) (pe_lst (pa_cons pe_int (pa_cons pe_int pa_nil))))
      (pss_cons (ps_setLc (i := 3) (own := [("k", 2)]) (g := gName 2) (tt := tYes) rfl sc_law.nd rfl rfl (sw_true rfl rfl rfl (by decide +kernel)) (pi_range1 (by rfl) T.m_range (pa_cons (pe_call (ok_law_draw T) (hr.mono (by decide)) (by rfl) T.g_law_draw T.F_law_draw.kp T.b_law_draw .nil pass0 (pa_cons (pv 1) (pa_cons (pv 0) (pa_cons pe_int pa_nil)))) pa_nil)) (blkOk_by (N := ["script", "state", "k", "text", "expected", "point", "handed", "actual", "before", "data", "back", "other", "chars", "a", "part", "char"]) (sc := defScope s_law) (by decide +kernel)) (fun _ _ _ _ _ => pg_name (i := 2) sc_law.nd rfl (Or.inl rfl)) (fun _ _ _ _ _ => pts_nil) (fun _ _ _ _ _ => (pe_call (ok_law_point T) (hr.mono (by decide)) (by rfl) T.g_law_point T.F_law_point.kp T.b_law_point .nil pass0 (pa_cons (pv 1) (pa_cons (pv 0) pa_nil)))))
      (pss_cons (ps_set (i := 4) sc_law.nd rfl (Or.inl rfl) (pe_lst pa_nil))
      (pss_cons (ps_for PassesOwn.never rfl (pi_list (pv 3)) (pg_name (i := 5) sc_law.nd rfl (Or.inl rfl)) (pss_one (ps_set (i := 4) sc_law.nd rfl (Or.inl rfl) (pe_op op_cat (pv 4) (pe_call (ok_law_bytes T) (hr.mono (by decide)) (by rfl) T.g_law_bytes T.F_law_bytes.kp T.b_law_bytes .nil pass0 (pa_cons (pv 5) pa_nil))))))
      (pss_cons (ps_set (i := 6) sc_law.nd rfl (Or.inl rfl) (pe_callTy (r := rListS K) call_list_of (by rfl) T.m_list PyProof.Rows.boot_list (pa_cons (pv 3) pa_nil)))
      (pss_cons (ps_set (i := 7) sc_law.nd rfl (Or.inl rfl) (pe_call (ok_write_utf8 T) (hr.mono (by decide)) (by rfl) T.g_write_utf8 T.F_write_utf8.kp T.b_write_utf8 .nil pass0 (pa_cons (pv 6) pa_nil)))
      (pss_cons (ps_if (PW.pt (pw_or (pt_cmpR (op_neD (hu64 hr)) (pv 6) (pv 3) (nomark _)) (pw_or (pt_not (pt_val (pe_call (ok_law_is_bytes T) (hr.mono (by decide)) (by rfl) T.g_law_is_bytes T.F_law_is_bytes.kp T.b_law_is_bytes .nil pass0 (pa_cons (pv 7) pa_nil)))) (pw_or1 (pt_cmpR (op_neD (hu64 hr)) (pv 7) (pv 4) (nomark _)))))) (pss_one (ps_ret pe_bl)) pss_nil)
      (pss_cons (ps_set (i := 8) sc_law.nd rfl (Or.inl rfl) (pe_call (ok_law_junk T) (hr.mono (by decide)) (by rfl) T.g_law_junk T.F_law_junk.kp T.b_law_junk .nil pass0 (pa_cons (pv 1) (pa_cons (pv 0) (pa_cons (pe_call (ok_law_draw T) (hr.mono (by decide)) (by rfl) T.g_law_draw T.F_law_draw.kp T.b_law_draw .nil pass0 (pa_cons (pv 1) (pa_cons (pv 0) (pa_cons pe_int pa_nil)))) pa_nil)))))
      (pss_cons (ps_set (i := 9) sc_law.nd rfl (Or.inl rfl) (pe_op op_cat (pe_op op_cat (pv 8) (pv 7)) (pe_call (ok_law_junk T) (hr.mono (by decide)) (by rfl) T.g_law_junk T.F_law_junk.kp T.b_law_junk .nil pass0 (pa_cons (pv 1) (pa_cons (pv 0) (pa_cons (pe_call (ok_law_draw T) (hr.mono (by decide)) (by rfl) T.g_law_draw T.F_law_draw.kp T.b_law_draw .nil pass0 (pa_cons (pv 1) (pa_cons (pv 0) (pa_cons pe_int pa_nil)))) pa_nil))))))
      (pss_cons (ps_set (i := 10) sc_law.nd rfl (Or.inl rfl) (pe_call (ok_read_utf8 T) (hr.mono (by decide)) (by rfl) T.g_read_utf8 T.F_read_utf8.kp T.b_read_utf8 .nil pass0 (pa_cons (pv 9) (pa_cons (pe_callB (r := rLenS K) call_len_seq (by rfl) T.m_len PySem.boot_len (pa_cons (pv 8) pa_nil)) (pa_cons (pe_op op_add (pe_callB (r := rLenS K) call_len_seq (by rfl) T.m_len PySem.boot_len (pa_cons (pv 8) pa_nil)) (pe_callB (r := rLenS K) call_len_seq (by rfl) T.m_len PySem.boot_len (pa_cons (pv 7) pa_nil))) pa_nil)))))
      (pss_cons (ps_if (PW.pt (pw_or (pt_not (pt_val (pe_callB (r := rIsi K) call_isi (by rfl) T.m_isinstance PyProof.Rows.boot_isinstance (pa_cons (pv 10) (pa_cons (pe_bltn (v := V.ty "list") (by rfl) T.m_list PyProof.Rows.boot_list rfl) pa_nil))))) (pw_or (pt_not (pt_val (pe_callB (r := rAll K) (cr_all rfl) (by rfl) T.m_all PyProof.Rows.boot_all (pa_cons (pe_lc (own := [("point", 5)]) (g := gName 5) (tt := tYes) rfl sc_law.nd (pi_list (pv 10)) (blkOk_by (N := ["script", "state", "k", "text", "expected", "point", "handed", "actual", "before", "data", "back", "other", "chars", "a", "part", "char"]) (sc := defScope s_law) (by decide +kernel)) (fun _ _ _ _ _ => pg_name (i := 5) sc_law.nd rfl (Or.inl rfl)) (fun _ _ _ _ _ => pts_nil) (fun _ _ _ _ _ => (pe_call (ok_law_is_integer T) (hr.mono (by decide)) (by rfl) T.g_law_is_integer T.F_law_is_integer.kp T.b_law_is_integer .nil pass0 (pa_cons (pv 5) pa_nil)))) pa_nil)))) (pw_or1 (pt_cmpR (op_neD (hu64 hr)) (pv 10) (pv 3) (nomark _)))))) (pss_one (ps_ret pe_bl)) pss_nil)
      (pss_cons (ps_expr (pe_bm PySem.F.plainAttrs_list PySem.F.slot_list_append PySem.F.type_list_append mt_append (pv 10) (pa_cons pe_int pa_nil)))
      (pss_cons (ps_expr (pe_bm PySem.F.plainAttrs_list PySem.F.slot_list_append PySem.F.type_list_append mt_append (pv 7) (pa_cons pe_int pa_nil)))
      (pss_cons (ps_if (PW.pt (pw_or (pt_cmpR (op_neD (hu64 hr)) (pe_call (ok_write_utf8 T) (hr.mono (by decide)) (by rfl) T.g_write_utf8 T.F_write_utf8.kp T.b_write_utf8 .nil pass0 (pa_cons (pv 3) pa_nil)) (pv 4) (nomark _)) (pw_or1 (pt_cmpR (op_neD (hu64 hr)) (pe_call (ok_read_utf8 T) (hr.mono (by decide)) (by rfl) T.g_read_utf8 T.F_read_utf8.kp T.b_read_utf8 .nil pass0 (pa_cons (pv 9) (pa_cons (pe_callB (r := rLenS K) call_len_seq (by rfl) T.m_len PySem.boot_len (pa_cons (pv 8) pa_nil)) (pa_cons (pe_op op_add (pe_callB (r := rLenS K) call_len_seq (by rfl) T.m_len PySem.boot_len (pa_cons (pv 8) pa_nil)) (pe_callB (r := rLenS K) call_len_seq (by rfl) T.m_len PySem.boot_len (pa_cons (pv 4) pa_nil))) pa_nil)))) (pv 3) (nomark _))))) (pss_one (ps_ret pe_bl)) pss_nil)
      (pss_cons (ps_set (i := 11) sc_law.nd rfl (Or.inl rfl) (pe_callTy (r := rListS K) call_list_of (by rfl) T.m_list PyProof.Rows.boot_list (pa_cons (pv 3) pa_nil)))
      (pss_cut (ps_if (pt_truth (pv 11) (by intro _; rfl)) (pss_cons (ps_set (i := 2) sc_law.nd rfl (Or.inl rfl) (pe_call (ok_law_draw T) (hr.mono (by decide)) (by rfl) T.g_law_draw T.F_law_draw.kp T.b_law_draw .nil pass0 (pa_cons (pv 1) (pa_cons (pv 0) (pa_cons (pe_callB (r := rLenS K) call_len_seq (by rfl) T.m_len PySem.boot_len (pa_cons (pv 11) pa_nil)) pa_nil)))))
        (pss_cons (ps_asg (pe_call (ok_law_point T) (hr.mono (by decide)) (by rfl) T.g_law_point T.F_law_point.kp T.b_law_point .nil pass0 (pa_cons (pv 1) (pa_cons (pv 0) pa_nil))) (pg_sub (pv 11) (pv 2) set_list))
        (pss_one (ps_if (pt_cmpR op_ne (pe_cmpR (op_eqD (hu64 hr)) (pe_call (ok_write_utf8 T) (hr.mono (by decide)) (by rfl) T.g_write_utf8 T.F_write_utf8.kp T.b_write_utf8 .nil pass0 (pa_cons (pv 11) pa_nil)) (pv 4) (nomark _)) (pe_cmpR (op_eqD (hu64 hr)) (pv 11) (pv 3) (nomark _)) (nomark _)) (pss_one (ps_ret pe_bl)) pss_nil)))) pss_nil)
      (pss_cons (ps_set (i := 12) sc_law.nd rfl (Or.inl rfl) pe_str)
      (pss_cons (ps_set (i := 12) sc_law.nd rfl (Or.inl rfl) (pe_op op_add_str (pv 12) pe_str))
      (pss_cons (ps_set (i := 13) sc_law.nd rfl (Or.inl rfl) (pe_call (ok_law_draw T) (hr.mono (by decide)) (by rfl) T.g_law_draw T.F_law_draw.kp T.b_law_draw .nil pass0 (pa_cons (pv 1) (pa_cons (pv 0) (pa_cons (pe_op op_add (pe_callB call_len_str (by rfl) T.m_len PySem.boot_len (pa_cons (pv 12) pa_nil)) pe_int) pa_nil)))))
      (pss_cons (ps_set (i := 14) sc_law.nd rfl (Or.inl rfl) (pe_slice (r := rSlS) sl_str (pv 12) (po_some (pv 13)) (po_some (pe_op op_add (pv 13) (pe_call (ok_law_draw T) (hr.mono (by decide)) (by rfl) T.g_law_draw T.F_law_draw.kp T.b_law_draw .nil pass0 (pa_cons (pv 1) (pa_cons (pv 0) (pa_cons pe_int pa_nil))))))))
      (pss_one (ps_ret (pe_and (pe_cmpR (op_eqD (hu64 hr)) (pe_call (ok_points_of T) (hr.mono (by decide)) (by rfl) T.g_points_of T.F_points_of.kp T.b_points_of .nil pass0 (pa_cons (pv 14) pa_nil)) (pe_lc (own := [("char", 15)]) (g := gName 15) (tt := tYes) rfl sc_law.nd (pi_str (pv 14)) (blkOk_by (N := ["script", "state", "k", "text", "expected", "point", "handed", "actual", "before", "data", "back", "other", "chars", "a", "part", "char"]) (sc := defScope s_law) (by decide +kernel)) (fun _ _ _ _ _ => pg_name (i := 15) sc_law.nd rfl (Or.inl rfl)) (fun _ _ _ _ _ => pts_nil) (fun _ _ _ _ _ => (pe_callB call_ord (by rfl) T.m_ord PyProof.Rows.boot_ord (pa_cons (pv 15) pa_nil)))) (nomark _)) (pe_one (pe_cmpR (op_eqD (hu64 hr)) (pe_call (ok_points_of T) (hr.mono (by decide)) (by rfl) T.g_points_of T.F_points_of.kp T.b_points_of .nil pass0 (pa_cons pe_str pa_nil)) (pe_lst pa_nil) (nomark _)))))))))))))))))))))))))), ?_⟩
  refine q_asgL (xs := [.int 0, .int 0]) (el_lst (ea_cons ev_c (ea_cons ev_c ea_nil)) (by decide)) fun s H1 hs e1 g1 => ?_
  have hd : DrS K H1 s a ns := ⟨⟨0, 0, g1⟩, scr_mk hs e1 hS⟩
  refine q_asgRaw (fun x H2 => ∃ (pt : Addr) (ts : List Nat), x = .ref pt ∧ Fr s H1 H2 ∧ pt ≠ s ∧ H2 pt = some (.lst ((cs ts).map V.int)) ∧ ts.length ≤ 12 ∧ ∀ t ∈ ts, ptOk t) (fun Q' q' => tlc_rngWW (wi_draw hd rfl rfl ev_c (by decide) (by decide)) (fun i hi => by obtain ⟨d, rfl, h⟩ := hi; omega) fun n H2 hn f2 Dl hD => ⟨fun i H' => ∃ ts : List Nat, Fr s H1 H' ∧ H' Dl = some (.lst ((cs ts).map V.int)) ∧ ts.length = i ∧ ∀ t ∈ ts, ptOk t, ⟨[], (f2.mut (f2.fresh hD) (ne_st f2.2 hD)), upd_same, rfl, fun t ht => by cases ht⟩, ?_, ?_⟩) ?_
  · rintro i H' hi ⟨ts, f, g, hl, hok⟩
    obtain ⟨d, rfl, hdn⟩ := hn
    have hDs := ne_st f2.2 hD
    refine ⟨rfl, ev_lpoint (hd.fr f) rfl rfl _ fun v H3 f3 hv => ?_⟩
    obtain ⟨p, rfl, hp⟩ := hv
    refine ⟨_, f3.l hDs g, sz_lt (by rw [List.length_map, cs_len]; omega), ts ++ [p], (f.trans f3).mut (f2.fresh hD) hDs, ?_, by rw [List.length_append, hl]; rfl, fun t ht => ?_⟩
    · rw [upd_same, cs_append, List.map_append]
      rfl
    · rcases List.mem_append.mp ht with h | h
      · exact hok t h
      · rw [List.mem_singleton.mp h]
        exact hp
  · rintro H' ⟨ts, f, g, hl, hok⟩
    obtain ⟨d, rfl, hdn⟩ := hn
    exact q' _ H' ⟨Dl, ts, rfl, f, ne_st f2.2 hD, g, by omega, hok⟩
  rintro _ H2 ⟨pt, ts, rfl, f2, hpts, g2, htl, hok⟩
  have hd2 := hd.fr f2
  have hlt : ∀ t ∈ ts, t < 2097152 := fun t ht => by have := (hok t ht).1; omega
  have hUl := utfB_len ts
  clear g1 e1 hS
  refine q_asgL (xs := []) (el_lst ea_nil (by decide)) fun pe0 H3 hpe0 e3 g3 => ?_
  refine q_forLn (K := K) (a := pt) (ev_var rfl) (sq_of (e3 _ _ g2)) (fun i σ' H' => ∃ (pe : Addr) (z : Option V), σ' = [some (.ref a), some (.ref s), none, some (.ref pt), some (.ref pe), z, none, none, none, none, none, none, none, none, none, none] ∧ Ex H3 H' ∧ pe ≠ s ∧ pe ≠ pt ∧ H' pe = some (.lst ((cs (utfB (ts.take i))).map V.int))) (fun H4 e4 => ⟨pe0, none, rfl, e4, ne_st hd2.1 hpe0, (ne_of_none g2 hpe0).symm, e4 _ _ g3⟩) (fun i σ' H' _ h => by obtain ⟨_, _, _, ex, _⟩ := h; exact sq_of (ex _ _ (e3 _ _ g2))) ?_ ?_
  · rintro i x σ' H4 hx ⟨pe, z, rfl, ex, hn1, hn2, g⟩
    obtain ⟨p, hp, hi, rfl⟩ := cs_get hx
    have hl1 := utfB_len (ts.take i)
    rw [List.length_take] at hl1
    have h4 := ptN_bd p
    refine s_asgL (el_cat (Ev.r (ev_var rfl) g) (EvL.r (el_call (xs := (cs (ptB p)).map V.int) (ea_cons (ev_var rfl) ea_nil) fun H5 _ Q' q' _ => ⟨p, rfl, hlt p (List.mem_of_getElem? hp), q'⟩)) (by rw [List.length_map, cs_len, List.length_map, cs_len, ptB_len]; omega)) fun pn H5 hpn e5 g5 => ⟨pn, _, rfl, ex.trans e5, ne_st ((hd2.ex e3).ex ex).1 hpn, (ne_of_none (ex _ _ (e3 _ _ g2)) hpn).symm, ?_⟩
    rw [g5, utfB_snoc hp, cs_append, List.map_append]
  rintro σ' H4 ⟨pe, z5, rfl, e4, hpes, hpept, ge⟩
  rw [List.length_map, cs_len, List.take_length] at ge
  have gt4 := e4 _ _ (e3 _ _ g2)
  have hd4 := (hd2.ex e3).ex e4
  refine q_asgL (xs := (cs ts).map V.int) (el_of (Ev.s (ev_var rfl) (sq_of gt4))) fun ph H5 hph e5 g5 => ?_
  refine q_asgL (xs := (cs (utfB ts)).map V.int) (el_wutf (Ev.s (ev_var rfl) (sq_of g5)) (by omega) hlt) fun pa H6 hpa e6 g6 => ?_
  have e46 := e5.trans e6
  refine q_when (b := false) (et_is (et_or (a := false) (b := false) (et_is (et_test (ev_neI (ns := cs ts) (ms := cs ts) (Ev.s (ev_var rfl) (sq_of (e6 _ _ g5))) (Ev.s (ev_var rfl) (sq_of (e46 _ _ gt4))))) (by simp)) fun _ => et_or (a := false) (b := false) (et_is (et_not (et_B (ev_isbytes (Ev.r (ev_var rfl) g6) (by omega) (utfB_lt hlt)))) rfl) fun _ => et_is (et_test (ev_neI (ns := cs (utfB ts)) (ms := cs (utfB ts)) (Ev.s (ev_var rfl) (sq_of g6)) (Ev.s (ev_var rfl) (sq_of (e46 _ _ ge))))) (by simp)) rfl) (fun h => by cases h) fun _ H7 e7 => ?_
  have hd7 := hd4.ex (e46.trans e7)
  have fB7 := (f2.tex (e3.trans e4)).tex (e46.trans e7)
  have hpaB := ((f2.tex (e3.trans e4)).tex e5).fresh hpa
  have gt7 := (e46.trans e7) _ _ gt4
  have ge7 := (e46.trans e7) _ _ ge
  have ga7 := e7 _ _ g6
  have hpas : pa ≠ s := ne_st (hd4.ex e5).1 hpa
  have hpapt : pa ≠ pt := (ne_of_none (e5 _ _ gt4) hpa).symm
  have hpape : pa ≠ pe := (ne_of_none (e5 _ _ ge) hpa).symm
  clear e3 e4 e5 e6 e7 e46 g2 g3 gt4 ge g5 g6 hd2 hd4
  refine qw_asgL (wl_junk hd7 rfl rfl (wi_draw hd7 rfl rfl ev_c (by decide) (by decide)) (fun z hz => by obtain ⟨d, rfl, h⟩ := hz; omega)) fun pb xs H8 hpb f8 gb hxs => ?_
  obtain ⟨b1, rfl, hb1l, -, hb1⟩ := hxs
  have hd8 := hd7.fr f8
  have hpbs := ne_st hd7.1 hpb
  have ga8 := f8.l hpas ga7
  have hpab : pa ≠ pb := ne_of_none ga7 hpb
  refine qw_asgL (wl_cat hd8.1 (el_cat (Ev.r (ev_var rfl) gb) (Ev.r (ev_var rfl) ga8) (by rw [List.length_map, cs_len, List.length_map, cs_len]; omega)) (fun H9 f9 => wl_junk (hd8.fr f9) rfl rfl (wi_draw (hd8.fr f9) rfl rfl ev_c (by decide) (by decide)) (fun z hz => by obtain ⟨d, rfl, h⟩ := hz; omega)) (fun ys hy => by obtain ⟨ds, rfl, hl, _⟩ := hy; rw [List.length_append, List.length_map, List.length_map, List.length_map, cs_len, cs_len, cs_len]; omega)) fun pd xs H9 hpd f9 gd hxs => ?_
  obtain ⟨_, ⟨b2, rfl, hb2l, -, hb2⟩, rfl⟩ := hxs
  have hds : ((cs b1).map V.int ++ (cs (utfB ts)).map V.int) ++ (cs b2).map V.int = (cs (b1 ++ (utfB ts ++ b2))).map V.int := by rw [cs_append, cs_append, List.map_append, List.map_append, List.append_assoc]
  rw [hds] at gd
  have hd9 := hd8.fr f9
  have hpad : pa ≠ pd := ne_of_none ga8 hpd
  have f79 := f8.trans f9
  have fB9 := fB7.trans f79
  have hpds := ne_st hd8.1 hpd
  have gt9 := f79.l hpts gt7
  have ge9 := f79.l hpes ge7
  have ga9 := f79.l hpas ga7
  have gb9 := f9.l hpbs gb
  clear f8 f9 f79 gt7 ge7 ga7 ga8 gb hd7 hd8
  have hlen : ∀ {σ : L2.St} {H' : Hp} {i : Nat} {p : Addr} {ds : List Nat}, σ[i]? = some (some (.ref p)) → H' p = some (.lst ((cs ds).map V.int)) → Ev (tCB (rLenS K) (tCons (tVar i) tNil)) σ H' (.int (ds.length : Int)) := fun h g => Ev.is (ev_lenS (Ev.s (ev_var h) (sq_of g))) (by rw [List.length_map, cs_len])
  refine q_asgL (xs := (cs ts).map V.int) (el_rutf (pre := b1) (post := b2) (Ev.s (ev_var rfl) (sq_of gd)) (hlen rfl gb9) (Ev.is (ev_I0 (hlen rfl gb9) (hlen rfl ga9)) (congrArg V.int (by omega))) (by omega) hok) fun pk H10 hpk e10 gk => ?_
  refine q_when (b := false) (et_is (et_or (a := false) (b := false) (et_is (et_not (et_B (ev_isiL (ev_var rfl) gk))) rfl) fun _ => et_or (a := false) (b := false) (et_is (et_not (et_B (ev_all (bs := (cs ts).map fun _ => true) (b := true) (EvR.s (EvL.r (EvL.is (xs := (cs ts).map fun _ => V.bl true) (el_lcS _ (Ev.s (ev_var rfl) (sq_of gk)) (by rw [List.length_map, List.length_map]) (by rw [List.length_map, cs_len]; omega) (fun _ => rfl) fun i x H11 e11 hx => ?_) (by rw [List.map_map]; rfl)))) (by simp)))) rfl) fun _ => et_is (et_test (ev_neI (ns := cs ts) (ms := cs ts) (Ev.s (ev_var rfl) (sq_of gk)) (Ev.s (ev_var rfl) (sq_of (e10 _ _ gt9))))) (by simp)) rfl) (fun h => by cases h) fun _ H11 e11 => ?_
  · obtain ⟨n, hn, hi, rfl⟩ := int_at hx
    exact ⟨.bl true, by rw [List.getElem?_map, hn]; rfl, ev_isint (ev_var rfl)⟩
  have e9_11 := e10.trans e11
  have fB11 := fB9.tex e9_11
  have hpkB := fB9.fresh hpk
  have gt11 := e9_11 _ _ gt9
  have ge11 := e9_11 _ _ ge9
  have ga11 := e9_11 _ _ ga9
  have gb11 := e9_11 _ _ gb9
  have gd11 := e9_11 _ _ gd
  have hpks := ne_st hd9.1 hpk
  have hkt : pt ≠ pk := ne_of_none gt9 hpk
  have hke : pe ≠ pk := ne_of_none ge9 hpk
  have hka : pa ≠ pk := ne_of_none ga9 hpk
  have hkb : pb ≠ pk := ne_of_none gb9 hpk
  have hkd : pd ≠ pk := ne_of_none gd hpk
  refine q_app (e11 _ _ gk) (ev_var rfl) ev_c (by rw [List.length_map, cs_len]; omega) fun H12 e12 => ?_
  have ga12 : (upd H12 pk (.lst ((cs ts).map V.int ++ [V.int 65]))) pa = some (.lst ((cs (utfB ts)).map V.int)) := by rw [upd_ne hka]; exact e12 _ _ ga11
  refine q_app ga12 (ev_var rfl) ev_c (by rw [List.length_map, cs_len]; omega) fun H13 e13 => ?_
  have keep : ∀ (p : Addr) (o : HO), p ≠ pk → p ≠ pa → H11 p = some o → (upd H13 pa (.lst ((cs (utfB ts)).map V.int ++ [V.int 65]))) p = some o := fun p o h1 h2 h3 => by
    rw [upd_ne h2]
    exact e13 _ _ (by rw [upd_ne h1]; exact e12 _ _ h3)
  have gt14 := keep pt _ hkt hpapt.symm gt11
  have ge14 := keep pe _ hke hpape.symm ge11
  have gb14 := keep pb _ hkb hpab.symm gb11
  have gd14 := keep pd _ hkd hpad.symm gd11
  have fB14 : Fr s H1 (upd H13 pa (.lst ((cs (utfB ts)).map V.int ++ [V.int 65]))) := (((fB11.tex e12).mut hpkB hpks).tex e13).mut hpaB hpas
  generalize upd H13 pa (.lst ((cs (utfB ts)).map V.int ++ [V.int 65])) = H14 at *
  have hd14 := hd.fr fB14
  refine q_when (b := false) (et_is (et_or (a := false) (b := false) (et_is (et_test (ev_neI (ns := cs (utfB ts)) (ms := cs (utfB ts)) (EvR.s (EvL.r (el_wutf (Ev.s (ev_var rfl) (sq_of gt14)) (by omega) hlt))) (Ev.s (ev_var rfl) (sq_of ge14)))) (by simp)) fun _ => et_is (et_test (ev_neI (ns := cs ts) (ms := cs ts) (EvR.s (EvL.r (el_rutf (pre := b1) (post := b2) (Ev.s (ev_var rfl) (sq_of gd14)) (hlen (ds := b1) rfl gb14) (Ev.is (ev_I0 (hlen (ds := b1) rfl gb14) (hlen (ds := utfB ts) rfl ge14)) (congrArg V.int (by omega))) (by omega) hok))) (Ev.s (ev_var rfl) (sq_of gt14)))) (by simp)) rfl) (fun h => by cases h) fun _ H15 e15 => ?_
  have hd15 := hd14.ex e15
  have gt15 := e15 _ _ gt14
  have ge15 := e15 _ _ ge14
  refine q_asgL (xs := (cs ts).map V.int) (el_of (Ev.s (ev_var rfl) (sq_of gt15))) fun po H16 hpo e16 g16 => ?_
  have gt16 := e16 _ _ gt15
  have ge16 := e16 _ _ ge15
  have hot : pt ≠ po := ne_of_none gt15 hpo
  have hoe : pe ≠ po := ne_of_none ge15 hpo
  have hos := ne_st hd15.1 hpo
  have fB16 := fB14.tex (e15.trans e16)
  have hpoB := (fB14.tex e15).fresh hpo
  refine q_cut (M := fun σ' H' => ∃ z2, σ' = [some (.ref a), some (.ref s), z2, some (.ref pt), some (.ref pe), z5, some (.ref ph), some (.ref pa), some (.ref pb), some (.ref pd), some (.ref pk), some (.ref po), none, none, none, none] ∧ Fr s H1 H') ?_ ?_
  · refine s_when (et_tru (ev_var rfl) (sq_of g16)) (fun htr H17 e17 => ?_) (fun _ H17 e17 => ⟨none, rfl, fB16.tex e17⟩)
    have hne : 0 < ts.length := by
      cases ts with
      | nil => cases htr
      | cons x r => rw [List.length_cons]; omega
    have g17 := e17 _ _ g16
    have fB17 := fB16.tex e17
    refine qw_asg (wi_draw (n := (ts.length : Int)) (hd.fr fB17) rfl rfl (hlen rfl g17) (by omega) (by omega)) fun z H18 f18 hz => ?_
    obtain ⟨d, rfl, hdl⟩ := hz
    have fB18 := fB17.trans f18
    refine qw_setLR (ev_lpoint (hd.fr fB18) rfl rfl) hos (f18.l hos g17) (fun _ => ev_var rfl) (fun _ => ev_var rfl) (j := d) (by rw [List.length_map, cs_len]; omega) fun v H19 hv f19 => ?_
    obtain ⟨p, rfl, hp⟩ := hv
    have fB20 := (fB18.trans f19).mut (o := .lst (((cs ts).map V.int).set d (V.int (p : Int)))) hpoB hos
    have go20 : (upd H19 po (.lst (((cs ts).map V.int).set d (V.int (p : Int))))) po = some (.lst ((cs (ts.set d p)).map V.int)) := by rw [upd_same, ← cs_set, List.map_set]
    have gt20 : (upd H19 po (.lst (((cs ts).map V.int).set d (V.int (p : Int))))) pt = some (.lst ((cs ts).map V.int)) := by rw [upd_ne hot]; exact f19.l hpts (f18.l hpts (e17 _ _ gt16))
    have ge20 : (upd H19 po (.lst (((cs ts).map V.int).set d (V.int (p : Int))))) pe = some (.lst ((cs (utfB ts)).map V.int)) := by rw [upd_ne hoe]; exact f19.l hpes (f18.l hpes (e17 _ _ ge16))
    generalize upd H19 po (.lst (((cs ts).map V.int).set d (V.int (p : Int)))) = H20 at *
    have hok2 : ∀ t ∈ ts.set d p, ptOk t := fun t ht => by
      rcases List.mem_or_eq_of_mem_set ht with h | h
      · exact hok t h
      · rw [h]
        exact hp
    have hlt2 : ∀ t ∈ ts.set d p, t < 2097152 := fun t ht => by have := (hok2 t ht).1; omega
    have hiff : decide (cs (utfB (ts.set d p)) = cs (utfB ts)) = decide (cs (ts.set d p) = cs ts) := by
      rw [cs_eqd, cs_eqd, decide_eq_decide]
      exact ⟨fun h => utfB_inj hok2 hok h, fun h => by rw [h]⟩
    refine s_when (b := false) (et_is (et_test (ev_ne (ev_eqI (ns := cs (utfB (ts.set d p))) (ms := cs (utfB ts)) (EvR.s (EvL.r (el_wutf (Ev.s (ev_var rfl) (sq_of go20)) (by rw [List.length_set]; omega) hlt2))) (Ev.s (ev_var rfl) (sq_of ge20))) (ev_eqI (ns := cs (ts.set d p)) (ms := cs ts) (Ev.s (ev_var rfl) (sq_of go20)) (Ev.s (ev_var rfl) (sq_of gt20))) rfl)) (by rw [hiff, decide_eq_true rfl]; rfl)) (fun h => by cases h) fun _ H21 e21 => ⟨_, rfl, fB20.tex e21⟩
  rintro σ' H17 ⟨z2, rfl, fB17⟩
  refine q_asg ev_c fun H18 e18 => ?_
  refine q_asgRaw (fun x H19 => ∃ z : Str, x = .str z ∧ z.cps.size = 96 ∧ Ex H18 H19) (fun Q' q' => ev_go (ev_adds (ev_var rfl) ev_c (by decide +kernel)) fun H19 e19 => q' _ H19 ⟨_, rfl, by decide +kernel, e19⟩) ?_
  rintro _ H19 ⟨z, rfl, hz, e19⟩
  have fB19 := (fB17.tex e18).tex e19
  have hzl : z.length = 96 := hz
  have hz2 : z.length ≤ sizeLine := by rw [hzl]; exact sz_of (by decide)
  refine qw_asg (wi_draw (n := (z.length : Int) + 1) (hd.fr fB19) rfl rfl (ev_I0 (ev_lens (ev_var rfl) hz2) ev_c) (by omega) (by omega)) fun i H20 f20 hi => ?_
  have fB20 := fB19.trans f20
  refine q_asgRaw (fun x H21 => ∃ y : Str, x = .str y ∧ y.cps.size ≤ 96 ∧ Fr s H1 H21) (fun Q' q' => ⟨.str z, rfl, .int i, rfl, i, rfl, .int i, rfl, wi_draw (n := 12) (hd.fr fB20) rfl rfl ev_c (by decide) (by decide) _ fun j H21 f21 hj => ⟨_, _, rfl, rfl, _, rfl, z, rfl, hz2, q' _ H21 ⟨_, rfl, ?_, fB20.trans f21⟩⟩⟩) ?_
  · unfold cutS
    rw [List.size_toArray, List.length_take, List.length_drop, Array.length_toList, hz]
    omega
  rintro _ H21 ⟨y, rfl, hy, fB21⟩
  refine s_ret (v := .bl true) (ev_is (ev_andV (a := true) (b := true) (Ev.is (ev_eqI (ns := cs y.cps.toList) (ms := cs y.cps.toList) (EvR.s (EvL.r (el_call (ea_cons (ev_var rfl) ea_nil) fun H22 _ Q' q' _ => ⟨y, rfl, by omega, q'⟩))) (EvR.s (EvL.r (el_ords (ev_var rfl) (by omega) (fun _ => rfl) (fun _ => rfl))))) (congrArg V.bl (decide_eq_true rfl))) fun _ => Ev.is (ev_eqI (ns := []) (ms := []) (EvR.s (EvL.r (el_call (ea_cons ev_c ea_nil) fun H22 _ Q' q' _ => ⟨_, rfl, by decide, q'⟩))) (EvR.s (EvL.r (el_lst ea_nil (by decide))))) (congrArg V.bl (decide_eq_true rfl))) rfl) fun H22 e22 => k _

end
theorem all_mk {l : PySem.W.OpenLaw} {w : World} {K : PySem.W.Frag} {h : Heap} {mg : Str → Option Value} {fa : Addr} {f1 f2 f3 f4 f5 f6 f7 f8 f9 f10 f11 f12 f13 f14 f15 f16 : Addr} (X : K.In h) (G : h.Ns mainGlobals mg) (hfa : mg "law" = some (.ref fa))
    {od1 an1 : Option Addr} {sl1 : Array (Option Value)} {oc1 dc1 pm1 cd1 ct1 : Value} {kV1 : Value} {od2 an2 : Option Addr} {sl2 : Array (Option Value)} {oc2 dc2 pm2 cd2 ct2 : Value} {kV2 : Value} {od3 an3 : Option Addr} {sl3 : Array (Option Value)} {oc3 dc3 pm3 cd3 ct3 : Value} {kV3 : Value} {od4 an4 : Option Addr} {sl4 : Array (Option Value)} {oc4 dc4 pm4 cd4 ct4 : Value} {kV4 : Value} {od5 an5 : Option Addr} {sl5 : Array (Option Value)} {oc5 dc5 pm5 cd5 ct5 : Value} {kV5 : Value} {od6 an6 : Option Addr} {sl6 : Array (Option Value)} {oc6 dc6 pm6 cd6 ct6 : Value} {kV6 : Value} {od7 an7 : Option Addr} {sl7 : Array (Option Value)} {oc7 dc7 pm7 cd7 ct7 : Value} {kV7 : Value} {od8 an8 : Option Addr} {sl8 : Array (Option Value)} {oc8 dc8 pm8 cd8 ct8 : Value} {kV8 : Value} {od9 an9 : Option Addr} {sl9 : Array (Option Value)} {oc9 dc9 pm9 cd9 ct9 : Value} {kV9 : Value} {od10 an10 : Option Addr} {sl10 : Array (Option Value)} {oc10 dc10 pm10 cd10 ct10 : Value} {kV10 : Value} {od11 an11 : Option Addr} {sl11 : Array (Option Value)} {oc11 dc11 pm11 cd11 ct11 : Value} {kV11 : Value} {od12 an12 : Option Addr} {sl12 : Array (Option Value)} {oc12 dc12 pm12 cd12 ct12 : Value} {kV12 : Value} {od13 an13 : Option Addr} {sl13 : Array (Option Value)} {oc13 dc13 pm13 cd13 ct13 : Value} {kV13 : Value} {od14 an14 : Option Addr} {sl14 : Array (Option Value)} {oc14 dc14 pm14 cd14 ct14 : Value} {kV14 : Value} {od15 an15 : Option Addr} {sl15 : Array (Option Value)} {oc15 dc15 pm15 cd15 ct15 : Value} {kV15 : Value} {od16 an16 : Option Addr} {sl16 : Array (Option Value)} {oc16 dc16 pm16 cd16 ct16 : Value} {kV16 : Value}
    (a1 : PySem.W.nsIn K mainGlobals "points_of" = some (some (.ref f1)))
    (l1 : K.lookup f1 = some ⟨oc1, od1, .func (PySem.W.fnOf "points_of" "points_of" (defArgs s_points_of) (defBody s_points_of) (defScope s_points_of) .none kV1 dc1 pm1 an1 cd1 ct1), sl1⟩) (c1 : PySem.W.codeIn K cd1 "points_of" = true) (k1 : PySem.W.keepIn K (.ref f1) = true)
    (a2 : PySem.W.nsIn K mainGlobals "write_utf8" = some (some (.ref f2)))
    (l2 : K.lookup f2 = some ⟨oc2, od2, .func (PySem.W.fnOf "write_utf8" "write_utf8" (defArgs s_write_utf8) (defBody s_write_utf8) (defScope s_write_utf8) .none kV2 dc2 pm2 an2 cd2 ct2), sl2⟩) (c2 : PySem.W.codeIn K cd2 "write_utf8" = true) (k2 : PySem.W.keepIn K (.ref f2) = true)
    (a3 : PySem.W.nsIn K mainGlobals "read_utf8" = some (some (.ref f3)))
    (l3 : K.lookup f3 = some ⟨oc3, od3, .func (PySem.W.fnOf "read_utf8" "read_utf8" (defArgs s_read_utf8) (defBody s_read_utf8) (defScope s_read_utf8) .none kV3 dc3 pm3 an3 cd3 ct3), sl3⟩) (c3 : PySem.W.codeIn K cd3 "read_utf8" = true) (k3 : PySem.W.keepIn K (.ref f3) = true)
    (a4 : PySem.W.nsIn K mainGlobals "_point_count" = some (some (.ref f4)))
    (l4 : K.lookup f4 = some ⟨oc4, od4, .func (PySem.W.fnOf "_point_count" "_point_count" (defArgs s_point_count) (defBody s_point_count) (defScope s_point_count) .none kV4 dc4 pm4 an4 cd4 ct4), sl4⟩) (c4 : PySem.W.codeIn K cd4 "_point_count" = true) (k4 : PySem.W.keepIn K (.ref f4) = true)
    (a5 : PySem.W.nsIn K mainGlobals "_least_first" = some (some (.ref f5)))
    (l5 : K.lookup f5 = some ⟨oc5, od5, .func (PySem.W.fnOf "_least_first" "_least_first" (defArgs s_least_first) (defBody s_least_first) (defScope s_least_first) .none kV5 dc5 pm5 an5 cd5 ct5), sl5⟩) (c5 : PySem.W.codeIn K cd5 "_least_first" = true) (k5 : PySem.W.keepIn K (.ref f5) = true)
    (a6 : PySem.W.nsIn K mainGlobals "_point_bytes" = some (some (.ref f6)))
    (l6 : K.lookup f6 = some ⟨oc6, od6, .func (PySem.W.fnOf "_point_bytes" "_point_bytes" (defArgs s_point_bytes) (defBody s_point_bytes) (defScope s_point_bytes) .none kV6 dc6 pm6 an6 cd6 ct6), sl6⟩) (c6 : PySem.W.codeIn K cd6 "_point_bytes" = true) (k6 : PySem.W.keepIn K (.ref f6) = true)
    (a7 : PySem.W.nsIn K mainGlobals "_count_told" = some (some (.ref f7)))
    (l7 : K.lookup f7 = some ⟨oc7, od7, .func (PySem.W.fnOf "_count_told" "_count_told" (defArgs s_count_told) (defBody s_count_told) (defScope s_count_told) .none kV7 dc7 pm7 an7 cd7 ct7), sl7⟩) (c7 : PySem.W.codeIn K cd7 "_count_told" = true) (k7 : PySem.W.keepIn K (.ref f7) = true)
    (a8 : PySem.W.nsIn K mainGlobals "_read_point" = some (some (.ref f8)))
    (l8 : K.lookup f8 = some ⟨oc8, od8, .func (PySem.W.fnOf "_read_point" "_read_point" (defArgs s_read_point) (defBody s_read_point) (defScope s_read_point) .none kV8 dc8 pm8 an8 cd8 ct8), sl8⟩) (c8 : PySem.W.codeIn K cd8 "_read_point" = true) (k8 : PySem.W.keepIn K (.ref f8) = true)
    (a9 : PySem.W.nsIn K mainGlobals "_law_is_integer" = some (some (.ref f9)))
    (l9 : K.lookup f9 = some ⟨oc9, od9, .func (PySem.W.fnOf "_law_is_integer" "_law_is_integer" (defArgs s_law_is_integer) (defBody s_law_is_integer) (defScope s_law_is_integer) .none kV9 dc9 pm9 an9 cd9 ct9), sl9⟩) (c9 : PySem.W.codeIn K cd9 "_law_is_integer" = true) (k9 : PySem.W.keepIn K (.ref f9) = true)
    (a10 : PySem.W.nsIn K mainGlobals "_law_refill" = some (some (.ref f10)))
    (l10 : K.lookup f10 = some ⟨oc10, od10, .func (PySem.W.fnOf "_law_refill" "_law_refill" (defArgs s_law_refill) (defBody s_law_refill) (defScope s_law_refill) .none kV10 dc10 pm10 an10 cd10 ct10), sl10⟩) (c10 : PySem.W.codeIn K cd10 "_law_refill" = true) (k10 : PySem.W.keepIn K (.ref f10) = true)
    (a11 : PySem.W.nsIn K mainGlobals "_law_draw" = some (some (.ref f11)))
    (l11 : K.lookup f11 = some ⟨oc11, od11, .func (PySem.W.fnOf "_law_draw" "_law_draw" (defArgs s_law_draw) (defBody s_law_draw) (defScope s_law_draw) .none kV11 dc11 pm11 an11 cd11 ct11), sl11⟩) (c11 : PySem.W.codeIn K cd11 "_law_draw" = true) (k11 : PySem.W.keepIn K (.ref f11) = true)
    (a12 : PySem.W.nsIn K mainGlobals "_law_junk" = some (some (.ref f12)))
    (l12 : K.lookup f12 = some ⟨oc12, od12, .func (PySem.W.fnOf "_law_junk" "_law_junk" (defArgs s_law_junk) (defBody s_law_junk) (defScope s_law_junk) .none kV12 dc12 pm12 an12 cd12 ct12), sl12⟩) (c12 : PySem.W.codeIn K cd12 "_law_junk" = true) (k12 : PySem.W.keepIn K (.ref f12) = true)
    (a13 : PySem.W.nsIn K mainGlobals "_law_is_bytes" = some (some (.ref f13)))
    (l13 : K.lookup f13 = some ⟨oc13, od13, .func (PySem.W.fnOf "_law_is_bytes" "_law_is_bytes" (defArgs s_law_is_bytes) (defBody s_law_is_bytes) (defScope s_law_is_bytes) .none kV13 dc13 pm13 an13 cd13 ct13), sl13⟩) (c13 : PySem.W.codeIn K cd13 "_law_is_bytes" = true) (k13 : PySem.W.keepIn K (.ref f13) = true)
    (a14 : PySem.W.nsIn K mainGlobals "_law_point" = some (some (.ref f14)))
    (l14 : K.lookup f14 = some ⟨oc14, od14, .func (PySem.W.fnOf "_law_point" "_law_point" (defArgs s_law_point) (defBody s_law_point) (defScope s_law_point) .none kV14 dc14 pm14 an14 cd14 ct14), sl14⟩) (c14 : PySem.W.codeIn K cd14 "_law_point" = true) (k14 : PySem.W.keepIn K (.ref f14) = true)
    (a15 : PySem.W.nsIn K mainGlobals "_law_bytes" = some (some (.ref f15)))
    (l15 : K.lookup f15 = some ⟨oc15, od15, .func (PySem.W.fnOf "_law_bytes" "_law_bytes" (defArgs s_law_bytes) (defBody s_law_bytes) (defScope s_law_bytes) .none kV15 dc15 pm15 an15 cd15 ct15), sl15⟩) (c15 : PySem.W.codeIn K cd15 "_law_bytes" = true) (k15 : PySem.W.keepIn K (.ref f15) = true)
    (a16 : PySem.W.nsIn K mainGlobals "law" = some (some (.ref f16)))
    (l16 : K.lookup f16 = some ⟨oc16, od16, .func (PySem.W.fnOf "law" "law" (defArgs s_law) (defBody s_law) (defScope s_law) .none kV16 dc16 pm16 an16 cd16 ct16), sl16⟩) (c16 : PySem.W.codeIn K cd16 "law" = true) (k16 : PySem.W.keepIn K (.ref f16) = true)
    (z_ord : PySem.W.nsIn K mainGlobals "ord" = some none)
    (z_range : PySem.W.nsIn K mainGlobals "range" = some none)
    (z_isinstance : PySem.W.nsIn K mainGlobals "isinstance" = some none)
    (z_int : PySem.W.nsIn K mainGlobals "int" = some none)
    (z_bool : PySem.W.nsIn K mainGlobals "bool" = some none)
    (z_len : PySem.W.nsIn K mainGlobals "len" = some none)
    (z_list : PySem.W.nsIn K mainGlobals "list" = some none)
    (z_all : PySem.W.nsIn K mainGlobals "all" = some none)
    : ∃ fd : FuncData, (∀ (s : Shared) (v : Value), BindsTo s fd ⟨[v], []⟩ [("script", v)]) ∧ ∀ base : Heap, K.In base → base.Ns mainGlobals mg → FnOk l.prog w K mg base CX0 4 fa fd ["script"] (sp_law K) := by
  have e := hfa.symm.trans (PySem.W.mg_of X G a16)
  cases e
  have F1 := fun_mk (st := s_points_of) l1 c1 k1
  have b1 := F1.binds (ps := ["string"]) fun _ _ _ _ _ _ us hl => match us, hl with | [_], _ => rfl
  have F2 := fun_mk (st := s_write_utf8) l2 c2 k2
  have b2 := F2.binds (ps := ["text"]) fun _ _ _ _ _ _ us hl => match us, hl with | [_], _ => rfl
  have F3 := fun_mk (st := s_read_utf8) l3 c3 k3
  have b3 := F3.binds (ps := ["data", "start", "stop"]) fun _ _ _ _ _ _ us hl => match us, hl with | [_, _, _], _ => rfl
  have F4 := fun_mk (st := s_point_count) l4 c4 k4
  have b4 := F4.binds (ps := ["point"]) fun _ _ _ _ _ _ us hl => match us, hl with | [_], _ => rfl
  have F5 := fun_mk (st := s_least_first) l5 c5 k5
  have b5 := F5.binds (ps := ["count"]) fun _ _ _ _ _ _ us hl => match us, hl with | [_], _ => rfl
  have F6 := fun_mk (st := s_point_bytes) l6 c6 k6
  have b6 := F6.binds (ps := ["point"]) fun _ _ _ _ _ _ us hl => match us, hl with | [_], _ => rfl
  have F7 := fun_mk (st := s_count_told) l7 c7 k7
  have b7 := F7.binds (ps := ["first"]) fun _ _ _ _ _ _ us hl => match us, hl with | [_], _ => rfl
  have F8 := fun_mk (st := s_read_point) l8 c8 k8
  have b8 := F8.binds (ps := ["data", "place", "count"]) fun _ _ _ _ _ _ us hl => match us, hl with | [_, _, _], _ => rfl
  have F9 := fun_mk (st := s_law_is_integer) l9 c9 k9
  have b9 := F9.binds (ps := ["actual"]) fun _ _ _ _ _ _ us hl => match us, hl with | [_], _ => rfl
  have F10 := fun_mk (st := s_law_refill) l10 c10 k10
  have b10 := F10.binds (ps := ["script", "k"]) fun _ _ _ _ _ _ us hl => match us, hl with | [_, _], _ => rfl
  have F11 := fun_mk (st := s_law_draw) l11 c11 k11
  have b11 := F11.binds (ps := ["state", "script", "size"]) fun _ _ _ _ _ _ us hl => match us, hl with | [_, _, _], _ => rfl
  have F12 := fun_mk (st := s_law_junk) l12 c12 k12
  have b12 := F12.binds (ps := ["state", "script", "count"]) fun _ _ _ _ _ _ us hl => match us, hl with | [_, _, _], _ => rfl
  have F13 := fun_mk (st := s_law_is_bytes) l13 c13 k13
  have b13 := F13.binds (ps := ["actual"]) fun _ _ _ _ _ _ us hl => match us, hl with | [_], _ => rfl
  have F14 := fun_mk (st := s_law_point) l14 c14 k14
  have b14 := F14.binds (ps := ["state", "script"]) fun _ _ _ _ _ _ us hl => match us, hl with | [_, _], _ => rfl
  have F15 := fun_mk (st := s_law_bytes) l15 c15 k15
  have b15 := F15.binds (ps := ["point"]) fun _ _ _ _ _ _ us hl => match us, hl with | [_], _ => rfl
  have F16 := fun_mk (st := s_law) l16 c16 k16
  have b16 := F16.binds (ps := ["script"]) fun _ _ _ _ _ _ us hl => match us, hl with | [_], _ => rfl
  let T : TX K mg := ⟨f1, _, F1, b1, (PySem.W.mg_of X G a1), f2, _, F2, b2, (PySem.W.mg_of X G a2), f3, _, F3, b3, (PySem.W.mg_of X G a3), f4, _, F4, b4, (PySem.W.mg_of X G a4), f5, _, F5, b5, (PySem.W.mg_of X G a5), f6, _, F6, b6, (PySem.W.mg_of X G a6), f7, _, F7, b7, (PySem.W.mg_of X G a7), f8, _, F8, b8, (PySem.W.mg_of X G a8), f9, _, F9, b9, (PySem.W.mg_of X G a9), f10, _, F10, b10, (PySem.W.mg_of X G a10), f11, _, F11, b11, (PySem.W.mg_of X G a11), f12, _, F12, b12, (PySem.W.mg_of X G a12), f13, _, F13, b13, (PySem.W.mg_of X G a13), f14, _, F14, b14, (PySem.W.mg_of X G a14), f15, _, F15, b15, (PySem.W.mg_of X G a15), fa, _, F16, b16, (PySem.W.mg_of X G a16), (PySem.W.mg_none_of X G z_ord), (PySem.W.mg_none_of X G z_range), (PySem.W.mg_none_of X G z_isinstance), (PySem.W.mg_none_of X G z_int), (PySem.W.mg_none_of X G z_bool), (PySem.W.mg_none_of X G z_len), (PySem.W.mg_none_of X G z_list), (PySem.W.mg_none_of X G z_all)⟩
  exact ⟨_, fun s v => .of_eq rfl, fun base _ _ => ok_law T⟩
end K48
open PySem PySem.W PyProof.Rows
set_option maxRecDepth 100000 in
set_option maxHeartbeats 0 in
theorem PySem.Challenge.cw_monochord_k48_text_bytes_holds : PySem.Challenge.rw_monochord_k48_text_bytes.Holds := by
  w_on; o_law; k_head; (case hw => w_witness2)
  k_fill
  refine L2.walk_of (l := PySem.Challenge.rw_monochord_k48_text_bytes) (n := 63) (k := 4) (x := "script") (CX := fun _ => L2.CX0) (sp := fun w => K48.sp_law _) rfl (by decide) rfl ⟨rfl, by decide, by decide⟩ (fun w h Y => PySem.W.kIn_of Y) ?F (fun _ _ a ns hl _ hS => ⟨a, ns, rfl, hS, hl, fun _ => rfl⟩) (fun _ _ _ _ _ h => h)
  case F =>
    intro w mg fa h KX G hmg
    refine' K48.all_mk KX G hmg ?a1 ?l1 ?c1 ?k1 ?a2 ?l2 ?c2 ?k2 ?a3 ?l3 ?c3 ?k3 ?a4 ?l4 ?c4 ?k4 ?a5 ?l5 ?c5 ?k5 ?a6 ?l6 ?c6 ?k6 ?a7 ?l7 ?c7 ?k7 ?a8 ?l8 ?c8 ?k8 ?a9 ?l9 ?c9 ?k9 ?a10 ?l10 ?c10 ?k10 ?a11 ?l11 ?c11 ?k11 ?a12 ?l12 ?c12 ?k12 ?a13 ?l13 ?c13 ?k13 ?a14 ?l14 ?c14 ?k14 ?a15 ?l15 ?c15 ?k15 ?a16 ?l16 ?c16 ?k16 ?z_ord ?z_range ?z_isinstance ?z_int ?z_bool ?z_len ?z_list ?z_all
    (case a1 => k_is)
    (case l1 => k_is)
    (case c1 => k_is)
    (case k1 => k_is)
    (case a2 => k_is)
    (case l2 => k_is)
    (case c2 => k_is)
    (case k2 => k_is)
    (case a3 => k_is)
    (case l3 => k_is)
    (case c3 => k_is)
    (case k3 => k_is)
    (case a4 => k_is)
    (case l4 => k_is)
    (case c4 => k_is)
    (case k4 => k_is)
    (case a5 => k_is)
    (case l5 => k_is)
    (case c5 => k_is)
    (case k5 => k_is)
    (case a6 => k_is)
    (case l6 => k_is)
    (case c6 => k_is)
    (case k6 => k_is)
    (case a7 => k_is)
    (case l7 => k_is)
    (case c7 => k_is)
    (case k7 => k_is)
    (case a8 => k_is)
    (case l8 => k_is)
    (case c8 => k_is)
    (case k8 => k_is)
    (case a9 => k_is)
    (case l9 => k_is)
    (case c9 => k_is)
    (case k9 => k_is)
    (case a10 => k_is)
    (case l10 => k_is)
    (case c10 => k_is)
    (case k10 => k_is)
    (case a11 => k_is)
    (case l11 => k_is)
    (case c11 => k_is)
    (case k11 => k_is)
    (case a12 => k_is)
    (case l12 => k_is)
    (case c12 => k_is)
    (case k12 => k_is)
    (case a13 => k_is)
    (case l13 => k_is)
    (case c13 => k_is)
    (case k13 => k_is)
    (case a14 => k_is)
    (case l14 => k_is)
    (case c14 => k_is)
    (case k14 => k_is)
    (case a15 => k_is)
    (case l15 => k_is)
    (case c15 => k_is)
    (case k15 => k_is)
    (case a16 => k_is)
    (case l16 => k_is)
    (case c16 => k_is)
    (case k16 => k_is)
    (case z_ord => k_is)
    (case z_range => k_is)
    (case z_isinstance => k_is)
    (case z_int => k_is)
    (case z_bool => k_is)
    (case z_len => k_is)
    (case z_list => k_is)
    (case z_all => k_is)
