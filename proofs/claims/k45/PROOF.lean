import PyProof.Rows.All
import Wide.All
import OpenK.AllK
import Wide.FinOn
import HandS.ForMost
import HandS.Steps
import HandS.Evl
import HandS.IsInst
import HandS.Wide
import HandS.Walk
import HandS.TryOnly
import HandS.Text
import PyProof.P3Eq
import PySem.Challenge.RW_monochord_k45_seek_table
set_option Elab.async false
set_option linter.all false
set_option maxRecDepth 100000
set_option maxHeartbeats 4000000
namespace K45
open PySem PySem.Spec PyProof.Rows L2 Evl
def topS (i : Nat) : Stmt := PySem.Challenge.pw_monochord_k45_seek_table.main.body.getD i (.Pass ⟨0, 0, 0, 0⟩)
abbrev s_big_bytes : Stmt := topS 5
theorem sc_big_bytes : FnScope ["number", "count", "shift"] ["number", "count"] (defScope s_big_bytes) := ⟨rfl, rfl, rfl, by decide +kernel, rfl, by decide +kernel, by decide +kernel⟩
abbrev s_big_number : Stmt := topS 6
theorem sc_big_number : FnScope ["data", "place", "count", "number", "byte"] ["data", "place", "count"] (defScope s_big_number) := ⟨rfl, rfl, rfl, by decide +kernel, rfl, by decide +kernel, by decide +kernel⟩
abbrev s_read_seektable : Stmt := topS 10
theorem sc_read_seektable : FnScope ["data", "start", "stop", "points", "place", "point"] ["data", "start", "stop"] (defScope s_read_seektable) := ⟨rfl, rfl, rfl, by decide +kernel, rfl, by decide +kernel, by decide +kernel⟩
abbrev s_write_seektable : Stmt := topS 11
theorem sc_write_seektable : FnScope ["points", "data", "point"] ["points"] (defScope s_write_seektable) := ⟨rfl, rfl, rfl, by decide +kernel, rfl, by decide +kernel, by decide +kernel⟩
abbrev s_is_ordered : Stmt := topS 12
theorem sc_is_ordered : FnScope ["points", "at"] ["points"] (defScope s_is_ordered) := ⟨rfl, rfl, rfl, by decide +kernel, rfl, by decide +kernel, by decide +kernel⟩
abbrev s_read_point : Stmt := topS 13
theorem sc_read_point : FnScope ["data", "place", "sample"] ["data", "place"] (defScope s_read_point) := ⟨rfl, rfl, rfl, by decide +kernel, rfl, by decide +kernel, by decide +kernel⟩
abbrev s_write_point : Stmt := topS 14
theorem sc_write_point : FnScope ["point", "sample", "offset", "count"] ["point"] (defScope s_write_point) := ⟨rfl, rfl, rfl, by decide +kernel, rfl, by decide +kernel, by decide +kernel⟩
abbrev s_may_follow : Stmt := topS 15
theorem sc_may_follow : FnScope ["before", "point"] ["before", "point"] (defScope s_may_follow) := ⟨rfl, rfl, rfl, by decide +kernel, rfl, by decide +kernel, by decide +kernel⟩
abbrev s_law_is_integer : Stmt := topS 17
theorem sc_law_is_integer : FnScope ["actual"] ["actual"] (defScope s_law_is_integer) := ⟨rfl, rfl, rfl, by decide +kernel, rfl, by decide +kernel, by decide +kernel⟩
abbrev s_law_refill : Stmt := topS 18
theorem sc_law_refill : FnScope ["script", "k", "cell"] ["script", "k"] (defScope s_law_refill) := ⟨rfl, rfl, rfl, by decide +kernel, rfl, by decide +kernel, by decide +kernel⟩
abbrev s_law_draw : Stmt := topS 19
theorem sc_law_draw : FnScope ["state", "script", "size", "digit"] ["state", "script", "size"] (defScope s_law_draw) := ⟨rfl, rfl, rfl, by decide +kernel, rfl, by decide +kernel, by decide +kernel⟩
abbrev s_law_wide : Stmt := topS 20
theorem sc_law_wide : FnScope ["state", "script", "size", "kind"] ["state", "script", "size"] (defScope s_law_wide) := ⟨rfl, rfl, rfl, by decide +kernel, rfl, by decide +kernel, by decide +kernel⟩
abbrev s_law_junk : Stmt := topS 21
theorem sc_law_junk : FnScope ["state", "script", "count", "k"] ["state", "script", "count"] (defScope s_law_junk) := ⟨rfl, rfl, rfl, by decide +kernel, rfl, by decide +kernel, by decide +kernel⟩
abbrev s_law_is_bytes : Stmt := topS 22
theorem sc_law_is_bytes : FnScope ["actual", "byte"] ["actual"] (defScope s_law_is_bytes) := ⟨rfl, rfl, rfl, by decide +kernel, rfl, by decide +kernel, by decide +kernel⟩
abbrev s_law_number_bytes : Stmt := topS 23
theorem sc_law_number_bytes : FnScope ["number", "count", "k"] ["number", "count"] (defScope s_law_number_bytes) := ⟨rfl, rfl, rfl, by decide +kernel, rfl, by decide +kernel, by decide +kernel⟩
abbrev s_law_points : Stmt := topS 24
theorem sc_law_points : FnScope ["state", "script", "points", "sample", "k"] ["state", "script"] (defScope s_law_points) := ⟨rfl, rfl, rfl, by decide +kernel, rfl, by decide +kernel, by decide +kernel⟩
abbrev s_law_body : Stmt := topS 25
theorem sc_law_body : FnScope ["points", "body", "point", "row"] ["points"] (defScope s_law_body) := ⟨rfl, rfl, rfl, by decide +kernel, rfl, by decide +kernel, by decide +kernel⟩
abbrev s_law_ascend : Stmt := topS 26
theorem sc_law_ascend : FnScope ["points", "k"] ["points"] (defScope s_law_ascend) := ⟨rfl, rfl, rfl, by decide +kernel, rfl, by decide +kernel, by decide +kernel⟩
abbrev s_law_same : Stmt := topS 27
theorem sc_law_same : FnScope ["actual", "points", "k", "one"] ["actual", "points"] (defScope s_law_same) := ⟨rfl, rfl, rfl, by decide +kernel, rfl, by decide +kernel, by decide +kernel⟩
abbrev s_law : Stmt := topS 28
theorem sc_law : FnScope ["script", "state", "points", "handed", "body", "before", "data", "kept", "told", "turned", "a", "b"] ["script"] (defScope s_law) := ⟨rfl, rfl, rfl, by decide +kernel, rfl, by decide +kernel, by decide +kernel⟩
theorem hu64 {A : Around} {k : Nat} (hr : Room k A) : A.units + 64 < cLine := hr.units
/-! ### short words for readings -/
theorem ret_eq {v w : V} {H H' : Hp} {Q : VK} (k : RetV v H Q) (ex : Ex H H') (e : w = v) : Q w H' := e ▸ k H' ex
/-- isinstance(x, T), T a built-in class -/
theorem ev_isi {K : PySem.W.Frag} {σ : L2.St} {H : Hp} {ta : TE} {x : V} {t : String} {T : String} {b : Bool} (ha : Ev ta σ H x) (ht : ∀ H1, Ex H H1 → TyX K H1 x (.type t)) (hk : kitB t T = some b) :
    Ev (tCB (rIsi K) (tCons ta (tCons (tC (.ty T)) tNil))) σ H (.bl b) :=
  ev_cb (ea_cons ha (ea_cons ev_c ea_nil)) fun H1 e Q q => ⟨x, .ty T, _, _, b, rfl, .ty T, ht H1 e, kit_ty hk, q H1 (Ex.refl H1)⟩
theorem isi_int {K : PySem.W.Frag} {H : Hp} {i : Int} : ∀ H1, Ex H H1 → TyX K H1 (V.int i) (.type "int") := fun _ _ => .base (.int _)
theorem isi_bl {K : PySem.W.Frag} {H : Hp} {b : Bool} : ∀ H1, Ex H H1 → TyX K H1 (V.bl b) (.type "bool") := fun _ _ => .base (.bl _)
theorem isi_non {K : PySem.W.Frag} {H : Hp} : ∀ H1, Ex H H1 → TyX K H1 V.non (.type "NoneType") := fun _ _ => .base .non
theorem isi_lst {K : PySem.W.Frag} {H : Hp} {a : Addr} {xs : List V} (h : H a = some (.lst xs)) : ∀ H1, Ex H H1 → TyX K H1 (V.ref a) (.type "list") := fun _ e => .base (.lst (e _ _ h))
theorem isi_tup {K : PySem.W.Frag} {H : Hp} {a : Addr} {xs : List V} (h : H a = some (.tup xs)) : ∀ H1, Ex H H1 → TyX K H1 (V.ref a) (.type "tuple") := fun _ e => .base (.tup (e _ _ h))
theorem kit_ii : kitB "int" "int" = some true := by decide +kernel
theorem kit_ib : kitB "int" "bool" = some false := by decide +kernel
theorem kit_bb : kitB "bool" "bool" = some true := by decide +kernel
theorem kit_bi : kitB "bool" "int" = some true := by decide +kernel
theorem kit_ll : kitB "list" "list" = some true := by decide +kernel
theorem kit_tt : kitB "tuple" "tuple" = some true := by decide +kernel
theorem ev_isiI {K : PySem.W.Frag} {σ : L2.St} {H : Hp} {ta : TE} {i : Int} (ha : Ev ta σ H (.int i)) : Ev (tCB (rIsi K) (tCons ta (tCons (tC (.ty "int")) tNil))) σ H (.bl true) := ev_isi ha isi_int kit_ii
theorem ev_isiB {K : PySem.W.Frag} {σ : L2.St} {H : Hp} {ta : TE} {i : Int} (ha : Ev ta σ H (.int i)) : Ev (tCB (rIsi K) (tCons ta (tCons (tC (.ty "bool")) tNil))) σ H (.bl false) := ev_isi ha isi_int kit_ib
theorem ev_isiL {K : PySem.W.Frag} {σ : L2.St} {H : Hp} {ta : TE} {a : Addr} {xs : List V} (ha : Ev ta σ H (.ref a)) (h : H a = some (.lst xs)) : Ev (tCB (rIsi K) (tCons ta (tCons (tC (.ty "list")) tNil))) σ H (.bl true) := ev_isi ha (isi_lst h) kit_ll
theorem ev_isiBB {K : PySem.W.Frag} {σ : L2.St} {H : Hp} {ta : TE} {b : Bool} (ha : Ev ta σ H (.bl b)) : Ev (tCB (rIsi K) (tCons ta (tCons (tC (.ty "bool")) tNil))) σ H (.bl true) := ev_isi ha isi_bl kit_bb
theorem ev_chain {σ : L2.St} {H : Hp} {ta tb tc : TE} {g g' : Int → Int → Bool} {a b c : Int} (ha : Ev ta σ H (.int a)) (hb : Ev tb σ H (.int b)) (hc : Ev tc σ H (.int c)) :
    Ev (tChain (rI0 fun i j => .bl (g i j)) (rI0 fun i j => .bl (g' i j)) ta tb tc) σ H (.bl (g a b && g' b c)) := fun H1 e Q q =>
  ha H1 e _ fun H2 e2 => hb H2 (e.trans e2) _ fun H3 e3 => ⟨a, b, rfl, rfl, g a b, rfl, by
    cases hg : g a b with
    | true =>
      rw [if_pos rfl]
      rw [hg, Bool.true_and] at q
      exact hc H3 ((e.trans e2).trans e3) _ fun H4 e4 => ⟨b, c, rfl, rfl, q H4 ((e2.trans e3).trans e4)⟩
    | false =>
      rw [if_neg (by decide)]
      rw [hg, Bool.false_and] at q
      exact q H3 (e2.trans e3)⟩
theorem ev_isN {σ : L2.St} {H : Hp} {ta : TE} {x : V} (ha : Ev ta σ H x) : Ev (tOp rIsN ta (tC .non)) σ H (.bl (decide (x = .non))) := fun H1 e Q q => ha H1 e _ fun H2 e2 => ⟨rfl, q H2 e2⟩
theorem ev_notN {σ : L2.St} {H : Hp} {ta : TE} {x : V} (ha : Ev ta σ H x) : Ev (tOp rNotN ta (tC .non)) σ H (.bl (!decide (x = .non))) := fun H1 e Q q => ha H1 e _ fun H2 e2 => ⟨rfl, q H2 e2⟩
theorem ev_min2 {σ : L2.St} {H : Hp} {ta tb : TE} {i j : Int} (ha : Ev ta σ H (.int i)) (hb : Ev tb σ H (.int j)) :
    Ev (tCB (fun xs H Q => ∃ i j, xs = [.int i, .int j] ∧ Q (.int (if j < i then j else i)) H) (tCons ta (tCons tb tNil))) σ H (.int (if j < i then j else i)) :=
  ev_cb (ea_cons ha (ea_cons hb ea_nil)) fun H1 _ _ q => ⟨i, j, rfl, q H1 (Ex.refl H1)⟩
theorem ev_negI {σ : L2.St} {H : Hp} {ta : TE} {i : Int} (ha : Ev ta σ H (.int i)) : Ev (tUn (rU fun i => .int (-i)) ta) σ H (.int (-i)) := ev_un ha ru_neg
theorem ev_I0 {σ : L2.St} {H : Hp} {ta tb : TE} {g : Int → Int → V} {i j : Int} (ha : Ev ta σ H (.int i)) (hb : Ev tb σ H (.int j)) : Ev (tOp (rI0 g) ta tb) σ H (g i j) := ev_op ha hb rv_I0
theorem ev_I {σ : L2.St} {H : Hp} {ta tb : TE} {C : Int → Int → Prop} {g : Int → Int → V} {i j : Int} (ha : Ev ta σ H (.int i)) (hb : Ev tb σ H (.int j)) (hc : C i j) : Ev (tOp (rI C g) ta tb) σ H (g i j) := ev_op ha hb (rv_I hc)
theorem ev_eq {σ : L2.St} {H : Hp} {ta tb : TE} {x y : V} (ha : Ev ta σ H x) (hb : Ev tb σ H y) (hs : scal x y = true) : Ev (tOp rEq ta tb) σ H (.bl (decide (x = y))) := ev_op ha hb (rv_eq hs)
theorem ev_ne {σ : L2.St} {H : Hp} {ta tb : TE} {x y : V} (ha : Ev ta σ H x) (hb : Ev tb σ H y) (hs : scal x y = true) : Ev (tOp rNe ta tb) σ H (.bl (!decide (x = y))) := ev_op ha hb (rv_ne hs)
theorem et_B' {σ : L2.St} {H : Hp} {te : TE} {x : V} {b : Bool} (h : Ev te σ H x) (e : x = .bl b) : EvT (tB te) σ H b := et_B (e ▸ h)
theorem dec_lt {a b : Nat} : decide ((a : Int) < (b : Int)) = decide (a < b) := by
  by_cases h : a < b
  · rw [decide_eq_true h, decide_eq_true (by omega)]
  · rw [decide_eq_false h, decide_eq_false (by omega)]
theorem int_at {ns : List Int} {i : Nat} {x : V} (hx : (ns.map V.int)[i]? = some x) : ∃ n, ns[i]? = some n ∧ i < ns.length ∧ x = V.int n := by
  rw [List.getElem?_map] at hx
  cases en : ns[i]? with
  | none => rw [en] at hx; cases hx
  | some n => rw [en] at hx; exact ⟨n, rfl, (List.getElem?_eq_some_iff.mp en).1, (Option.some.inj hx).symm⟩
theorem at_int {ns : List Int} {i : Nat} {n : Int} (h : ns[i]? = some n) : (ns.map V.int)[i]? = some (V.int n) := by rw [List.getElem?_map, h]; rfl
local macro_rules | `(tactic| walk_at "side") => `(tactic| first
  | omega | (show CMul _ _; unfold CMul; omega) | (show CDiv _ _; unfold CDiv; omega) | (show CPow _ _; unfold CPow; omega) | (show (_ : Int) < _; omega) | (show (_ : Int) ≤ _; omega) | decide)
local macro_rules | `(tactic| walk_at "ev") => `(tactic| first
  | exact ev_var rfl
  | exact ev_c
  | (refine' ev_I0 ?h1 ?h2; (case h1 => walk_at "ev"); (case h2 => walk_at "ev"))
  | (refine' ev_negI ?h1; (case h1 => walk_at "ev"))
  | (refine' ev_I ?h1 ?h2 ?hc; (case h1 => walk_at "ev"); (case h2 => walk_at "ev"); (case hc => walk_at "side"))
  | (refine' ev_eq ?h1 ?h2 ?hc; (case h1 => walk_at "ev"); (case h2 => walk_at "ev"); (case hc => rfl))
  | (refine' ev_ne ?h1 ?h2 ?hc; (case h1 => walk_at "ev"); (case h2 => walk_at "ev"); (case hc => rfl))
  | (refine' ev_max2 ?h1 ?h2; (case h1 => walk_at "ev"); (case h2 => walk_at "ev"))
  | (refine' ev_min2 ?h1 ?h2; (case h1 => walk_at "ev"); (case h2 => walk_at "ev"))
  | (refine' ev_chain ?h1 ?h2 ?h3; (case h1 => walk_at "ev"); (case h2 => walk_at "ev"); (case h3 => walk_at "ev"))
  | (refine' ev_isN ?h1; (case h1 => walk_at "ev"))
  | (refine' ev_notN ?h1; (case h1 => walk_at "ev"))
  | (refine' ev_isiI ?h1; (case h1 => walk_at "ev"))
  | (refine' ev_isiB ?h1; (case h1 => walk_at "ev"))
  | (refine' ev_isiBB ?h1; (case h1 => walk_at "ev"))
  | (refine' ev_andV ?h1 (fun _ => ?h2); (case h1 => walk_at "ev"); (case h2 => walk_at "ev"))
  | (refine' ev_orV ?h1 (fun _ => ?h2); (case h1 => walk_at "ev"); (case h2 => walk_at "ev"))
  | (refine' ev_notV ?h1; (case h1 => walk_at "ev"))
  | walk_at "evmore")
local macro_rules | `(tactic| walk_at "et") => `(tactic| first
  | (refine' et_test ?h1; (case h1 => walk_at "ev"))
  | (refine' et_B ?h1; (case h1 => walk_at "ev"))
  | (refine' et_not ?h1; (case h1 => walk_at "et"))
  | (refine' et_and ?h1 (fun _ => ?h2); (case h1 => walk_at "et"); (case h2 => walk_at "et"))
  | (refine' et_or ?h1 (fun _ => ?h2); (case h1 => walk_at "et"); (case h2 => walk_at "et")))
local macro_rules | `(tactic| walk_at "ea") => `(tactic| first
  | exact ea_nil
  | (refine' ea_cons ?h1 ?h2; (case h1 => walk_at "ev"); (case h2 => walk_at "ea")))
local macro_rules | `(tactic| walk_at "when") => `(tactic| (refine' q_when ?h ?h1 ?h2; (case h => walk_at "et")))
local macro_rules | `(tactic| walk_at "whenS") => `(tactic| (refine' s_when ?h ?h1 ?h2; (case h => walk_at "et")))
local macro_rules | `(tactic| walk_at "if") => `(tactic| (refine' q_if ?h ?h1 ?h2; (case h => walk_at "et")))
local macro_rules | `(tactic| walk_at "ifS") => `(tactic| (refine' s_if ?h ?h1 ?h2; (case h => walk_at "et")))
local macro_rules | `(tactic| walk_at "ret") => `(tactic| (refine' s_ret ?h ?h1; (case h => walk_at "ev")))
local macro_rules | `(tactic| walk_at "asg") => `(tactic| (refine' q_asg ?h ?h1; (case h => walk_at "ev")))
local macro_rules | `(tactic| walk_at "asgS") => `(tactic| (refine' s_asg ?h ?h1; (case h => walk_at "ev")))

/-! ### lists, existing or new -/
def EvR (te : TE) (σ : L2.St) (H : Hp) (xs : List V) : Prop := ∀ H1, Ex H H1 → ∀ Q : VK, (∀ p H2, Ex H1 H2 → H2 p = some (.lst xs) → Q (.ref p) H2) → te σ H1 Q
def EvS (K : PySem.W.Frag) (te : TE) (σ : L2.St) (H : Hp) (xs : List V) : Prop := ∀ H1, Ex H H1 → ∀ Q : VK, (∀ p H2, Ex H1 H2 → SqL K H2 p xs → Q (.ref p) H2) → te σ H1 Q
section
variable {K : PySem.W.Frag} {σ : L2.St} {H H' : Hp} {ta tb te : TE} {xs ys : List V} {a : Addr}
theorem EvL.r (h : EvL te σ H xs) : EvR te σ H xs := fun H1 e Q q => h H1 e Q fun p H2 _ e2 h2 => q p H2 e2 h2
theorem Ev.r (h : Ev te σ H (.ref a)) (hx : H a = some (.lst xs)) : EvR te σ H xs := fun H1 e Q q => h H1 e Q fun H2 e2 => q a H2 e2 (e2 _ _ (e _ _ hx))
theorem EvR.s (h : EvR te σ H xs) : EvS K te σ H xs := fun H1 e Q q => h H1 e Q fun p H2 e2 h2 => q p H2 e2 (sq_of h2)
theorem Ev.s (h : Ev te σ H (.ref a)) (hx : SqL K H a xs) : EvS K te σ H xs := fun H1 e Q q => h H1 e Q fun H2 e2 => q a H2 e2 (ex_l e2 (ex_l e hx))
theorem EvR.mono (e : Ex H H') (h : EvR te σ H xs) : EvR te σ H' xs := fun H1 a Q q => h H1 (e.trans a) Q q
theorem EvS.mono (e : Ex H H') (h : EvS K te σ H xs) : EvS K te σ H' xs := fun H1 a Q q => h H1 (e.trans a) Q q
theorem EvL.is (h : EvL te σ H xs) (e : xs = ys) : EvL te σ H ys := e ▸ h
theorem EvR.is (h : EvR te σ H xs) (e : xs = ys) : EvR te σ H ys := e ▸ h
theorem el_cat (ha : EvR ta σ H xs) (hb : EvR tb σ H ys) (hl : xs.length + ys.length ≤ 100000) : EvL (tOp rCat ta tb) σ H (xs ++ ys) := fun H1 e Q q =>
  ha H1 e _ fun p H2 e2 h2 => hb H2 (e.trans e2) _ fun r H3 e3 h3 => ⟨p, r, xs, ys, rfl, rfl, e3 _ _ h2, h3, sz_of hl, fun l hl => q l _ (fresh_back (e2.trans e3) hl) ((e2.trans e3).trans (Ex.new hl)) upd_same⟩
theorem el_rep {k : Int} (ha : EvR ta σ H xs) (hb : Ev tb σ H (.int k)) (hk : -(2 ^ 63) ≤ k ∧ k < 2 ^ 63) (hl : xs.length * k.toNat ≤ 100000) : EvL (tOp rRep ta tb) σ H (List.replicate k.toNat xs).flatten := fun H1 e Q q =>
  ha H1 e _ fun p H2 e2 h2 => hb H2 (e.trans e2) _ fun H3 e3 => ⟨p, k, xs, rfl, rfl, e3 _ _ h2, hk.1, hk.2, sz_of hl, fun l hl => q l _ (fresh_back (e2.trans e3) hl) ((e2.trans e3).trans (Ex.new hl)) upd_same⟩
theorem rep_one {x : V} (n : Nat) : (List.replicate n [x]).flatten = List.replicate n x := by
  induction n with
  | zero => rfl
  | succ n ih => rw [List.replicate_succ, List.replicate_succ, List.flatten_cons, ih]; rfl
theorem el_of {te : TE} (h : EvS K te σ H xs) : EvL (tCB (rListS K) (tCons te tNil)) σ H xs := fun H1 e Q q =>
  h H1 e _ fun p H2 e2 h2 => ⟨p, xs, rfl, .inl h2, fun l hl => q l _ (fresh_back e2 hl) (e2.trans (Ex.new hl)) upd_same⟩
theorem ev_lenS (h : EvS K te σ H xs) : Ev (tCB (rLenS K) (tCons te tNil)) σ H (.int (xs.length : Int)) := fun H1 e Q q =>
  h H1 e _ fun p H2 e2 h2 => ⟨p, xs, rfl, .inl h2, q H2 e2⟩
theorem ev_sum {ns : List Int} (h : EvS K te σ H (ns.map V.int)) : Ev (tCB (rSum K) (tCons te tNil)) σ H (.int ns.sum) := fun H1 e Q q =>
  h H1 e _ fun p H2 e2 h2 => ⟨p, ns, rfl, h2, q H2 e2⟩
theorem dp_ints {K : PySem.W.Frag} {H : Hp} : ∀ ns : List Int, DpAll K H (ns.map V.int) (ns.map PyData.int)
  | [] => .nil
  | n :: r => .cons (.int n) (dp_ints r)
theorem eqv_ints : ∀ ns ms : List Int, PyData.eqvAll (ns.map PyData.int) (ms.map PyData.int) = decide (ns = ms)
  | [], [] => by simp [PyData.eqvAll]
  | [], _ :: _ => by simp [PyData.eqvAll]
  | _ :: _, [] => by simp [PyData.eqvAll]
  | n :: r, m :: t => by
    show (PyData.eqv (.int n) (.int m) && PyData.eqvAll (r.map PyData.int) (t.map PyData.int)) = _
    rw [eqv_ints r t]
    show ((n == m) && decide (r = t)) = _
    by_cases h1 : n = m <;> by_cases h2 : r = t <;> simp [h1, h2]
theorem canLay_ints : ∀ ns : List Int, PyData.canLayAll0 (ns.map PyData.int) = true
  | [] => by simp [PyData.canLayAll0]
  | n :: r => by
    show PyData.canLayAll0 (PyData.int n :: r.map PyData.int) = true
    rw [PyData.canLayAll0, canLay_ints r]
    simp [PyData.canLay0]
theorem depth_ints : ∀ ns : List Int, PyData.depthAll (ns.map PyData.int) ≤ 1
  | [] => by simp [PyData.depthAll]
  | n :: r => by
    show PyData.depthAll (PyData.int n :: r.map PyData.int) ≤ 1
    have := depth_ints r
    simp only [PyData.depthAll, PyData.depth]
    omega
theorem shaped_ints (ns : List Int) : SeqAt.shaped (.list (ns.map PyData.int)) = true := by
  unfold SeqAt.shaped
  have h1 := canLay_ints ns
  have h2 := depth_ints ns
  have h3 : PyData.depth (.list (ns.map PyData.int)) ≤ 64 := by
    rw [PyData.depth]
    omega
  rw [decide_eq_true h3, Bool.and_true]
  simpa only [PyData.canLay0] using h1
theorem ev_eqI {ns ms : List Int} (ha : EvS K ta σ H (ns.map V.int)) (hb : EvS K tb σ H (ms.map V.int)) : Ev (tOp (rEqD K) ta tb) σ H (.bl (decide (ns = ms))) := fun H1 e Q q =>
  ha H1 e _ fun p H2 e2 h2 => hb H2 (e.trans e2) _ fun r H3 e3 h3 => ⟨.list (ns.map PyData.int), .list (ms.map PyData.int), .lst (ex_l e3 h2) (dp_ints ns), .lst h3 (dp_ints ms), shaped_ints ns, shaped_ints ms, by
    show Q (.bl (PyData.eqvAll (ns.map PyData.int) (ms.map PyData.int))) H3
    rw [eqv_ints]
    exact q H3 (e2.trans e3)⟩
theorem ev_neI {ns ms : List Int} (ha : EvS K ta σ H (ns.map V.int)) (hb : EvS K tb σ H (ms.map V.int)) : Ev (tOp (rNeD K) ta tb) σ H (.bl (!decide (ns = ms))) := fun H1 e Q q =>
  ha H1 e _ fun p H2 e2 h2 => hb H2 (e.trans e2) _ fun r H3 e3 h3 => ⟨.list (ns.map PyData.int), .list (ms.map PyData.int), .lst (ex_l e3 h2) (dp_ints ns), .lst h3 (dp_ints ms), shaped_ints ns, shaped_ints ms, by
    show Q (.bl (!PyData.eqvAll (ns.map PyData.int) (ms.map PyData.int))) H3
    rw [eqv_ints]
    exact q H3 (e2.trans e3)⟩
theorem ev_ixS {i : Nat} {n : Int} {tl ti : TE} {v : V} (h : EvS K tl σ H xs) (hi : Ev ti σ H (.int n)) (ha : atI xs n = some v) : Ev (tOp (rIxL K) tl ti) σ H v := fun H1 e Q q =>
  h H1 e _ fun p H2 e2 h2 => hi H2 (e.trans e2) _ fun H3 e3 => ⟨p, xs, n, v, rfl, rfl, ex_l e3 h2, ha, q H3 (e2.trans e3)⟩
theorem el_slS {tl th : TO} {lo hi : Option Int} (h : EvS K te σ H xs) (h1 : EvO tl σ H lo) (h2 : EvO th σ H hi) : EvL (tSl (rSlL K) te tl th) σ H (cutV xs lo hi) := fun H1 e _ q =>
  h H1 e _ fun a H2 e2 hs => h1 H2 (e.trans e2) _ fun H3 e3 => h2 H3 ((e.trans e2).trans e3) _ fun H4 e4 =>
    ⟨a, xs, rfl, ex_l (e3.trans e4) hs, fun p hp => q p _ (fresh_back ((e2.trans e3).trans e4) hp) (((e2.trans e3).trans e4).trans (Ex.new hp)) upd_same⟩
theorem ev_at {n : Int} {tl ti : TE} {v : V} (h : EvS K tl σ H xs) (hi : Ev ti σ H (.int n)) (ha : atI xs n = some v) : Ev (tOp (rIxL K) tl ti) σ H v := ev_ixS (i := 0) h hi ha
theorem cut_to (xs : List V) (i : Nat) : cutV xs none (some (i : Int)) = xs.take i := by
  unfold cutV
  rw [HT.sIx_none, HT.sIx_nat, List.drop_zero, Nat.sub_zero]
  by_cases h : i ≤ xs.length
  · rw [Nat.min_eq_left h]
  · rw [Nat.min_eq_right (by omega), List.take_of_length_le (Nat.le_refl _), List.take_of_length_le (by omega)]
theorem cut_from (xs : List V) (i : Nat) : cutV xs (some (i : Int)) none = xs.drop i := by
  unfold cutV
  rw [HT.sIx_none, HT.sIx_nat]
  by_cases h : i ≤ xs.length
  · rw [Nat.min_eq_left h, List.take_of_length_le (by rw [List.length_drop]; omega)]
  · rw [Nat.min_eq_right (by omega), List.drop_of_length_le (Nat.le_refl _), List.drop_of_length_le (show xs.length ≤ i by omega), List.take_nil]
theorem cut_mid (xs : List V) (i j : Nat) : cutV xs (some (i : Int)) (some (j : Int)) = (xs.drop i).take (j - i) := by
  unfold cutV
  rw [HT.sIx_nat, HT.sIx_nat]
  by_cases h : i ≤ xs.length
  · rw [Nat.min_eq_left h]
    by_cases h2 : j ≤ xs.length
    · rw [Nat.min_eq_left h2]
    · rw [Nat.min_eq_right (by omega), List.take_of_length_le (by rw [List.length_drop]; omega), List.take_of_length_le (by rw [List.length_drop]; omega)]
  · rw [Nat.min_eq_right (by omega : xs.length ≤ i), List.drop_of_length_le (Nat.le_refl _), List.drop_of_length_le (show xs.length ≤ i by omega)]
    simp
theorem el_to {th : TE} {ns : List Int} {i : Nat} (h : EvS K te σ H (ns.map V.int)) (h2 : Ev th σ H (.int i)) : EvL (tSl (rSlL K) te tNoPart (tPart th)) σ H ((ns.take i).map V.int) :=
  EvL.is (el_slS h eo_none (eo_some h2)) (by rw [List.map_take]; exact cut_to _ i)
theorem el_from {th : TE} {ns : List Int} {i : Nat} (h : EvS K te σ H (ns.map V.int)) (h2 : Ev th σ H (.int i)) : EvL (tSl (rSlL K) te (tPart th) tNoPart) σ H ((ns.drop i).map V.int) :=
  EvL.is (el_slS h (eo_some h2) eo_none) (by rw [List.map_drop]; exact cut_from _ i)
theorem el_mid {t1 t2 : TE} {ns : List Int} {i j : Nat} (h : EvS K te σ H (ns.map V.int)) (h1 : Ev t1 σ H (.int i)) (h2 : Ev t2 σ H (.int j)) : EvL (tSl (rSlL K) te (tPart t1) (tPart t2)) σ H (((ns.drop i).take (j - i)).map V.int) :=
  EvL.is (el_slS h (eo_some h1) (eo_some h2)) (by rw [List.map_take, List.map_drop]; exact cut_mid _ i j)
section
variable {D : Ends} {tz : TS} {sp : Sp} {dvs vs : List V} {E : XK} {tA : TA}
/-- x = f(..), whatever f promises -/
theorem q_asgC {i : Nat} (h : EvA tA σ H vs) (k : ∀ H1, Ex H H1 → sp (vs ++ dvs) H1 (fun x H2 => tz D (σ.set i (some x)) H2) E) : tSeq (tAsg (tCall sp dvs E tA) (gName i)) tz D σ H := h H (Ex.refl H) _ fun H1 e => k H1 e
theorem s_asgC {i : Nat} (h : EvA tA σ H vs) (k : ∀ H1, Ex H H1 → sp (vs ++ dvs) H1 (fun x H2 => D.nx (σ.set i (some x)) H2) E) : tAsg (tCall sp dvs E tA) (gName i) D σ H := h H (Ex.refl H) _ fun H1 e => k H1 e
theorem q_dropC (h : EvA tA σ H vs) (k : ∀ H1, Ex H H1 → sp (vs ++ dvs) H1 (fun _ H2 => tz D σ H2) E) : tSeq (tDrop (tCall sp dvs E tA)) tz D σ H := h H (Ex.refl H) _ fun H1 e => k H1 e
theorem s_retC (h : EvA tA σ H vs) (k : ∀ H1, Ex H H1 → sp (vs ++ dvs) H1 D.rt E) : tRet (tCall sp dvs E tA) D σ H := h H (Ex.refl H) _ fun H1 e => k H1 e
end
theorem gl_get {ns : List Int} {i : Nat} (h : i < ns.length) : ns[i]? = some (ns.getD i 0) := by
  rw [List.getD_eq_getElem?_getD, List.getElem?_eq_getElem h]
  rfl
theorem q_asgRaw {te : TE} {i : Nat} {D : Ends} {tz : TS} (P : V → Hp → Prop) (h : ∀ Q : VK, (∀ x H2, P x H2 → Q x H2) → te σ H Q) (k : ∀ x H2, P x H2 → tz D (σ.set i (some x)) H2) : tSeq (tAsg te (gName i)) tz D σ H := h _ k
/-- a, b = a pair -/
theorem q_asgT {te : TE} {i j : Nat} {D : Ends} {tz : TS} (P : V → V → Hp → Prop) (h : ∀ Q : VK, (∀ t x y H2, P x y H2 → SqT K H2 t [x, y] → Q (.ref t) H2) → te σ H Q) (k : ∀ x y H2, P x y H2 → tz D ((σ.set i (some x)).set j (some y)) H2) :
    tSeq (tAsg te (gTup K 2 (gCons (gName i) (gCons (gName j) gNil)))) tz D σ H := h _ fun t x y H2 hP hT => ⟨t, [x, y], rfl, hT, rfl, x, [y], rfl, y, [], rfl, rfl, k x y H2 hP⟩
/-- the law's cell -/
def cellI (ns : List Int) (k : Int) : Int := ns.getD k.toNat 0
theorem cellI_in {ns : List Int} {k : Int} (h0 : 0 ≤ k) (h : k < ns.length) : ns[k.toNat]? = some (cellI ns k) := by
  unfold cellI
  rw [List.getD_eq_getElem?_getD, List.getElem?_eq_getElem (by omega)]
  rfl
theorem cellI_out {ns : List Int} {k : Int} (h : ¬ k < ns.length) : cellI ns k = 0 := by
  unfold cellI
  rw [List.getD_eq_getElem?_getD, List.getElem?_eq_none (by omega)]
  rfl
end
theorem Ex.get {H H' : Hp} {a : Addr} {o : HO} (e : Ex H H') (h : H a = some o) : H' a = some o := e a o h
local macro_rules | `(tactic| walk_at "hp") => `(tactic| first
  | assumption
  | exact upd_same
  | (refine' Ex.get (by assumption) ?h1; (case h1 => walk_at "hp")))
local macro_rules | `(tactic| walk_at "ex") => `(tactic| first
  | assumption
  | exact Ex.refl _
  | (refine' Ex.trans ?h1 (by assumption); (case h1 => walk_at "ex")))
local macro_rules | `(tactic| walk_at "sq") => `(tactic| first
  | assumption
  | (refine' sq_of ?h1; (case h1 => walk_at "hp"))
  | (refine' ex_l (by assumption) ?h1; (case h1 => walk_at "sq")))
local macro_rules | `(tactic| walk_at "evs") => `(tactic| first
  | (refine' Ev.s ?h1 ?h2; (case h1 => exact ev_var rfl); (case h2 => walk_at "sq"))
  | (refine' EvR.s ?h1; (case h1 => walk_at "evr")))
local macro_rules | `(tactic| walk_at "evr") => `(tactic| first
  | (refine' Ev.r ?h1 ?h2; (case h1 => exact ev_var rfl); (case h2 => walk_at "hp"))
  | (refine' EvL.r ?h1; (case h1 => walk_at "el")))
local macro_rules | `(tactic| walk_at "eo") => `(tactic| first
  | exact eo_none
  | (refine' eo_some ?h1; (case h1 => walk_at "ev")))
local macro_rules | `(tactic| walk_at "el") => `(tactic| first
  | (refine' el_lst ?h1 ?h2; (case h1 => walk_at "ea"); (case h2 => exact Nat.le_of_ble_eq_true rfl))
  | (refine' el_cat ?h1 ?h2 ?h3; (case h1 => walk_at "evr"); (case h2 => walk_at "evr"); (case h3 => walk_at "len"))
  | (refine' el_rep ?h1 ?h2 ?h3 ?h4; (case h1 => walk_at "evr"); (case h2 => walk_at "ev"); (case h3 => walk_at "side2"); (case h4 => walk_at "len"))
  | (refine' el_of ?h1; (case h1 => walk_at "evs"))
  | (refine' el_to ?h1 ?h2; (case h1 => walk_at "evs"); (case h2 => walk_at "ev"))
  | (refine' el_from ?h1 ?h2; (case h1 => walk_at "evs"); (case h2 => walk_at "ev"))
  | (refine' el_mid ?h1 ?h2 ?h3; (case h1 => walk_at "evs"); (case h2 => walk_at "ev"); (case h3 => walk_at "ev"))
  | (refine' el_slS ?h1 ?h2 ?h3; (case h1 => walk_at "evs"); (case h2 => walk_at "eo"); (case h3 => walk_at "eo"))
  | walk_at "elmore")
local macro_rules | `(tactic| walk_at "evmore") => `(tactic| first
  | (refine' ev_lenS ?h1; (case h1 => walk_at "evs"))
  | (refine' ev_sum ?h1; (case h1 => walk_at "evs"))
  | (refine' ev_eqI ?h1 ?h2; (case h1 => walk_at "evs"); (case h2 => walk_at "evs"))
  | (refine' ev_neI ?h1 ?h2; (case h1 => walk_at "evs"); (case h2 => walk_at "evs"))
  | (refine' ev_at ?h1 ?h2 ?h3; (case h1 => walk_at "evs"); (case h2 => walk_at "ev"); (case h3 => walk_at "at"))
  | (refine' ev_isiL ?h1 ?h2; (case h1 => walk_at "ev"); (case h2 => walk_at "hp"))
  | walk_at "evown")
local macro_rules | `(tactic| walk_at "at") => `(tactic| first
  | exact at_of rfl (at_int (by assumption))
  | exact at_of rfl (by assumption))
local macro_rules | `(tactic| walk_at "asgL") => `(tactic| (refine' q_asgL ?h ?h1; (case h => walk_at "el")))
local macro_rules | `(tactic| walk_at "retL") => `(tactic| (refine' s_retL ?h ?h1; (case h => walk_at "el")))

/-- a walk's reading said in other words -/
theorem PI.k {X : Cx} {tg e : Expr} {wi wi' : TI} (h : PI X tg e wi) (q : wi = wi') : PI X tg e wi' := q ▸ h
/-! ### comprehensions whose items are said in a list -/
theorem et_yes {σ : L2.St} {H : Hp} : EvT tYes σ H true := fun H1 _ _ q => q H1 (Ex.refl H1)
section
variable {K : PySem.W.Frag} {σ : L2.St} {H : Hp} {t1 t2 te : TE} {xs ys zs : List V} {vs : List Nat}
theorem take_snoc {zs : List V} {i : Nat} {z : V} (h : zs[i]? = some z) : zs.take (i + 1) = zs.take i ++ [z] := by
  rw [List.take_add_one, h]
  rfl
theorem el_lcZ {j1 j2 : Nat} (zs : List V) (h1 : EvS K t1 σ H xs) (h2 : EvS K t2 σ H ys) (hz : zs.length = min xs.length ys.length) (hb : zs.length ≤ 50000)
    (hw : ∀ x y, wipe (((wipe σ vs).set j1 (some x)).set j2 (some y)) vs = wipe σ vs)
    (he : ∀ (i : Nat) (x y : V) H1, Ex H H1 → xs[i]? = some x → ys[i]? = some y → ∃ z, zs[i]? = some z ∧ Ev te (((wipe σ vs).set j1 (some x)).set j2 (some y)) H1 z) :
    EvL (tLc (iZip K (tCons t1 (tCons t2 tNil))) (gTup K 2 (gCons (gName j1) (gCons (gName j2) gNil))) tYes te vs) σ H zs := fun H0 e Q q =>
  h1 H0 e _ fun p H1 e1 hp => h2 H1 (e.trans e1) _ fun r H2 e2 hr => ⟨p, r, xs, ys, rfl, ex_l e2 hp, hr, fun D hD =>
    ⟨fun i m H' => m = zs.length - i ∧ i ≤ zs.length ∧ Ex H2 H' ∧ H' D = some (.lst (zs.take i)), ⟨zs.length, rfl, Nat.zero_le _, Ex.new hD, upd_same⟩, by
      rintro i m H' ⟨rfl, hi, ex, hd⟩
      have qx : SqL K H' p xs := ex_l (e2.trans ex) hp
      have qy : SqL K H' r ys := ex_l ex hr
      by_cases hlt : i < zs.length
      · have hx : xs[i]? = some xs[i] := List.getElem?_eq_getElem (by omega)
        have hy : ys[i]? = some ys[i] := List.getElem?_eq_getElem (by omega)
        refine .inr ⟨⟨xs, ys, _, _, qx, qy, hx, hy⟩, fun H3 => i + 1 ≤ zs.length ∧ Ex H2 H3 ∧ H3 D = some (.lst (zs.take (i + 1))), fun H3 h3 => ⟨zs.length - (i + 1), by omega, rfl, h3⟩, fun v H3 hv => ?_⟩
        obtain ⟨T, x, y, rfl, hT, rfl, f1, f2⟩ := hv
        have ex3 : Ex H' (upd H' T (.tup [x, y])) := Ex.new hT
        obtain ⟨z, hz1, hz2⟩ := he i x y (upd H' T (.tup [x, y])) ((((e.trans e1).trans e2).trans ex).trans ex3) (f1 _ qx) (f2 _ qy)
        refine ⟨T, [x, y], rfl, st_of upd_same, rfl, x, [y], rfl, y, [], rfl, rfl, hw x y, ?_⟩
        refine hz2 _ (Ex.refl _) _ fun H4 e4 => ⟨zs.take i, e4 _ _ (ex3 _ _ hd), sz_lt (by rw [List.length_take]; omega), hlt, ?_, ?_⟩
        · exact Ex.mut ((ex.trans ex3).trans e4) hD
        · rw [upd_same, take_snoc hz1]
      · have ei : i = zs.length := by omega
        refine .inl ⟨⟨xs, ys, qx, qy, by omega⟩, ?_⟩
        rw [ei, List.take_length] at hd
        exact q D H' (fresh_back (e1.trans e2) hD) ((e1.trans e2).trans ex) hd⟩⟩
/-- over a list, each item kept -/
theorem el_lcS {j : Nat} (zs : List V) (h1 : EvS K t1 σ H xs) (hz : zs.length = xs.length) (hb : zs.length ≤ 50000) (hw : ∀ x, wipe ((wipe σ vs).set j (some x)) vs = wipe σ vs)
    (he : ∀ (i : Nat) (x : V) H1, Ex H H1 → xs[i]? = some x → ∃ z, zs[i]? = some z ∧ Ev te ((wipe σ vs).set j (some x)) H1 z) :
    EvL (tLc (iList K t1) (gName j) tYes te vs) σ H zs := fun H0 e Q q =>
  h1 H0 e _ fun p H1 e1 hp => ⟨p, rfl, ⟨xs, hp⟩, fun D hD => lc_list (xs := xs) (fun i H' => Ex H1 H' ∧ H' D = some (.lst (zs.take i))) ⟨Ex.new hD, upd_same⟩ (fun i H' _ h => ex_l h.1 hp)
    (fun i x H' hi h => ⟨hw x, by
      obtain ⟨z, hz1, hz2⟩ := he i x H' ((e.trans e1).trans h.1) hi
      have hl : i < xs.length := (List.getElem?_eq_some_iff.mp hi).1
      refine hz2 H' (Ex.refl _) _ fun H4 e4 => ⟨zs.take i, e4 _ _ h.2, sz_lt (by rw [List.length_take]; omega), Ex.mut (h.1.trans e4) hD, ?_⟩
      rw [upd_same, take_snoc hz1]⟩)
    (fun H' h => q D H' (fresh_back e1 hD) (e1.trans h.1) (by rw [h.2, ← hz, List.take_length]))⟩
/-- over range(n) -/
theorem el_lcR {ta : TA} {n : Int} {j : Nat} (zs : List V) (h1 : EvA ta σ H [.int n]) (hn : -100000 ≤ n) (hz : zs.length = n.toNat) (hb : zs.length ≤ 50000) (hw : ∀ x, wipe ((wipe σ vs).set j (some x)) vs = wipe σ vs)
    (he : ∀ (i : Nat) H1, Ex H H1 → i < zs.length → ∃ z, zs[i]? = some z ∧ Ev te ((wipe σ vs).set j (some (.int (i : Int)))) H1 z) :
    EvL (tLc (iRng1 ta) (gName j) tYes te vs) σ H zs := fun H0 e Q q =>
  h1 H0 e _ fun H1 e1 => ⟨n, rfl, by omega, by omega, fun D hD => lc_range (lo := 0) (n := n.toNat) (fun i H' => Ex H1 H' ∧ H' D = some (.lst (zs.take i))) ⟨Ex.new hD, upd_same⟩
    (fun i H' hi h => by
      have e0 : (0 : Int) + (i : Int) = (i : Int) := Int.zero_add _
      rw [e0]
      obtain ⟨z, hz1, hz2⟩ := he i H' ((e.trans e1).trans h.1) (by omega)
      refine ⟨hw _, hz2 H' (Ex.refl _) _ fun H4 e4 => ⟨zs.take i, e4 _ _ h.2, sz_lt (by rw [List.length_take]; omega), Ex.mut (h.1.trans e4) hD, ?_⟩⟩
      rw [upd_same, take_snoc hz1])
    (fun H' h => q D H' (fresh_back e1 hD) (e1.trans h.1) (by rw [h.2, show n.toNat = zs.length by omega, List.take_length]))⟩
/-- y = [.. for x in f(..)], whatever f promises -/
theorem s_asgLC {sp : Sp} {dvs args : List V} {E : XK} {ta : TA} {g : TG} {tt : TT} {D : Ends} {i : Nat} (h : EvA ta σ H args) (k : ∀ H1, Ex H H1 → sp (args ++ dvs) H1 (fun x H2 => tAsg (tLc (iList K (tC x)) g tt te vs) (gName i) D σ H2) E) :
    tAsg (tLc (iList K (tCall sp dvs E ta)) g tt te vs) (gName i) D σ H := h H (Ex.refl H) _ fun H1 e => k H1 e
theorem q_asgLC {sp : Sp} {dvs args : List V} {E : XK} {ta : TA} {g : TG} {tt : TT} {D : Ends} {i : Nat} {tz : TS} (h : EvA ta σ H args) (k : ∀ H1, Ex H H1 → sp (args ++ dvs) H1 (fun x H2 => tSeq (tAsg (tLc (iList K (tC x)) g tt te vs) (gName i)) tz D σ H2) E) :
    tSeq (tAsg (tLc (iList K (tCall sp dvs E ta)) g tt te vs) (gName i)) tz D σ H := h H (Ex.refl H) _ fun H1 e => k H1 e
end

/-- [.. for j in range(lo, n)] -/
theorem el_lcR2 {σ : L2.St} {H : Hp} {te : TE} {vs : List Nat} {ta : TA} {lo n : Int} {j : Nat} (zs : List V) (h1 : EvA ta σ H [.int lo, .int n]) (hn : -100000 ≤ lo ∧ lo ≤ 100000 ∧ -100000 ≤ n ∧ n ≤ 100000) (hz : zs.length = (n - lo).toNat) (hb : zs.length ≤ 50000) (hw : ∀ x, wipe ((wipe σ vs).set j (some x)) vs = wipe σ vs)
    (he : ∀ (i : Nat) H1, Ex H H1 → i < zs.length → ∃ z, zs[i]? = some z ∧ Ev te ((wipe σ vs).set j (some (.int (lo + (i : Int))))) H1 z) :
    EvL (tLc (iRng2 ta) (gName j) tYes te vs) σ H zs := fun H0 e Q q =>
  h1 H0 e _ fun H1 e1 => ⟨lo, n, rfl, ⟨by omega, by omega, by omega, by omega⟩, fun D hD => lc_range (lo := lo) (n := (n - lo).toNat) (fun i H' => Ex H1 H' ∧ H' D = some (.lst (zs.take i))) ⟨Ex.new hD, upd_same⟩
    (fun i H' hi h => by
      obtain ⟨z, hz1, hz2⟩ := he i H' ((e.trans e1).trans h.1) (by omega)
      refine ⟨hw _, hz2 H' (Ex.refl _) _ fun H4 e4 => ⟨zs.take i, e4 _ _ h.2, sz_lt (by rw [List.length_take]; omega), Ex.mut (h.1.trans e4) hD, ?_⟩⟩
      rw [upd_same, take_snoc hz1])
    (fun H' h => q D H' (fresh_back e1 hD) (e1.trans h.1) (by rw [h.2, ← hz, List.take_length]))⟩

/-! ### data at any depth -/
mutual
theorem dp_ex {K : PySem.W.Frag} {H H' : Hp} (e : Ex H H') : ∀ (d : PyData) (v : V), Dp K H v d → Dp K H' v d
  | .none, _, h => by cases h; exact .non
  | .bool b, _, h => by cases h; exact .bl b
  | .int i, _, h => by cases h; exact .int i
  | .str x, _, h => by cases h; exact .str x
  | .list ds, _, h => by cases h with | lst hs ha => exact .lst (ex_l e hs) (dpa_ex e ds _ ha)
  | .tuple ds, _, h => by cases h with | tup hs ha => exact .tup (ex_t e hs) (dpa_ex e ds _ ha)
  | .dict _, _, h => by cases h
theorem dpa_ex {K : PySem.W.Frag} {H H' : Hp} (e : Ex H H') : ∀ (ds : List PyData) (vs : List V), DpAll K H vs ds → DpAll K H' vs ds
  | [], _, h => by cases h; exact .nil
  | d :: ds, _, h => by cases h with | cons h1 h2 => exact .cons (dp_ex e d _ h1) (dpa_ex e ds _ h2)
end
def EvD (K : PySem.W.Frag) (te : TE) (σ : L2.St) (H : Hp) (d : PyData) : Prop := ∀ H1, Ex H H1 → ∀ Q : VK, (∀ v H2, Ex H1 H2 → Dp K H2 v d → Q v H2) → te σ H1 Q
section
variable {K : PySem.W.Frag} {σ : L2.St} {H : Hp} {te ta tb t1 t2 t3 : TE} {d d1 d2 d3 : PyData} {v : V}
theorem EvD.of (h : Ev te σ H v) (hd : Dp K H v d) : EvD K te σ H d := fun H1 e Q q => h H1 e _ fun H2 e2 => q v H2 e2 (dp_ex (e.trans e2) d v hd)
theorem EvS.toD {ns : List Int} (h : EvS K te σ H (ns.map V.int)) : EvD K te σ H (.list (ns.map .int)) := fun H1 e Q q => h H1 e _ fun p H2 e2 hp => q (.ref p) H2 e2 (.lst hp (dp_ints ns))
theorem ed_tup2 (h1 : EvD K t1 σ H d1) (h2 : EvD K t2 σ H d2) : EvD K (tTup (tCons t1 (tCons t2 tNil))) σ H (.tuple [d1, d2]) := fun H1 e Q q => h1 H1 e _ fun v H2 e2 hv => h2 H2 (e.trans e2) _ fun u H3 e3 hu =>
  ⟨sz_of (show 2 ≤ 100000 by decide), fun p hp => q (.ref p) _ ((e2.trans e3).trans (Ex.new hp)) (.tup (st_of upd_same) (.cons (dp_ex (e3.trans (Ex.new hp)) _ _ hv) (.cons (dp_ex (Ex.new hp) _ _ hu) .nil)))⟩
theorem ev_eqDD (h1 : EvD K ta σ H d) (h2 : EvD K tb σ H d) (hs : SeqAt.shaped d = true) : Ev (tOp (rEqD K) ta tb) σ H (.bl true) := fun H1 e Q q => h1 H1 e _ fun v H2 e2 hv => h2 H2 (e.trans e2) _ fun u H3 e3 hu =>
  ⟨d, d, dp_ex e3 d v hv, hu, hs, hs, by rw [SeqAt.eqv_refl d (SeqAt.canLay_of_shaped hs)]; exact q H3 (e2.trans e3)⟩
theorem ev_neDD (h1 : EvD K ta σ H d) (h2 : EvD K tb σ H d) (hs : SeqAt.shaped d = true) : Ev (tOp (rNeD K) ta tb) σ H (.bl false) := fun H1 e Q q => h1 H1 e _ fun v H2 e2 hv => h2 H2 (e.trans e2) _ fun u H3 e3 hu =>
  ⟨d, d, dp_ex e3 d v hv, hu, hs, hs, by rw [SeqAt.eqv_refl d (SeqAt.canLay_of_shaped hs)]; exact q H3 (e2.trans e3)⟩
end
theorem shaped_pair (ns ms : List Int) : SeqAt.shaped (.tuple [.list (ns.map .int), .list (ms.map .int)]) = true := by
  unfold SeqAt.shaped
  have h1 := canLay_ints ns
  have h2 := depth_ints ns
  have h3 := canLay_ints ms
  have h4 := depth_ints ms
  rw [Bool.and_eq_true, decide_eq_true_iff]
  refine ⟨by simp only [PyData.canLay0, PyData.canLayAll0, h1, h3, Bool.and_self], ?_⟩
  simp only [PyData.depth, PyData.depthAll]
  omega

/-- what the top has left -/
structure TX (K : PySem.W.Frag) (mg : Str → Option Value) where
  a_big_bytes : Addr
  d_big_bytes : FuncData
  F_big_bytes : Fun K "big_bytes" "big_bytes" s_big_bytes a_big_bytes d_big_bytes
  b_big_bytes : Binds K d_big_bytes ["number", "count"] []
  g_big_bytes : mg "big_bytes" = some (.ref a_big_bytes)
  a_big_number : Addr
  d_big_number : FuncData
  F_big_number : Fun K "big_number" "big_number" s_big_number a_big_number d_big_number
  b_big_number : Binds K d_big_number ["data", "place", "count"] []
  g_big_number : mg "big_number" = some (.ref a_big_number)
  a_read_seektable : Addr
  d_read_seektable : FuncData
  F_read_seektable : Fun K "read_seektable" "read_seektable" s_read_seektable a_read_seektable d_read_seektable
  b_read_seektable : Binds K d_read_seektable ["data", "start", "stop"] []
  g_read_seektable : mg "read_seektable" = some (.ref a_read_seektable)
  a_write_seektable : Addr
  d_write_seektable : FuncData
  F_write_seektable : Fun K "write_seektable" "write_seektable" s_write_seektable a_write_seektable d_write_seektable
  b_write_seektable : Binds K d_write_seektable ["points"] []
  g_write_seektable : mg "write_seektable" = some (.ref a_write_seektable)
  a_is_ordered : Addr
  d_is_ordered : FuncData
  F_is_ordered : Fun K "is_ordered" "is_ordered" s_is_ordered a_is_ordered d_is_ordered
  b_is_ordered : Binds K d_is_ordered ["points"] []
  g_is_ordered : mg "is_ordered" = some (.ref a_is_ordered)
  a_read_point : Addr
  d_read_point : FuncData
  F_read_point : Fun K "_read_point" "_read_point" s_read_point a_read_point d_read_point
  b_read_point : Binds K d_read_point ["data", "place"] []
  g_read_point : mg "_read_point" = some (.ref a_read_point)
  a_write_point : Addr
  d_write_point : FuncData
  F_write_point : Fun K "_write_point" "_write_point" s_write_point a_write_point d_write_point
  b_write_point : Binds K d_write_point ["point"] []
  g_write_point : mg "_write_point" = some (.ref a_write_point)
  a_may_follow : Addr
  d_may_follow : FuncData
  F_may_follow : Fun K "_may_follow" "_may_follow" s_may_follow a_may_follow d_may_follow
  b_may_follow : Binds K d_may_follow ["before", "point"] []
  g_may_follow : mg "_may_follow" = some (.ref a_may_follow)
  a_law_is_integer : Addr
  d_law_is_integer : FuncData
  F_law_is_integer : Fun K "_law_is_integer" "_law_is_integer" s_law_is_integer a_law_is_integer d_law_is_integer
  b_law_is_integer : Binds K d_law_is_integer ["actual"] []
  g_law_is_integer : mg "_law_is_integer" = some (.ref a_law_is_integer)
  a_law_refill : Addr
  d_law_refill : FuncData
  F_law_refill : Fun K "_law_refill" "_law_refill" s_law_refill a_law_refill d_law_refill
  b_law_refill : Binds K d_law_refill ["script", "k"] []
  g_law_refill : mg "_law_refill" = some (.ref a_law_refill)
  a_law_draw : Addr
  d_law_draw : FuncData
  F_law_draw : Fun K "_law_draw" "_law_draw" s_law_draw a_law_draw d_law_draw
  b_law_draw : Binds K d_law_draw ["state", "script", "size"] []
  g_law_draw : mg "_law_draw" = some (.ref a_law_draw)
  a_law_wide : Addr
  d_law_wide : FuncData
  F_law_wide : Fun K "_law_wide" "_law_wide" s_law_wide a_law_wide d_law_wide
  b_law_wide : Binds K d_law_wide ["state", "script", "size"] []
  g_law_wide : mg "_law_wide" = some (.ref a_law_wide)
  a_law_junk : Addr
  d_law_junk : FuncData
  F_law_junk : Fun K "_law_junk" "_law_junk" s_law_junk a_law_junk d_law_junk
  b_law_junk : Binds K d_law_junk ["state", "script", "count"] []
  g_law_junk : mg "_law_junk" = some (.ref a_law_junk)
  a_law_is_bytes : Addr
  d_law_is_bytes : FuncData
  F_law_is_bytes : Fun K "_law_is_bytes" "_law_is_bytes" s_law_is_bytes a_law_is_bytes d_law_is_bytes
  b_law_is_bytes : Binds K d_law_is_bytes ["actual"] []
  g_law_is_bytes : mg "_law_is_bytes" = some (.ref a_law_is_bytes)
  a_law_number_bytes : Addr
  d_law_number_bytes : FuncData
  F_law_number_bytes : Fun K "_law_number_bytes" "_law_number_bytes" s_law_number_bytes a_law_number_bytes d_law_number_bytes
  b_law_number_bytes : Binds K d_law_number_bytes ["number", "count"] []
  g_law_number_bytes : mg "_law_number_bytes" = some (.ref a_law_number_bytes)
  a_law_points : Addr
  d_law_points : FuncData
  F_law_points : Fun K "_law_points" "_law_points" s_law_points a_law_points d_law_points
  b_law_points : Binds K d_law_points ["state", "script"] []
  g_law_points : mg "_law_points" = some (.ref a_law_points)
  a_law_body : Addr
  d_law_body : FuncData
  F_law_body : Fun K "_law_body" "_law_body" s_law_body a_law_body d_law_body
  b_law_body : Binds K d_law_body ["points"] []
  g_law_body : mg "_law_body" = some (.ref a_law_body)
  a_law_ascend : Addr
  d_law_ascend : FuncData
  F_law_ascend : Fun K "_law_ascend" "_law_ascend" s_law_ascend a_law_ascend d_law_ascend
  b_law_ascend : Binds K d_law_ascend ["points"] []
  g_law_ascend : mg "_law_ascend" = some (.ref a_law_ascend)
  a_law_same : Addr
  d_law_same : FuncData
  F_law_same : Fun K "_law_same" "_law_same" s_law_same a_law_same d_law_same
  b_law_same : Binds K d_law_same ["actual", "points"] []
  g_law_same : mg "_law_same" = some (.ref a_law_same)
  a_law : Addr
  d_law : FuncData
  F_law : Fun K "law" "law" s_law a_law d_law
  b_law : Binds K d_law ["script"] []
  g_law : mg "law" = some (.ref a_law)
  m_range : mg "range" = none
  m_len : mg "len" = none
  m_all : mg "all" = none
  m_isinstance : mg "isinstance" = none
  m_int : mg "int" = none
  m_bool : mg "bool" = none
  m_list : mg "list" = none
  m_tuple : mg "tuple" = none
  u_POINT_LENGTH : Value
  c_POINT_LENGTH : mg "_POINT_LENGTH" = some u_POINT_LENGTH
  r_POINT_LENGTH : RelV (.int (18)) u_POINT_LENGTH
  u_NO_SAMPLE : Value
  c_NO_SAMPLE : mg "_NO_SAMPLE" = some u_NO_SAMPLE
  r_NO_SAMPLE : RelV (.int (18446744073709551615)) u_NO_SAMPLE
section
variable {P : Program} {w : World} {K : PySem.W.Frag} {mg : Str → Option Value} {base : Heap}
/-! ### int(x), bits of a number -/
theorem Ev.is {σ : L2.St} {H : Hp} {te : TE} {x y : V} (h : Ev te σ H x) (e : x = y) : Ev te σ H y := e ▸ h
theorem ev_int1 {σ : L2.St} {H : Hp} {te : TE} {i : Int} (h : Ev te σ H (.int i)) : Ev (tCB (fun xs H Q => (∃ i, xs = [V.int i] ∧ Q (V.int i) H) ∨ ∃ k, xs = [V.bl k] ∧ Q (V.int (if k = true then 1 else 0)) H) (tCons te tNil)) σ H (.int i) :=
  ev_cb (ea_cons h ea_nil) fun H1 _ Q q => .inl ⟨i, rfl, q H1 (Ex.refl H1)⟩
theorem q_augR {σ : L2.St} {H : Hp} {te : TE} {D : Ends} {tz : TS} {i : Nat} {g : Int → Int → V} {a b : Int} (h1 : σ[i]? = some (some (.int a))) (h : Ev te σ H (.int b)) (k : ∀ H1, Ex H H1 → tz D (σ.set i (some (g a b))) H1) : tSeq (tAug i te (rI0 g)) tz D σ H :=
  ⟨_, h1, h H (Ex.refl H) _ fun H1 e => ⟨a, b, rfl, rfl, k H1 e⟩⟩
theorem s_augR {σ : L2.St} {H : Hp} {te : TE} {D : Ends} {i : Nat} {g : Int → Int → V} {a b : Int} (h1 : σ[i]? = some (some (.int a))) (h : Ev te σ H (.int b)) (k : ∀ H1, Ex H H1 → D.nx (σ.set i (some (g a b))) H1) : tAug i te (rI0 g) D σ H :=
  ⟨_, h1, h H (Ex.refl H) _ fun H1 e => ⟨a, b, rfl, rfl, k H1 e⟩⟩
theorem ev_atT {K : PySem.W.Frag} {σ : L2.St} {H : Hp} {tl ti : TE} {t : Addr} {xs : List V} {n : Int} {v : V} (h : Ev tl σ H (.ref t)) (hT : SqT K H t xs) (hi : Ev ti σ H (.int n)) (ha : atI xs n = some v) : Ev (tOp (rIxT K) tl ti) σ H v := fun H1 e Q q =>
  h H1 e _ fun H2 e2 => hi H2 (e.trans e2) _ fun H3 e3 => ⟨t, xs, n, v, rfl, rfl, ex_t ((e.trans e2).trans e3) hT, ha, q H3 (e2.trans e3)⟩
local macro_rules | `(tactic| walk_at "side") => `(tactic| first
  | omega
  | (show CDivW _ _; exact ⟨by omega, by decide⟩)
  | (show CDivW _ _; exact wide_div (b := 80) (by omega) (by omega) (by decide) (by decide)))
local macro_rules | `(tactic| walk_at "evown") => `(tactic| (refine' ev_int1 ?h1; (case h1 => walk_at "ev")))
/-- numbers from 0 on, as such -/
def cs (ds : List Nat) : List Int := ds.map fun d : Nat => (d : Int)
theorem cs_of {ns : List Int} {b : Int} (h : ∀ n ∈ ns, 0 ≤ n ∧ n < b) : ∃ ds : List Nat, ns = cs ds ∧ ds.length = ns.length ∧ ∀ d ∈ ds, (d : Int) < b := by
  refine ⟨ns.map Int.toNat, ?_, List.length_map .., fun d hd => ?_⟩
  · unfold cs
    rw [List.map_map]
    conv => lhs; rw [← List.map_id ns]
    refine List.map_congr_left fun n hn => ?_
    have := (h n hn).1
    show n = ((n.toNat : Nat) : Int)
    omega
  · obtain ⟨n, hn, rfl⟩ := List.mem_map.mp hd
    have := h n hn
    omega
theorem cs_len (ds : List Nat) : (cs ds).length = ds.length := List.length_map ..
theorem cs_at {ds : List Nat} {i : Nat} {d : Nat} (h : ds[i]? = some d) : (cs ds)[i]? = some (d : Int) := by unfold cs; rw [List.getElem?_map, h]; rfl
theorem cs_take (ds : List Nat) (i : Nat) : (cs ds).take i = cs (ds.take i) := by unfold cs; rw [List.map_take]
theorem cs_drop (ds : List Nat) (i : Nat) : (cs ds).drop i = cs (ds.drop i) := by unfold cs; rw [List.map_drop]
theorem cs_append (ds es : List Nat) : cs (ds ++ es) = cs ds ++ cs es := List.map_append ..

theorem ev_all {σ : L2.St} {H : Hp} {te : TE} {bs : List Bool} {b : Bool} (h : EvS K te σ H (bs.map V.bl)) (hb : bs.all id = b) : Ev (tCB (rAll K) (tCons te tNil)) σ H (.bl b) := fun H1 e Q q => h H1 e _ fun p H2 e2 hp => ⟨p, bs, rfl, hp, by rw [hb]; exact q H2 e2⟩

/-! ### from what is evaluated to what follows -/
theorem ev_go {te : TE} {σ : L2.St} {H : Hp} {v : V} {Q : VK} (h : Ev te σ H v) (k : ∀ H2, Ex H H2 → Q v H2) : te σ H Q := h H (Ex.refl H) Q k
theorem et_go {t : TT} {σ : L2.St} {H : Hp} {b : Bool} {Q : Bool → Hp → Prop} (h : EvT t σ H b) (k : ∀ H2, Ex H H2 → Q b H2) : t σ H Q := h H (Ex.refl H) Q k
theorem el_go {te : TE} {σ : L2.St} {H : Hp} {xs : List V} {Q : VK} (h : EvL te σ H xs) (k : ∀ p H2, H p = none → Ex H H2 → H2 p = some (.lst xs) → Q (.ref p) H2) : te σ H Q := h H (Ex.refl H) Q k
theorem eu_go {te : TE} {σ : L2.St} {H : Hp} {xs : List V} {Q : VK} (h : EvU te σ H xs) (k : ∀ p H2, H p = none → Ex H H2 → H2 p = some (.tup xs) → Q (.ref p) H2) : te σ H Q := h H (Ex.refl H) Q k
theorem ea_go {t : TA} {σ : L2.St} {H : Hp} {vs : List V} {Q : List V → Hp → Prop} (h : EvA t σ H vs) (k : ∀ H2, Ex H H2 → Q vs H2) : t σ H Q := h H (Ex.refl H) Q k
/-! ### the law's state, a list of two numbers, which draws change -/
theorem et_tru {σ : L2.St} {H : Hp} {te : TE} {a : Addr} {xs : List V} (h : Ev te σ H (.ref a)) (hs : SqL K H a xs) : EvT (fun σ H Q => te σ H fun x H' => ∃ k, TruV K x H' k ∧ Q k H') σ H (!xs.isEmpty) := fun H1 e Q q => h H1 e _ fun H2 e2 => ⟨_, .inl ⟨xs, ex_l (e.trans e2) hs, rfl⟩, q H2 e2⟩
def StAt (H : Hp) (s : Addr) : Prop := ∃ k c : Int, H s = some (.lst [.int k, .int c])
def Fr (s : Addr) (H H' : Hp) : Prop := (∀ b o, b ≠ s → H b = some o → H' b = some o) ∧ StAt H' s
theorem Fr.refl {s : Addr} {H : Hp} (st : StAt H s) : Fr s H H := ⟨fun _ _ _ h => h, st⟩
theorem Fr.ex {s : Addr} {H H' : Hp} (st : StAt H s) (e : Ex H H') : Fr s H H' := ⟨fun b o _ h => e b o h, by obtain ⟨k, c, h⟩ := st; exact ⟨k, c, e _ _ h⟩⟩
theorem Fr.trans {s : Addr} {H H1 H2 : Hp} (h : Fr s H H1) (g : Fr s H1 H2) : Fr s H H2 := ⟨fun b o n e => g.1 b o n (h.1 b o n e), g.2⟩
theorem Fr.tex {s : Addr} {H H1 H2 : Hp} (h : Fr s H H1) (e : Ex H1 H2) : Fr s H H2 := h.trans (Fr.ex h.2 e)
theorem Fr.fresh {s p : Addr} {H H' : Hp} (h : Fr s H H') (hp : H' p = none) : H p = none := by
  have hs : p ≠ s := by
    rintro rfl
    obtain ⟨k, c, g⟩ := h.2
    rw [g] at hp
    cases hp
  cases e : H p with
  | none => rfl
  | some o =>
    have := h.1 p o hs e
    rw [this] at hp
    cases hp
theorem ne_st {s p : Addr} {H : Hp} (st : StAt H s) (hp : H p = none) : p ≠ s := by
  rintro rfl
  obtain ⟨k, c, g⟩ := st
  rw [g] at hp
  cases hp
theorem Fr.mut {s p : Addr} {H H1 : Hp} {o : HO} (h : Fr s H H1) (hp : H p = none) (hs : p ≠ s) : Fr s H (upd H1 p o) := ⟨fun b u n e => by rw [upd_ne (ne_of_none e hp)]; exact h.1 b u n e, by obtain ⟨k, c, g⟩ := h.2; exact ⟨k, c, by rw [upd_ne (Ne.symm hs)]; exact g⟩⟩
theorem Fr.l {s a : Addr} {H H' : Hp} {xs : List V} (h : Fr s H H') (hs : a ≠ s) (q : H a = some (.lst xs)) : H' a = some (.lst xs) := h.1 a _ hs q
/-- a list, seen through all draws -/
def Scr (K : PySem.W.Frag) (s a : Addr) (H : Hp) (xs : List V) : Prop := ∀ H', Fr s H H' → SqL K H' a xs
theorem scr_mk {s a : Addr} {H H1 : Hp} {xs : List V} (hs : H s = none) (e : Ex H H1) (q : SqL K H a xs) : Scr K s a H1 xs := fun H' fr => by
  rcases q with q | q
  · rcases q with q | ⟨o, q⟩
    · exact .inl (.inl (fr.1 _ _ (ne_of_none q hs) (e _ _ q)))
    · exact .inl (.inr ⟨o, fr.1 _ _ (ne_of_none q hs) (e _ _ q)⟩)
  · exact .inr q
def DrS (K : PySem.W.Frag) (H : Hp) (s a : Addr) (ns : List Int) : Prop := StAt H s ∧ Scr K s a H (ns.map V.int)
theorem DrS.fr {H H' : Hp} {s a : Addr} {ns : List Int} (h : DrS K H s a ns) (f : Fr s H H') : DrS K H' s a ns := ⟨f.2, fun H2 g => h.2 H2 (f.trans g)⟩
theorem DrS.ex {H H' : Hp} {s a : Addr} {ns : List Int} (h : DrS K H s a ns) (e : Ex H H') : DrS K H' s a ns := h.fr (Fr.ex h.1 e)
theorem DrS.sq {H : Hp} {s a : Addr} {ns : List Int} (h : DrS K H s a ns) : SqL K H a (ns.map V.int) := h.2 H (Fr.refl h.1)
/-! numbers, tests that draw on the way -/
def EvI (s : Addr) (te : TE) (σ : L2.St) (H : Hp) (p : Int → Prop) : Prop := ∀ Q : VK, (∀ i H2, Fr s H H2 → p i → Q (.int i) H2) → te σ H Q
def EvTW (s : Addr) (t : TT) (σ : L2.St) (H : Hp) (p : Bool → Prop) : Prop := ∀ Q : Bool → Hp → Prop, (∀ b H2, Fr s H H2 → p b → Q b H2) → t σ H Q
section
variable {s : Addr} {σ : L2.St} {H : Hp} {ta tb te : TE} {p q : Int → Prop}
theorem wi_ev {i : Int} (st : StAt H s) (h : Ev te σ H (.int i)) : EvI s te σ H (fun z => z = i) := fun Q q => h H (Ex.refl H) _ fun H2 e2 => q i H2 (Fr.ex st e2) rfl
theorem wi_imp {p q : Int → Prop} (h : EvI s te σ H p) (hi : ∀ z, p z → q z) : EvI s te σ H q := fun Q k => h Q fun i H2 f hp => k i H2 f (hi i hp)
theorem wi_op {g : Int → Int → Int} (ha : EvI s ta σ H p) (hb : ∀ H1, Fr s H H1 → EvI s tb σ H1 q) : EvI s (tOp (rI0 fun i j => .int (g i j)) ta tb) σ H (fun z => ∃ i j, p i ∧ q j ∧ z = g i j) := fun Q k =>
  ha _ fun i H1 f1 hp => hb H1 f1 _ fun j H2 f2 hq => ⟨i, j, rfl, rfl, k _ H2 (f1.trans f2) ⟨i, j, hp, hq, rfl⟩⟩
theorem wi_opC {C : Int → Int → Prop} {g : Int → Int → Int} (ha : EvI s ta σ H p) (hb : ∀ H1, Fr s H H1 → EvI s tb σ H1 q) (hc : ∀ i j, p i → q j → C i j) : EvI s (tOp (rI C fun i j => .int (g i j)) ta tb) σ H (fun z => ∃ i j, p i ∧ q j ∧ z = g i j) := fun Q k =>
  ha _ fun i H1 f1 hp => hb H1 f1 _ fun j H2 f2 hq => ⟨i, j, rfl, rfl, hc i j hp hq, k _ H2 (f1.trans f2) ⟨i, j, hp, hq, rfl⟩⟩
theorem wt_cmp {g : Int → Int → Bool} (ha : EvI s ta σ H p) (hb : ∀ H1, Fr s H H1 → EvI s tb σ H1 q) : EvTW s (tTest (tOp (rI0 fun i j => .bl (g i j)) ta tb)) σ H (fun b => ∃ i j, p i ∧ q j ∧ b = g i j) := fun Q k =>
  ha _ fun i H1 f1 hp => hb H1 f1 _ fun j H2 f2 hq => ⟨i, j, rfl, rfl, g i j, rfl, k _ H2 (f1.trans f2) ⟨i, j, hp, hq, rfl⟩⟩
theorem wt_eq (ha : EvI s ta σ H p) (hb : ∀ H1, Fr s H H1 → EvI s tb σ H1 q) : EvTW s (tTest (tOp rEq ta tb)) σ H (fun b => ∃ i j, p i ∧ q j ∧ b = decide (i = j)) := fun Q k =>
  ha _ fun i H1 f1 hp => hb H1 f1 _ fun j H2 f2 hq => ⟨rfl, decide (V.int i = V.int j), rfl, k _ H2 (f1.trans f2) ⟨i, j, hp, hq, by simp⟩⟩
theorem wt_ev {t : TT} {b : Bool} (st : StAt H s) (h : EvT t σ H b) : EvTW s t σ H (fun z => z = b) := fun Q q => h H (Ex.refl H) _ fun H2 e2 => q b H2 (Fr.ex st e2) rfl
theorem wt_and {t u : TT} {p q : Bool → Prop} (h1 : EvTW s t σ H p) (h2 : ∀ H1, Fr s H H1 → p true → EvTW s u σ H1 q) : EvTW s (tAnd t u) σ H (fun b => (p false ∧ b = false) ∨ (p true ∧ q b)) := fun Q k => h1 _ fun b H1 f1 hb => by
  cases b with
  | true => exact h2 H1 f1 hb _ fun c H2 f2 hc => k c H2 (f1.trans f2) (.inr ⟨hb, hc⟩)
  | false => exact k false H1 f1 (.inl ⟨hb, rfl⟩)
theorem wt_not {t : TT} {p : Bool → Prop} (h1 : EvTW s t σ H p) : EvTW s (tNot t) σ H (fun b => p (!b)) := fun Q k => h1 _ fun b H1 f1 hb => k (!b) H1 f1 (by show p (!!b); rw [Bool.not_not]; exact hb)
variable {D : Ends} {tz tu : TS}
theorem qw_asg {j : Nat} (h : EvI s te σ H p) (k : ∀ i H1, Fr s H H1 → p i → tz D (σ.set j (some (.int i))) H1) : tSeq (tAsg te (gName j)) tz D σ H := h _ k
theorem sw_asg {j : Nat} (h : EvI s te σ H p) (k : ∀ i H1, Fr s H H1 → p i → D.nx (σ.set j (some (.int i))) H1) : tAsg te (gName j) D σ H := h _ k
theorem sw_ret (h : EvI s te σ H p) (k : ∀ i H1, Fr s H H1 → p i → D.rt (.int i) H1) : tRet te D σ H := h _ k
theorem qw_when {t : TT} {p : Bool → Prop} (h : EvTW s t σ H p) (h1 : p true → ∀ H1, Fr s H H1 → tu { D with nx := tz D } σ H1) (h2 : p false → ∀ H1, Fr s H H1 → tz D σ H1) : tSeq (tIfS t tu tNext) tz D σ H := h _ fun b H1 f hb => by
  cases b with
  | true => exact h1 hb H1 f
  | false => exact h2 hb H1 f
theorem sw_when {t : TT} {p : Bool → Prop} (h : EvTW s t σ H p) (h1 : p true → ∀ H1, Fr s H H1 → tu D σ H1) (h2 : p false → ∀ H1, Fr s H H1 → D.nx σ H1) : tIfS t tu tNext D σ H := h _ fun b H1 f hb => by
  cases b with
  | true => exact h1 hb H1 f
  | false => exact h2 hb H1 f
theorem sw_if {t : TT} {tw : TS} {p : Bool → Prop} (h : EvTW s t σ H p) (h1 : p true → ∀ H1, Fr s H H1 → tu D σ H1) (h2 : p false → ∀ H1, Fr s H H1 → tw D σ H1) : tIfS t tu tw D σ H := h _ fun b H1 f hb => by
  cases b with
  | true => exact h1 hb H1 f
  | false => exact h2 hb H1 f
theorem qw_forR1 {j : Nat} (h : EvI s te σ H p) (hp : ∀ i, p i → 0 ≤ i ∧ i ≤ 100000) (Pv : Int → Nat → L2.St → Hp → Prop) (h0 : ∀ n H1, p n → Fr s H H1 → Pv n 0 σ H1)
    (hs : ∀ n (i : Nat) σ' H', p n → (i : Int) < n → Pv n i σ' H' → tu { D with nx := Pv n (i + 1), ct := Pv n (i + 1), bk := tz D } (σ'.set j (some (.int (i : Int)))) H') (hd : ∀ n σ' H', p n → Pv n n.toNat σ' H' → tz D σ' H') : tSeq (tFor (iRng1 (tCons te tNil)) (gName j) tu) tz D σ H :=
  h _ fun n H1 f hn => ⟨n, rfl, by have := hp n hn; omega, by have := hp n hn; omega, for_range (D := { D with nx := tz D }) (lo := 0) (n := n.toNat) (Pv n) (h0 n H1 hn f) (fun i σ' H' hi q => by
    have e0 : (0 : Int) + (i : Int) = (i : Int) := Int.zero_add _
    show tu { D with nx := Pv n (i + 1), ct := Pv n (i + 1), bk := tz D } (σ'.set j (some (.int ((0 : Int) + (i : Int))))) H'
    rw [e0]
    exact hs n i σ' H' hn (by have := hp n hn; omega) q) fun σ' H' q => hd n σ' H' hn q⟩
end
/-- [e for j in range(n)] whose element draws -/
theorem tlc_rngW {ta : TA} {te : TE} {vs : List Nat} {n : Int} {j : Nat} {σ : L2.St} {H : Hp} {Q : VK} (h : EvA ta σ H [.int n]) (hn : -100000 ≤ n ∧ n ≤ 100000)
    (k : ∀ H1, Ex H H1 → ∀ Dl, H1 Dl = none → ∃ Pv : Nat → Hp → Prop, Pv 0 (upd H1 Dl (.lst [])) ∧ (∀ (i : Nat) H', i < n.toNat → Pv i H' → wipe ((wipe σ vs).set j (some (.int (i : Int)))) vs = wipe σ vs ∧ te ((wipe σ vs).set j (some (.int (i : Int)))) H' fun y H4 => ∃ acc, H4 Dl = some (.lst acc) ∧ acc.length < sizeLine ∧ Pv (i + 1) (upd H4 Dl (.lst (acc ++ [y])))) ∧ (∀ H', Pv n.toNat H' → Q (.ref Dl) H')) :
    tLc (iRng1 ta) (gName j) tYes te vs σ H Q := h H (Ex.refl H) _ fun H1 e1 => ⟨n, rfl, by omega, by omega, fun Dl hD => by
  obtain ⟨Pv, h0, hs, hd⟩ := k H1 e1 Dl hD
  refine lc_range (lo := 0) (n := n.toNat) Pv h0 (fun i H' hi p => ?_) hd
  rw [Int.zero_add]
  exact hs i H' hi p⟩
/-- xs[j] = e, e of a kind -/
theorem q_setLR {σ : L2.St} {H : Hp} {te ta tb : TE} {l : Addr} {xs : List V} {j : Nat} {D : Ends} {tz : TS} {P : V → Prop} (h : ∀ Q : VK, (∀ v H1, Ex H H1 → P v → Q v H1) → te σ H Q) (hl : H l = some (.lst xs)) (ho : ∀ H1, Ev ta σ H1 (.ref l)) (hi : ∀ H1, Ev tb σ H1 (.int (j : Int))) (hj : j < xs.length) (k : ∀ v H1, P v → Ex H H1 → tz D σ (upd H1 l (.lst (xs.set j v)))) : tSeq (tAsg te (gSub ta tb rSetL)) tz D σ H :=
  h _ fun v H1 e1 hv => ho H1 H1 (Ex.refl _) _ fun H2 e2 => hi H2 H2 (Ex.refl _) _ fun H3 e3 => ⟨l, xs, (j : Int), j, rfl, rfl, ((e1.trans e2).trans e3) l _ hl, ixN_nat hj, k v H3 hv ((e1.trans e2).trans e3)⟩
/-! ### the law's draws -/
def sp_isint : Sp := fun vs H Q _ => ∃ n : Int, vs = [.int n] ∧ RetV (.bl true) H Q
theorem ok_law_is_integer (T : TX K mg) : FnOk P w K mg base CX0 1 T.a_law_is_integer T.d_law_is_integer ["actual"] sp_isint := by
  refine T.F_law_is_integer.ok sc_law_is_integer (fun vs H Q E h => by obtain ⟨n, rfl, _⟩ := h; rfl) (fun cdv A outer s H vs Q E hr h => ?_)
  obtain ⟨n, rfl, k⟩ := h
  refine ⟨_, (pss_one (ps_ret (pe_and (pe_callB (r := rIsi K) call_isi (by rfl) T.m_isinstance PyProof.Rows.boot_isinstance (pa_cons (pv 0) (pa_cons (pe_bltn (v := V.ty "int") (by rfl) T.m_int PyProof.Rows.boot_int rfl) pa_nil))) (pe_one (pe_not (pe_callB (r := rIsi K) call_isi (by rfl) T.m_isinstance PyProof.Rows.boot_isinstance (pa_cons (pv 0) (pa_cons (pe_bltn (v := V.ty "bool") (by rfl) T.m_bool PyProof.Rows.boot_bool rfl) pa_nil)))))))), ?_⟩
  walk_at "ret"
  intro H2 e2
  exact ret_eq k e2 rfl
theorem ev_isint {σ : L2.St} {H : Hp} {te : TE} {E : XK} {n : Int} (h : Ev te σ H (.int n)) : Ev (tCall sp_isint [] E (tCons te tNil)) σ H (.bl true) := ev_call (ea_cons h ea_nil) fun H1 _ Q q _ => ⟨n, rfl, q⟩

def sp_refill (K : PySem.W.Frag) : Sp := fun vs H Q _ => ∃ (a : Addr) (ns : List Int) (k : Int), vs = [.ref a, .int k] ∧ SqL K H a (ns.map V.int) ∧ ∀ c : Int, RetV (.int c) H Q
theorem ok_law_refill (T : TX K mg) : FnOk P w K mg base CX0 1 T.a_law_refill T.d_law_refill ["script", "k"] (sp_refill K) := by
  refine T.F_law_refill.ok sc_law_refill (fun vs H Q E h => by obtain ⟨a, ns, k, rfl, _⟩ := h; rfl) (fun cdv A outer s0 H vs Q E hr h => ?_)
  obtain ⟨a, ns, k, rfl, hS, q⟩ := h
  refine ⟨_, (pss_cons (ps_set (i := 2) sc_law_refill.nd rfl (Or.inl rfl) pe_int)
      (pss_cons (ps_if (pt_truth (pv 0) (by intro _; rfl)) (pss_one (ps_set (i := 2) sc_law_refill.nd rfl (Or.inl rfl) (pe_ix (r := rIxL K) ix_list (pv 0) (pe_op op_mod (pv 1) (pe_callB (r := rLenS K) call_len_seq (by rfl) T.m_len PySem.boot_len (pa_cons (pv 0) pa_nil))) (fun _ _ => rfl)))) pss_nil)
      (pss_cons (ps_if (pt_cmpR op_lt (pv 2) pe_int (nomark _)) (pss_one (ps_set (i := 2) sc_law_refill.nd rfl (Or.inl rfl) (pe_op op_sub pe_int (pe_op op_mul pe_int (pv 2))))) pss_nil)
      (pss_cons (ps_if (PW.pt (pw_and (pt_cmpR op_ge (pv 2) (pe_op op_pow pe_int pe_int) (nomark _)) (pw_and1 (pt_cmpR op_lt (pv 1) (pe_callB (r := rLenS K) call_len_seq (by rfl) T.m_len PySem.boot_len (pa_cons (pv 0) pa_nil)) (nomark _))))) (pss_one (ps_ret (pv 2))) pss_nil)
      (pss_one (ps_ret (pe_op op_mod (pe_callTy call_int1 (by rfl) T.m_int PyProof.Rows.boot_int (pa_cons (pe_op op_add (pe_op op_mul (pe_callTy call_int1 (by rfl) T.m_int PyProof.Rows.boot_int (pa_cons (pe_op op_add (pe_op op_add (pe_op op_mul (pv 2) pe_int) (pe_op op_mul (pv 1) pe_int)) pe_int) pa_nil)) pe_int) pe_int) pa_nil)) pe_int))))))), ?_⟩
  refine q_asg ev_c fun H1 e1 => ?_
  have hl : (ns.map V.int).length = ns.length := List.length_map ..
  have rest : ∀ (c : Int) (H2 : Hp), Ex H H2 → tSeq (tIfS (tTest (tOp (rI0 fun i j => .bl (decide (i < j))) (tVar 2) (tC (.int 0)))) (tAsg (tOp (rI0 fun i j => .int (i - j)) (tC (.int 1)) (tOp (rI CMul fun i j => .int (i * j)) (tC (.int 2)) (tVar 2))) (gName 2)) tNext) (tSeq (tIfS (tAnd (tTest (tOp (rI0 fun i j => .bl (decide (j ≤ i))) (tVar 2) (tOp (rI CPow fun i j => .int (i ^ j.toNat)) (tC (.int 10)) (tC (.int 18))))) (tTest (tOp (rI0 fun i j => .bl (decide (i < j))) (tVar 1) (tCB (rLenS K) (tCons (tVar 0) tNil))))) (tRet (tVar 2)) tNext) (tRet (tOp (rI (fun _ j => 0 < j) fun i j => .int (i % j)) (tCB (fun xs H Q => (∃ i, xs = [V.int i] ∧ Q (V.int i) H) ∨ ∃ k, xs = [V.bl k] ∧ Q (V.int (if k = true then 1 else 0)) H) (tCons (tOp (rI0 fun i j => .int (i + j)) (tOp (rI CMul fun i j => .int (i * j)) (tCB (fun xs H Q => (∃ i, xs = [V.int i] ∧ Q (V.int i) H) ∨ ∃ k, xs = [V.bl k] ∧ Q (V.int (if k = true then 1 else 0)) H) (tCons (tOp (rI0 fun i j => .int (i + j)) (tOp (rI0 fun i j => .int (i + j)) (tOp (rI CMul fun i j => .int (i * j)) (tVar 2) (tC (.int 48271))) (tOp (rI CMul fun i j => .int (i * j)) (tVar 1) (tC (.int 69621)))) (tC (.int 12345))) tNil)) (tC (.int 40692))) (tC (.int 7))) tNil)) (tC (.int 2147483399))))) { nx := fun _ H' => Q .non H', rt := Q } [some (.ref a), some (.int k), some (.int c)] H2 := fun c H2 e2 => by
    obtain ⟨c1, hc1⟩ : ∃ c1 : Int, (if c < 0 then 1 - 2 * c else c) = c1 := ⟨_, rfl⟩
    refine q_ifAsg (b := decide (c < 0)) (v := .int c1) (et_test (ev_I0 (ev_var rfl) ev_c)) (fun h => Ev.is (ev_I0 ev_c (ev_I ev_c (ev_var rfl) (.inl (by decide)))) (congrArg V.int (by rw [← hc1, if_pos (of_decide_eq_true h)]))) (fun h => by rw [← hc1, if_neg (of_decide_eq_false h)]; rfl) fun H3 e3 => ?_
    refine q_when (et_and (et_test (ev_I0 (ev_var rfl) (ev_I ev_c ev_c ⟨by decide, by decide, by decide⟩))) fun _ => et_test (ev_I0 (ev_var rfl) (ev_lenS (Ev.s (ev_var rfl) (ex_l (e2.trans e3) hS))))) (fun _ H4 e4 => ?_) (fun _ H4 e4 => ?_)
    · exact s_ret (ev_var rfl) fun H5 e5 => (q _).go ((e2.trans e3).trans (e4.trans e5))
    · exact s_ret (ev_I (ev_int1 (ev_I0 (ev_I (ev_int1 (ev_I0 (ev_I0 (ev_I (ev_var rfl) ev_c (.inr (by decide))) (ev_I (ev_var rfl) ev_c (.inr (by decide)))) ev_c)) ev_c (.inr (by decide))) ev_c)) ev_c (by decide)) fun H5 e5 => (q _).go ((e2.trans e3).trans (e4.trans e5))
  refine q_when (et_tru (ev_var rfl) (ex_l e1 hS)) (fun hb H2 e2 => ?_) (fun _ H2 e2 => rest 0 H2 (e1.trans e2))
  have h0 : 0 < ns.length := by
    cases ns with
    | nil => cases hb
    | cons x r => rw [List.length_cons]; omega
  have h1 := Int.emod_nonneg k (show (ns.length : Int) ≠ 0 by omega)
  have h2 := Int.emod_lt_of_pos k (show (0 : Int) < ns.length by omega)
  refine s_asg (v := .int (ns.getD (k % (ns.length : Int)).toNat 0)) (ev_ixS (i := 0) (n := k % (ns.length : Int)) (Ev.s (ev_var rfl) (ex_l (e1.trans e2) hS)) (ev_I (ev_var rfl) (Ev.is (ev_lenS (Ev.s (ev_var rfl) (ex_l (e1.trans e2) hS))) (by rw [hl])) (by omega)) (at_of (j := (k % (ns.length : Int)).toNat) (by omega) (at_int (gl_get (by omega))))) fun H3 e3 => rest _ H3 (e1.trans (e2.trans e3))
def sp_draw (K : PySem.W.Frag) : Sp := fun vs H Q _ => ∃ (s a : Addr) (ns : List Int) (n : Int), vs = [.ref s, .ref a, .int n] ∧ DrS K H s a ns ∧ 0 < n ∧ n ≤ 2 ^ 80 ∧ ∀ (d : Nat) H', (d : Int) < n → Fr s H H' → Q (.int (d : Int)) H'
theorem ok_law_draw (T : TX K mg) : FnOk P w K mg base CX0 2 T.a_law_draw T.d_law_draw ["state", "script", "size"] (sp_draw K) := by
  refine T.F_law_draw.ok sc_law_draw (fun vs H Q E h => by obtain ⟨s, a, ns, n, rfl, _⟩ := h; rfl) (fun cdv A outer s0 H vs Q E hr h => ?_)
  obtain ⟨s, a, ns, n, rfl, hd, hn0, hn, k⟩ := h
  have hn' : n ≤ 1208925819614629174706176 := hn
  have hlog : n.natAbs.log2 < 9000 := by
    have : n.natAbs < 2 ^ 81 := by omega
    have := (Nat.log2_lt (n := n.natAbs) (k := 81) (by omega)).mpr this
    omega
  refine ⟨_, (pss_cut (ps_if (pt_cmpR op_eq (pe_ix (r := rIxL K) ix_list (pv 0) pe_int (fun _ _ => rfl)) pe_int (nomark _)) (pss_cons (ps_asg (pe_call (ok_law_refill T) (hr.mono (by decide)) (by rfl) T.g_law_refill T.F_law_refill.kp T.b_law_refill .nil pass0 (pa_cons (pv 1) (pa_cons (pe_ix (r := rIxL K) ix_list (pv 0) pe_int (fun _ _ => rfl)) pa_nil))) (pg_sub (pv 0) pe_int set_list))
        (pss_one (ps_asg (pe_op op_add (pe_ix (r := rIxL K) ix_list (pv 0) pe_int (fun _ _ => rfl)) pe_int) (pg_sub (pv 0) pe_int set_list)))) pss_nil)
      (pss_cons (ps_set (i := 3) sc_law_draw.nd rfl (Or.inl rfl) (pe_op op_mod (pe_callTy call_int1 (by rfl) T.m_int PyProof.Rows.boot_int (pa_cons (pe_ix (r := rIxL K) ix_list (pv 0) pe_int (fun _ _ => rfl)) pa_nil)) (pv 2)))
      (pss_cons (ps_asg (pe_op op_fdivW (pe_ix (r := rIxL K) ix_list (pv 0) pe_int (fun _ _ => rfl)) (pv 2)) (pg_sub (pv 0) pe_int set_list))
      (pss_one (ps_ret (pv 3)))))), ?_⟩
  refine q_cut (M := fun σ' H' => ∃ kk cc : Int, σ' = [some (.ref s), some (.ref a), some (.int n), none] ∧ (∀ b o, b ≠ s → H b = some o → H' b = some o) ∧ H' s = some (.lst [.int kk, .int cc])) ?_ ?_
  · obtain ⟨kk, cc, g⟩ := hd.1
    refine s_when (et_test (ev_eq (ev_ixS (i := 0) (n := 1) (Ev.s (ev_var rfl) (sq_of g)) ev_c (at_of (j := 1) rfl rfl)) ev_c rfl)) (fun _ H1 e1 => ?_) (fun _ H1 e1 => ⟨kk, cc, rfl, fun b o _ h => e1 b o h, e1 _ _ g⟩)
    have g1 := e1 _ _ g
    refine q_setLR (l := s) (xs := [.int kk, .int cc]) (j := 1) (P := fun v => ∃ c : Int, v = .int c) (fun Q' q' => (ea_cons (ev_var rfl) (ea_cons (ev_ixS (K := K) (i := 0) (n := 0) (v := .int kk) (xs := [.int kk, .int cc]) (Ev.s (ev_var rfl) (sq_of g1)) ev_c (at_of (j := 0) rfl rfl)) ea_nil)) H1 (Ex.refl _) _ fun H2 e2 => ⟨a, ns, kk, rfl, (hd.ex (e1.trans e2)).sq, fun c H3 e3 => q' _ _ (e2.trans e3) ⟨c, rfl⟩⟩) g1 (fun _ => ev_var rfl) (fun _ => ev_c) (Nat.le_of_ble_eq_true rfl) fun v H2 hv e2 => ?_
    obtain ⟨c, rfl⟩ := hv
    have u2 : (upd H2 s (.lst [V.int kk, V.int c])) s = some (.lst [V.int kk, V.int c]) := upd_same
    refine s_setL (l := s) (j := 0) (v := .int (kk + 1)) u2 (ev_I0 (ev_ixS (i := 0) (n := 0) (Ev.s (ev_var rfl) (sq_of u2)) ev_c (at_of (j := 0) rfl rfl)) ev_c) (ev_var rfl) ev_c (Nat.le_of_ble_eq_true rfl) fun H3 e3 => ⟨kk + 1, c, rfl, fun b o hb h => ?_, upd_same⟩
    rw [upd_ne hb]
    exact e3 _ _ (by rw [upd_ne hb]; exact e2 _ _ (e1 _ _ h))
  · rintro σ' H1 ⟨kk, cc, rfl, fr, g⟩
    have h0 := Int.emod_nonneg cc (show n ≠ 0 by omega)
    have h1 := Int.emod_lt_of_pos cc hn0
    obtain ⟨d, hd'⟩ : ∃ d : Nat, cc % n = (d : Int) := ⟨(cc % n).toNat, by omega⟩
    refine q_asg (v := .int (d : Int)) (Ev.is (ev_I (ev_int1 (ev_ixS (i := 0) (n := 1) (Ev.s (ev_var rfl) (sq_of g)) ev_c (at_of (j := 1) rfl rfl))) (ev_var rfl) hn0) (congrArg V.int hd')) fun H2 e2 => ?_
    refine q_setL (l := s) (j := 1) (v := .int (cc / n)) (e2 _ _ g) (ev_I (ev_ixS (i := 0) (n := 1) (Ev.s (ev_var rfl) (sq_of (e2 _ _ g))) ev_c (at_of (j := 1) rfl rfl)) (ev_var rfl) ⟨hn0, hlog⟩) (ev_var rfl) ev_c (Nat.le_of_ble_eq_true rfl) fun H3 e3 => ?_
    refine s_ret (v := .int (d : Int)) (ev_var rfl) fun H4 e4 => k d H4 (by omega) ⟨fun b o hb h => e4 _ _ (by rw [upd_ne hb]; exact e3 _ _ (e2 _ _ (fr b o hb h))), ⟨kk, cc / n, e4 _ _ upd_same⟩⟩
theorem wi_draw {s a : Addr} {ns : List Int} {σ : L2.St} {H : Hp} {tn : TE} {E : XK} {n : Int} {i j : Nat} (hd : DrS K H s a ns) (h1 : σ[i]? = some (some (.ref s))) (h2 : σ[j]? = some (some (.ref a))) (h3 : Ev tn σ H (.int n)) (h0 : 0 < n) (hn : n ≤ 2 ^ 80) :
    EvI s (tCall (sp_draw K) [] E (tCons (tVar i) (tCons (tVar j) (tCons tn tNil)))) σ H (fun z => ∃ d : Nat, z = (d : Int) ∧ (d : Int) < n) := fun Q q =>
  (ea_cons (ev_var h1) (ea_cons (ev_var h2) (ea_cons h3 ea_nil))) H (Ex.refl _) _ fun H1 e1 => ⟨s, a, ns, n, rfl, hd.ex e1, h0, hn, fun d H2 hdn f => q _ H2 ((Fr.ex hd.1 e1).trans f) ⟨d, rfl, hdn⟩⟩

theorem ok_law_wide (T : TX K mg) : FnOk P w K mg base CX0 3 T.a_law_wide T.d_law_wide ["state", "script", "size"] (sp_draw K) := by
  refine T.F_law_wide.ok sc_law_wide (fun vs H Q E h => by obtain ⟨s, a, ns, n, rfl, _⟩ := h; rfl) (fun cdv A outer s0 H vs Q E hr h => ?_)
  obtain ⟨s, a, ns, n, rfl, hd, hn0, hn, k⟩ := h
  refine ⟨_, (pss_cons (ps_set (i := 3) sc_law_wide.nd rfl (Or.inl rfl) (pe_call (ok_law_draw T) (hr.mono (by decide)) (by rfl) T.g_law_draw T.F_law_draw.kp T.b_law_draw .nil pass0 (pa_cons (pv 0) (pa_cons (pv 1) (pa_cons pe_int pa_nil)))))
      (pss_cons (ps_if (pt_cmpR op_eq (pv 3) pe_int (nomark _)) (pss_one (ps_ret pe_int)) pss_nil)
      (pss_cons (ps_if (pt_cmpR op_eq (pv 3) pe_int (nomark _)) (pss_one (ps_ret (pe_op op_sub (pv 2) pe_int))) pss_nil)
      (pss_one (ps_ret (pe_call (ok_law_draw T) (hr.mono (by decide)) (by rfl) T.g_law_draw T.F_law_draw.kp T.b_law_draw .nil pass0 (pa_cons (pv 0) (pa_cons (pv 1) (pa_cons (pv 2) pa_nil))))))))), ?_⟩
  refine qw_asg (wi_draw hd rfl rfl ev_c (by decide) (by decide)) fun z H1 f1 hz => ?_
  have hd1 := hd.fr f1
  refine q_when (et_test (ev_eq (ev_var rfl) ev_c rfl)) (fun _ H2 e2 => s_ret (v := .int ((0 : Nat) : Int)) ev_c fun H3 e3 => k 0 H3 (by omega) (f1.tex (e2.trans e3))) (fun _ H2 e2 => ?_)
  refine q_when (et_test (ev_eq (ev_var rfl) ev_c rfl)) (fun _ H3 e3 => s_ret (v := .int ((n.toNat - 1 : Nat) : Int)) (Ev.is (ev_I0 (ev_var rfl) ev_c) (congrArg V.int (by omega))) fun H4 e4 => k _ H4 (by omega) (f1.tex ((e2.trans e3).trans e4))) (fun _ H3 e3 => ?_)
  refine sw_ret (wi_draw (hd1.ex (e2.trans e3)) rfl rfl (ev_var rfl) hn0 hn) fun i H4 f4 hi => ?_
  obtain ⟨d, rfl, hdn⟩ := hi
  exact k d H4 hdn ((f1.tex (e2.trans e3)).trans f4)

def sp_junk (K : PySem.W.Frag) : Sp := fun vs H Q _ => ∃ (s a : Addr) (ns : List Int) (m : Nat), vs = [.ref s, .ref a, .int (m : Int)] ∧ DrS K H s a ns ∧ m ≤ 1000 ∧ ∀ p (ds : List Nat) H', H p = none → Fr s H H' → H' p = some (.lst ((cs ds).map V.int)) → ds.length = m → (∀ d ∈ ds, d < 256) → Q (.ref p) H'
theorem ok_law_junk (T : TX K mg) : FnOk P w K mg base CX0 3 T.a_law_junk T.d_law_junk ["state", "script", "count"] (sp_junk K) := by
  refine T.F_law_junk.ok sc_law_junk (fun vs H Q E h => by obtain ⟨s, a, ns, m, rfl, _⟩ := h; rfl) (fun cdv A outer s0 H vs Q E hr h => ?_)
  obtain ⟨s, a, ns, m, rfl, hd, hm, k⟩ := h
  refine ⟨_, (pss_one (ps_ret (pe_lc (own := [("k", 3)]) (g := gName 3) (tt := tYes) rfl sc_law_junk.nd (pi_range1 (by rfl) T.m_range (pa_cons (pv 2) pa_nil)) (blkOk_by (N := ["state", "script", "count", "k"]) (sc := defScope s_law_junk) (by decide +kernel)) (fun _ _ _ _ _ => pg_name (i := 3) sc_law_junk.nd rfl (Or.inl rfl)) (fun _ _ _ _ _ => pts_nil) (fun _ _ _ _ _ => (pe_call (ok_law_draw T) (hr.mono (by decide)) (by rfl) T.g_law_draw T.F_law_draw.kp T.b_law_draw .nil pass0 (pa_cons (pv 0) (pa_cons (pv 1) (pa_cons pe_int pa_nil)))))))), ?_⟩
  refine tlc_rngW (n := (m : Int)) (ea_cons (ev_var rfl) ea_nil) (by omega) fun H1 e1 Dl hD => ⟨fun i H' => ∃ ds : List Nat, Fr s H H' ∧ H' Dl = some (.lst ((cs ds).map V.int)) ∧ ds.length = i ∧ ∀ d ∈ ds, d < 256, ⟨[], ?_, upd_same, rfl, fun d hd => by cases hd⟩, ?_, ?_⟩
  · exact Fr.ex hd.1 (Ex.mut e1 (fresh_back e1 hD))
  · rintro i H' hi ⟨ds, f, g, hl, hb⟩
    have hi : i < m := by omega
    have hDs : Dl ≠ s := ne_st hd.1 (fresh_back e1 hD)
    refine ⟨rfl, wi_draw (hd.fr f) rfl rfl ev_c (by decide) (by decide) _ fun z H2 f2 hz => ?_⟩
    obtain ⟨d, rfl, hdn⟩ := hz
    refine ⟨(cs ds).map V.int, f2.l hDs g, sz_lt (by rw [List.length_map, cs_len]; omega), ds ++ [d], (f.trans f2).mut (fresh_back e1 hD) hDs, ?_, by rw [List.length_append, hl]; rfl, fun y hy => ?_⟩
    · rw [upd_same, cs_append, List.map_append]
      rfl
    · rcases List.mem_append.mp hy with h | h
      · exact hb y h
      · rw [List.mem_singleton.mp h]
        omega
  · rintro H' ⟨ds, f, g, hl, hb⟩
    exact k Dl ds H' (fresh_back e1 hD) f g (by omega) hb

def sp_isbytes (K : PySem.W.Frag) : Sp := fun vs H Q _ => ∃ (p : Addr) (ds : List Nat), vs = [.ref p] ∧ H p = some (.lst ((cs ds).map V.int)) ∧ ds.length ≤ 40000 ∧ (∀ d ∈ ds, d < 256) ∧ RetV (.bl true) H Q
theorem ok_law_is_bytes (T : TX K mg) : FnOk P w K mg base CX0 2 T.a_law_is_bytes T.d_law_is_bytes ["actual"] (sp_isbytes K) := by
  refine T.F_law_is_bytes.ok sc_law_is_bytes (fun vs H Q E h => by obtain ⟨p, ds, rfl, _⟩ := h; rfl) (fun cdv A outer s0 H vs Q E hr h => ?_)
  obtain ⟨p, ds, rfl, hp, hl, hb, k⟩ := h
  refine ⟨_, (pss_cons (ps_if (pt_not (pt_val (pe_callB (r := rIsi K) call_isi (by rfl) T.m_isinstance PyProof.Rows.boot_isinstance (pa_cons (pv 0) (pa_cons (pe_bltn (v := V.ty "list") (by rfl) T.m_list PyProof.Rows.boot_list rfl) pa_nil))))) (pss_one (ps_ret pe_bl)) pss_nil)
      (pss_one (ps_ret (pe_callB (r := rAll K) (cr_all rfl) (by rfl) T.m_all PyProof.Rows.boot_all (pa_cons (pe_lc (own := [("byte", 1)]) (g := gName 1) (tt := tYes) rfl sc_law_is_bytes.nd (pi_list (pv 0)) (blkOk_by (N := ["actual", "byte"]) (sc := defScope s_law_is_bytes) (by decide +kernel)) (fun _ _ _ _ _ => pg_name (i := 1) sc_law_is_bytes.nd rfl (Or.inl rfl)) (fun _ _ _ _ _ => pts_nil) (fun _ _ _ _ _ => (pe_and (pe_call (ok_law_is_integer T) (hr.mono (by decide)) (by rfl) T.g_law_is_integer T.F_law_is_integer.kp T.b_law_is_integer .nil pass0 (pa_cons (pv 1) pa_nil)) (pe_one (pe_chain op_le op_le pe_int (pv 1) pe_int))))) pa_nil))))), ?_⟩
  refine q_when (b := false) (et_is (et_not (et_B (ev_isiL (ev_var rfl) hp))) rfl) (fun h => by cases h) fun _ H1 e1 => ?_
  refine s_ret (v := .bl true) (ev_all (bs := (cs ds).map fun _ => true) (EvR.s (EvL.r (EvL.is (xs := (cs ds).map fun _ => V.bl true) (el_lcS _ (Ev.s (ev_var rfl) (sq_of (e1 _ _ hp))) (by rw [List.length_map, List.length_map]) (by rw [List.length_map, cs_len]; omega) (fun _ => rfl) fun i x H2 e2 hx => ?_) (by rw [List.map_map]; rfl)))) (by simp)) fun H2 e2 => k.go (e1.trans e2)
  obtain ⟨n, hn, hi, rfl⟩ := int_at hx
  obtain ⟨d, hd, rfl⟩ := List.mem_map.mp (List.mem_of_getElem? hn)
  have := hb d hd
  exact ⟨.bl true, by rw [List.getElem?_map, hn]; rfl, Ev.is (ev_andV (a := true) (b := true) (ev_isint (ev_var rfl)) fun _ => Ev.is (ev_chain ev_c (ev_var rfl) ev_c) (congrArg V.bl (by rw [Bool.and_eq_true, decide_eq_true_iff, decide_eq_true_iff]; omega))) rfl⟩
theorem ev_isbytes {σ : L2.St} {H : Hp} {te : TE} {E : XK} {ds : List Nat} (h : EvR te σ H ((cs ds).map V.int)) (hl : ds.length ≤ 40000) (hb : ∀ d ∈ ds, d < 256) : Ev (tCall (sp_isbytes K) [] E (tCons te tNil)) σ H (.bl true) := fun H1 e Q q =>
  h H1 e _ fun p H2 e2 hp => ⟨p, ds, rfl, hp, hl, hb, fun H3 e3 => q H3 (e2.trans e3)⟩
theorem and_mask255 (x : Nat) : Builtin.bitAnd (x : Int) 255 = ((x % 256 : Nat) : Int) := by
  have h := _root_.Bits.bitAnd_mask (x := (x : Int)) 8 (by omega)
  have e : (2 : Int) ^ 8 - 1 = 255 := rfl
  rw [e] at h
  rw [h]
  have e2 : (2 : Int) ^ 8 = 256 := rfl
  rw [e2]
  omega
def bigB (x n : Nat) : List Nat := (List.range n).map fun k => x / 2 ^ (8 * (n - 1 - k)) % 256
theorem bigB_len (x n : Nat) : (bigB x n).length = n := by unfold bigB; rw [List.length_map, List.length_range]
theorem bigB_lt (x n : Nat) : ∀ d ∈ bigB x n, d < 256 := fun d hd => by
  unfold bigB at hd
  obtain ⟨k, _, rfl⟩ := List.mem_map.mp hd
  exact Nat.mod_lt _ (by decide)
theorem p2n (j : Nat) : ((2 : Int) ^ j) = ((2 ^ j : Nat) : Int) := by rw [Int.natCast_pow]; rfl
theorem ev_byte {σ : L2.St} {H : Hp} {t1 t2 : TE} {x j : Nat} (h1 : Ev t1 σ H (.int (x : Int))) (h2 : Ev t2 σ H (.int (j : Int))) : Ev (tOp (rI0 fun i j => .int (Builtin.bitAnd i j)) (tOp (rI (fun _ j => 0 ≤ j) fun i j => .int (i / 2 ^ j.toNat)) t1 t2) (tC (.int 255))) σ H (.int ((x / 2 ^ j % 256 : Nat) : Int)) :=
  Ev.is (ev_I0 (Ev.is (ev_I h1 h2 (by omega)) (congrArg V.int (show (x : Int) / 2 ^ (j : Int).toNat = ((x / 2 ^ j : Nat) : Int) by rw [Int.toNat_natCast, p2n, Int.natCast_ediv]))) ev_c) (congrArg V.int (and_mask255 _))

def sp_numb : Sp := fun vs H Q _ => ∃ (x n : Nat), vs = [.int (x : Int), .int (n : Int)] ∧ n ≤ 1000 ∧ RetL ((cs (bigB x n)).map V.int) H Q
theorem ok_law_number_bytes (T : TX K mg) : FnOk P w K mg base CX0 1 T.a_law_number_bytes T.d_law_number_bytes ["number", "count"] sp_numb := by
  refine T.F_law_number_bytes.ok sc_law_number_bytes (fun vs H Q E h => by obtain ⟨x, n, rfl, _⟩ := h; rfl) (fun cdv A outer s0 H vs Q E hr h => ?_)
  obtain ⟨x, n, rfl, hn, k⟩ := h
  refine ⟨_, (pss_one (ps_ret (pe_lc (own := [("k", 2)]) (g := gName 2) (tt := tYes) rfl sc_law_number_bytes.nd (pi_range1 (by rfl) T.m_range (pa_cons (pv 1) pa_nil)) (blkOk_by (N := ["number", "count", "k"]) (sc := defScope s_law_number_bytes) (by decide +kernel)) (fun _ _ _ _ _ => pg_name (i := 2) sc_law_number_bytes.nd rfl (Or.inl rfl)) (fun _ _ _ _ _ => pts_nil) (fun _ _ _ _ _ => (pe_op op_and (pe_op op_shr (pv 0) (pe_op op_mul pe_int (pe_op op_sub (pe_op op_sub (pv 1) pe_int) (pv 2)))) pe_int))))), ?_⟩
  refine s_retL (el_lcR (n := (n : Int)) ((cs (bigB x n)).map V.int) (ea_cons (ev_var rfl) ea_nil) (by omega) (by rw [List.length_map, cs_len, bigB_len]; omega) (by rw [List.length_map, cs_len, bigB_len]; omega) (fun _ => rfl) fun i H1 e1 hi => ?_) k
  rw [List.length_map, cs_len, bigB_len] at hi
  exact ⟨_, at_int (cs_at (d := x / 2 ^ (8 * (n - 1 - i)) % 256) (by unfold bigB; rw [List.getElem?_map, List.getElem?_range hi]; rfl)), ev_byte (ev_var rfl) (Ev.is (ev_I ev_c (ev_I0 (ev_I0 (ev_var rfl) ev_c) (ev_var rfl)) (.inl (by decide))) (congrArg V.int (by omega)))⟩
theorem el_numb {σ : L2.St} {H : Hp} {t1 t2 : TE} {E : XK} {x n : Nat} (h1 : Ev t1 σ H (.int (x : Int))) (h2 : Ev t2 σ H (.int (n : Int))) (hn : n ≤ 1000) : EvL (tCall sp_numb [] E (tCons t1 (tCons t2 tNil))) σ H ((cs (bigB x n)).map V.int) := el_call (ea_cons h1 (ea_cons h2 ea_nil)) fun H1 _ Q q _ => ⟨x, n, rfl, hn, q⟩

theorem cs_get {ds : List Nat} {i : Nat} {x : V} (hx : ((cs ds).map V.int)[i]? = some x) : ∃ d, ds[i]? = some d ∧ i < ds.length ∧ x = V.int (d : Int) := by
  obtain ⟨n, hn, hi, rfl⟩ := int_at hx
  unfold cs at hn
  rw [List.getElem?_map] at hn
  cases e : ds[i]? with
  | none => rw [e] at hn; cases hn
  | some d =>
    rw [e] at hn
    exact ⟨d, rfl, (List.getElem?_eq_some_iff.mp e).1, by rw [← Option.some.inj hn]⟩

/-! ### ranges with a step -/
theorem s_forRC {σ : L2.St} {H : Hp} {D : Ends} {tu : TS} {ta : TA} {j n : Nat} {a b c : Int} (h : EvA ta σ H [.int a, .int b, .int c]) (hr : RgC a b c n) (Pv : Nat → L2.St → Hp → Prop) (h0 : ∀ H1, Ex H H1 → Pv 0 σ H1)
    (hs : ∀ i σ' H', i < n → Pv i σ' H' → tu { nx := Pv (i + 1), rt := D.rt, bk := D.nx, ct := Pv (i + 1) } (σ'.set j (some (.int (a + (i : Nat) * c)))) H') (hd : ∀ σ' H', Pv n σ' H' → D.nx σ' H') : tFor (iRng3 ta) (gName j) tu D σ H :=
  h H (Ex.refl H) _ fun H1 e1 => ⟨a, b, c, n, rfl, hr, for_rangeC Pv (h0 H1 e1) hs hd⟩
theorem q_forRC {σ : L2.St} {H : Hp} {D : Ends} {tu tz : TS} {ta : TA} {j n : Nat} {a b c : Int} (h : EvA ta σ H [.int a, .int b, .int c]) (hr : RgC a b c n) (Pv : Nat → L2.St → Hp → Prop) (h0 : ∀ H1, Ex H H1 → Pv 0 σ H1)
    (hs : ∀ i σ' H', i < n → Pv i σ' H' → tu { nx := Pv (i + 1), rt := D.rt, bk := tz D, ct := Pv (i + 1) } (σ'.set j (some (.int (a + (i : Nat) * c)))) H') (hd : ∀ σ' H', Pv n σ' H' → tz D σ' H') : tSeq (tFor (iRng3 ta) (gName j) tu) tz D σ H :=
  h H (Ex.refl H) _ fun H1 e1 => ⟨a, b, c, n, rfl, hr, for_rangeC Pv (h0 H1 e1) hs hd⟩
theorem el_lcC {σ : L2.St} {H : Hp} {ta : TA} {te : TE} {vs : List Nat} {j n : Nat} {a b c : Int} (zs : List V) (h1 : EvA ta σ H [.int a, .int b, .int c]) (hr : RgC a b c n) (hz : zs.length = n) (hb : zs.length ≤ 50000) (hw : ∀ x, wipe ((wipe σ vs).set j (some x)) vs = wipe σ vs)
    (he : ∀ (i : Nat) H1, Ex H H1 → i < n → ∃ z, zs[i]? = some z ∧ Ev te ((wipe σ vs).set j (some (.int (a + (i : Nat) * c)))) H1 z) : EvL (tLc (iRng3 ta) (gName j) tYes te vs) σ H zs := fun H0 e Q q =>
  h1 H0 e _ fun H1 e1 => ⟨a, b, c, n, rfl, hr, fun D hD => lc_it walk_rangeC (fun i H' => Ex H1 H' ∧ H' D = some (.lst (zs.take i))) ⟨Ex.new hD, upd_same⟩ (fun _ _ _ _ => trivial) (by
    rintro i x H' H'' hi ⟨ex, hd⟩ ⟨rfl, rfl⟩
    obtain ⟨z, hz1, hz2⟩ := he i H'' ((e.trans e1).trans ex) hi
    refine ⟨hw _, ?_⟩
    refine hz2 _ (Ex.refl _) _ fun H4 e4 => ⟨zs.take i, e4 _ _ hd, sz_lt (by rw [List.length_take]; omega), ?_, ?_⟩
    · exact Ex.mut (ex.trans e4) hD
    · rw [upd_same, take_snoc hz1]) fun H' ⟨ex, hd⟩ => by
      rw [← hz, List.take_length] at hd
      exact q D H' (fresh_back e1 hD) (e1.trans ex) hd⟩
theorem rs_m6 (i : Int) (n : Nat) : Builtin.Range.rangeSize i (i - 6 * n) (-6) = (n : Int) := by
  unfold Builtin.Range.rangeSize
  rw [if_neg (by decide), show (-(-6) : Int) = 6 from rfl]
  split <;> omega
theorem rg_m6 {i : Int} {n : Nat} (hi : -(2 ^ 60) ≤ i ∧ i < 2 ^ 60) (hn : n ≤ 100000) : RgC i (i - 6 * n) (-6) n := by
  refine ⟨by decide, by decide, ?_, rs_m6 i n⟩
  unfold Builtin.Range.small
  rw [rs_m6]
  simp only [Builtin.Range.rangeFitsLong, Bool.and_eq_true, Bool.or_eq_true, decide_eq_true_eq, beq_iff_eq, show ¬ ((-6 : Int) > 0) by decide, if_false]
  omega
theorem rs_m8 (i : Int) (n : Nat) : Builtin.Range.rangeSize i (i - 8 * n) (-8) = (n : Int) := by
  unfold Builtin.Range.rangeSize
  rw [if_neg (by decide), show (-(-8) : Int) = 8 from rfl]
  split <;> omega
theorem rg_m8 {i : Int} {n : Nat} (hi : -(2 ^ 60) ≤ i ∧ i < 2 ^ 60) (hn : n ≤ 100000) : RgC i (i - 8 * n) (-8) n := by
  refine ⟨by decide, by decide, ?_, rs_m8 i n⟩
  unfold Builtin.Range.small
  rw [rs_m8]
  simp only [Builtin.Range.rangeFitsLong, Bool.and_eq_true, Bool.or_eq_true, decide_eq_true_eq, beq_iff_eq, show ¬ ((-8 : Int) > 0) by decide, if_false]
  omega
theorem rs_8 (i : Int) (n : Nat) : Builtin.Range.rangeSize i (i + 8 * n) (8) = (n : Int) := by
  unfold Builtin.Range.rangeSize
  rw [if_pos (by decide)]
  split <;> omega
theorem rg_8 {i : Int} {n : Nat} (hi : -(2 ^ 60) ≤ i ∧ i < 2 ^ 60) (hn : n ≤ 100000) : RgC i (i + 8 * n) (8) n := by
  refine ⟨by decide, by decide, ?_, rs_8 i n⟩
  unfold Builtin.Range.small
  rw [rs_8]
  simp only [Builtin.Range.rangeFitsLong, Bool.and_eq_true, Bool.or_eq_true, decide_eq_true_eq, beq_iff_eq, show ((8 : Int) > 0) by decide, if_true]
  omega
theorem rs_18 (i : Int) (n : Nat) : Builtin.Range.rangeSize i (i + 18 * n) (18) = (n : Int) := by
  unfold Builtin.Range.rangeSize
  rw [if_pos (by decide)]
  split <;> omega
theorem rg_18 {i : Int} {n : Nat} (hi : -(2 ^ 60) ≤ i ∧ i < 2 ^ 60) (hn : n ≤ 100000) : RgC i (i + 18 * n) (18) n := by
  refine ⟨by decide, by decide, ?_, rs_18 i n⟩
  unfold Builtin.Range.small
  rw [rs_18]
  simp only [Builtin.Range.rangeFitsLong, Bool.and_eq_true, Bool.or_eq_true, decide_eq_true_eq, beq_iff_eq, show ((18 : Int) > 0) by decide, if_true]
  omega
theorem rs_12 (i : Int) (n : Nat) : Builtin.Range.rangeSize i (i + 12 * n) (12) = (n : Int) := by
  unfold Builtin.Range.rangeSize
  rw [if_pos (by decide)]
  split <;> omega
theorem rg_12 {i : Int} {n : Nat} (hi : -(2 ^ 60) ≤ i ∧ i < 2 ^ 60) (hn : n ≤ 100000) : RgC i (i + 12 * n) (12) n := by
  refine ⟨by decide, by decide, ?_, rs_12 i n⟩
  unfold Builtin.Range.small
  rw [rs_12]
  simp only [Builtin.Range.rangeFitsLong, Bool.and_eq_true, Bool.or_eq_true, decide_eq_true_eq, beq_iff_eq, show ((12 : Int) > 0) by decide, if_true]
  omega

theorem s_ext {σ : L2.St} {H : Hp} {ta te : TE} {D : Ends} {l : Addr} {xs zs : List V} (hl : H l = some (.lst xs)) (ha : Ev ta σ H (.ref l)) (he : EvR te σ H zs) (hs : xs.length + zs.length ≤ 100000) (k : ∀ H1, Ex H H1 → D.nx σ (upd H1 l (.lst (xs ++ zs)))) : tDrop (tBM K "list" rExtend ta (tCons te tNil)) D σ H :=
  ha H (Ex.refl H) _ fun H1 e1 => ⟨.inl ⟨rfl, _, sq_of (e1 _ _ hl)⟩, he H1 e1 _ fun b H2 e2 g2 => ⟨l, b, xs, zs, rfl, rfl, (e1.trans e2) _ _ hl, g2, sz_of hs, k H2 (e1.trans e2)⟩⟩
theorem q_ext {σ : L2.St} {H : Hp} {ta te : TE} {D : Ends} {tz : TS} {l : Addr} {xs zs : List V} (hl : H l = some (.lst xs)) (ha : Ev ta σ H (.ref l)) (he : EvR te σ H zs) (hs : xs.length + zs.length ≤ 100000) (k : ∀ H1, Ex H H1 → tz D σ (upd H1 l (.lst (xs ++ zs)))) : tSeq (tDrop (tBM K "list" rExtend ta (tCons te tNil))) tz D σ H := s_ext (D := { D with nx := tz D }) hl ha he hs k

/-! ### new lists, draws on the way -/
def EvLW (s : Addr) (te : TE) (σ : L2.St) (H : Hp) (P : List V → Prop) : Prop := ∀ Q : VK, (∀ p xs H2, H p = none → Fr s H H2 → H2 p = some (.lst xs) → P xs → Q (.ref p) H2) → te σ H Q
section
variable {s : Addr} {σ : L2.St} {H : Hp} {ta tb te : TE} {D : Ends} {tz tu : TS} {P : List V → Prop}
theorem wl_cat {xs : List V} (st : StAt H s) (ha : EvL ta σ H xs) (hb : ∀ H1, Fr s H H1 → EvLW s tb σ H1 P) (hl : ∀ ys, P ys → xs.length + ys.length ≤ 100000) : EvLW s (tOp rCat ta tb) σ H (fun zs => ∃ ys, P ys ∧ zs = xs ++ ys) := fun Q k =>
  ha H (Ex.refl _) _ fun p H1 hp e1 g1 => hb H1 (Fr.ex st e1) _ fun r ys H2 hr f2 g2 hy => ⟨p, r, xs, ys, rfl, rfl, f2.l (ne_st st hp) g1, g2, sz_of (hl ys hy), fun l hl' => by
    have f02 : Fr s H H2 := (Fr.ex st e1).trans f2
    exact k l _ _ (f02.fresh hl') (f02.tex (Ex.new hl')) upd_same ⟨ys, hy, rfl⟩⟩
theorem qw_asgL {i : Nat} (h : EvLW s te σ H P) (k : ∀ p xs H1, H p = none → Fr s H H1 → H1 p = some (.lst xs) → P xs → tz D (σ.set i (some (.ref p))) H1) : tSeq (tAsg te (gName i)) tz D σ H := h _ k
theorem sw_asgL {i : Nat} (h : EvLW s te σ H P) (k : ∀ p xs H1, H p = none → Fr s H H1 → H1 p = some (.lst xs) → P xs → D.nx (σ.set i (some (.ref p))) H1) : tAsg te (gName i) D σ H := h _ k
/-- [e for j in range(n)], n drawn, e draws -/
theorem tlc_rngWW {te0 : TE} {vs : List Nat} {j : Nat} {Q : VK} {p : Int → Prop} (h : EvI s te0 σ H p) (hp : ∀ i, p i → 0 ≤ i ∧ i ≤ 100000)
    (k : ∀ n H1, p n → Fr s H H1 → ∀ Dl, H1 Dl = none → ∃ Pv : Nat → Hp → Prop, Pv 0 (upd H1 Dl (.lst [])) ∧ (∀ (i : Nat) H', i < n.toNat → Pv i H' → wipe ((wipe σ vs).set j (some (.int (i : Int)))) vs = wipe σ vs ∧ te ((wipe σ vs).set j (some (.int (i : Int)))) H' fun y H4 => ∃ acc, H4 Dl = some (.lst acc) ∧ acc.length < sizeLine ∧ Pv (i + 1) (upd H4 Dl (.lst (acc ++ [y])))) ∧ (∀ H', Pv n.toNat H' → Q (.ref Dl) H')) :
    tLc (iRng1 (tCons te0 tNil)) (gName j) tYes te vs σ H Q := h _ fun n H1 f1 hn => ⟨n, rfl, by have := hp n hn; omega, by have := hp n hn; omega, fun Dl hD => by
  obtain ⟨Pv, h0, hs, hd⟩ := k n H1 hn f1 Dl hD
  refine lc_range (lo := 0) (n := n.toNat) Pv h0 (fun i H' hi p => ?_) hd
  rw [Int.zero_add]
  exact hs i H' hi p⟩
end

theorem wl_junk {s a : Addr} {ns : List Int} {σ : L2.St} {H : Hp} {tn : TE} {E : XK} {i j : Nat} {p : Int → Prop} (hd : DrS K H s a ns) (h1 : σ[i]? = some (some (.ref s))) (h2 : σ[j]? = some (some (.ref a))) (h3 : EvI s tn σ H p) (hp : ∀ z, p z → 0 ≤ z ∧ z ≤ 1000) :
    EvLW s (tCall (sp_junk K) [] E (tCons (tVar i) (tCons (tVar j) (tCons tn tNil)))) σ H (fun xs => ∃ ds : List Nat, xs = (cs ds).map V.int ∧ ds.length ≤ 1000 ∧ p (ds.length : Int) ∧ ∀ d ∈ ds, d < 256) := fun Q q =>
  ⟨_, h1, ⟨_, h2, h3 _ fun n H1 f1 hn => by
    have hn2 := hp n hn
    exact ⟨s, a, ns, n.toNat, by rw [Int.toNat_of_nonneg hn2.1]; rfl, hd.fr f1, by omega, fun r ds H2 hr f2 g2 hl hb => q r _ H2 (f1.fresh hr) (f1.trans f2) g2 ⟨ds, rfl, by omega, by rw [hl, Int.toNat_of_nonneg hn2.1]; exact hn, hb⟩⟩⟩⟩
theorem sw_setLR {s : Addr} {σ : L2.St} {H : Hp} {te ta tb : TE} {l : Addr} {xs : List V} {j : Nat} {D : Ends} {P : V → Prop} (h : ∀ Q : VK, (∀ v H1, Fr s H H1 → P v → Q v H1) → te σ H Q) (hls : l ≠ s) (hl : H l = some (.lst xs)) (ho : ∀ H1, Ev ta σ H1 (.ref l)) (hi : ∀ H1, Ev tb σ H1 (.int (j : Int))) (hj : j < xs.length) (k : ∀ v H1, P v → Fr s H H1 → D.nx σ (upd H1 l (.lst (xs.set j v)))) : tAsg te (gSub ta tb rSetL) D σ H :=
  h _ fun v H1 f1 hv => ho H1 H1 (Ex.refl _) _ fun H2 e2 => hi H2 H2 (Ex.refl _) _ fun H3 e3 => ⟨l, xs, (j : Int), j, rfl, rfl, (e2.trans e3) l _ (f1.l hls hl), ixN_nat hj, k v H3 hv (f1.tex (e2.trans e3))⟩
theorem qw_setLR {s : Addr} {σ : L2.St} {H : Hp} {te ta tb : TE} {l : Addr} {xs : List V} {j : Nat} {D : Ends} {tz : TS} {P : V → Prop} (h : ∀ Q : VK, (∀ v H1, Fr s H H1 → P v → Q v H1) → te σ H Q) (hls : l ≠ s) (hl : H l = some (.lst xs)) (ho : ∀ H1, Ev ta σ H1 (.ref l)) (hi : ∀ H1, Ev tb σ H1 (.int (j : Int))) (hj : j < xs.length) (k : ∀ v H1, P v → Fr s H H1 → tz D σ (upd H1 l (.lst (xs.set j v)))) : tSeq (tAsg te (gSub ta tb rSetL)) tz D σ H := sw_setLR (D := { D with nx := tz D }) h hls hl ho hi hj k
/-- a list of mine may change -/
theorem Fr.upd {s l : Addr} {H1 : Hp} {o : HO} (h : StAt H1 s) (hl : l ≠ s) : StAt (upd H1 l o) s := by obtain ⟨k, c, g⟩ := h; exact ⟨k, c, by rw [upd_ne (Ne.symm hl)]; exact g⟩
theorem cs_inj {a b : List Nat} (h : cs a = cs b) : a = b := by
  unfold cs at h
  exact (List.map_inj_right fun x y e => Int.ofNat.inj e).mp h
theorem cs_eqd (a b : List Nat) : decide (cs a = cs b) = decide (a = b) := decide_eq_decide.mpr ⟨cs_inj, fun h => by rw [h]⟩
theorem cs_set (ds : List Nat) (i d : Nat) : (cs ds).set i (d : Int) = cs (ds.set i d) := by unfold cs; rw [List.map_set]

/-! ### numbers of whole bytes -/
theorem ok_big_bytes (T : TX K mg) : FnOk P w K mg base CX0 1 T.a_big_bytes T.d_big_bytes ["number", "count"] sp_numb := by
  refine T.F_big_bytes.ok sc_big_bytes (fun vs H Q E h => by obtain ⟨x, n, rfl, _⟩ := h; rfl) (fun cdv A outer s0 H vs Q E hr h => ?_)
  obtain ⟨x, n, rfl, hn, k⟩ := h
  refine ⟨_, (pss_one (ps_ret (pe_lc (own := [("shift", 2)]) (g := gName 2) (tt := tYes) rfl sc_big_bytes.nd (pi_range3 (by rfl) T.m_range (pa_cons (pe_op op_sub (pe_op op_mul pe_int (pv 1)) pe_int) (pa_cons (pe_un un_neg pe_int) (pa_cons (pe_un un_neg pe_int) pa_nil)))) (blkOk_by (N := ["number", "count", "shift"]) (sc := defScope s_big_bytes) (by decide +kernel)) (fun _ _ _ _ _ => pg_name (i := 2) sc_big_bytes.nd rfl (Or.inl rfl)) (fun _ _ _ _ _ => pts_nil) (fun _ _ _ _ _ => (pe_op op_and (pe_op op_shr (pv 0) (pv 2)) pe_int))))), ?_⟩
  refine s_retL (el_lcC (n := n) (a := 8 * (n : Int) - 8) (b := -8) (c := -8) ((cs (bigB x n)).map V.int) (ea_cons (ev_I0 (ev_I ev_c (ev_var rfl) (.inl (by decide))) ev_c) (ea_cons (ev_negI ev_c) (ea_cons (ev_negI ev_c) ea_nil))) (by have := rg_m8 (i := 8 * (n : Int) - 8) (n := n) (by omega) (by omega); rwa [show 8 * (n : Int) - 8 - 8 * (n : Int) = -8 by omega] at this) (by rw [List.length_map, cs_len, bigB_len]) (by rw [List.length_map, cs_len, bigB_len]; omega) (fun _ => rfl) fun i H1 e1 hi => ?_) k
  exact ⟨_, at_int (cs_at (d := x / 2 ^ (8 * (n - 1 - i)) % 256) (by unfold bigB; rw [List.getElem?_map, List.getElem?_range hi]; rfl)), ev_byte (ev_var rfl) (Ev.is (ev_var rfl) (congrArg V.int (by omega)))⟩
def valB (ds : List Nat) : Nat := ds.foldl (fun a d => a * 256 + d) 0
theorem valB_snoc (ds : List Nat) (d : Nat) : valB (ds ++ [d]) = valB ds * 256 + d := by unfold valB; rw [List.foldl_append]; rfl
theorem valB_lt {ds : List Nat} (h : ∀ d ∈ ds, d < 256) : ∀ i, i ≤ ds.length → valB (ds.take i) < 2 ^ (8 * i)
  | 0, _ => by rw [List.take_zero]; decide
  | i + 1, hi => by
    have ih := valB_lt h i (by omega)
    have hd : ds[i]? = some ds[i] := List.getElem?_eq_getElem (by omega)
    have hlt := h _ (List.mem_of_getElem? hd)
    rw [show ds.take (i + 1) = ds.take i ++ [ds[i]] from by rw [List.take_add_one, hd]; rfl, valB_snoc, show 8 * (i + 1) = 8 * i + 8 by omega, Nat.pow_add]
    have e : (2 : Nat) ^ 8 = 256 := rfl
    rw [e]
    omega
theorem bigB_take (x n : Nat) : ∀ i, i ≤ n → valB ((bigB x n).take i) = x / 2 ^ (8 * (n - i)) % 2 ^ (8 * i)
  | 0, _ => by
    rw [List.take_zero, Nat.mul_zero, Nat.pow_zero, Nat.mod_one]
    rfl
  | i + 1, hi => by
    have ih := bigB_take x n i (by omega)
    have hd : (bigB x n)[i]? = some (x / 2 ^ (8 * (n - 1 - i)) % 256) := by unfold bigB; rw [List.getElem?_map, List.getElem?_range (by omega)]; rfl
    rw [show (bigB x n).take (i + 1) = (bigB x n).take i ++ [x / 2 ^ (8 * (n - 1 - i)) % 256] from by rw [List.take_add_one, hd]; rfl, valB_snoc, ih, show n - (i + 1) = n - 1 - i by omega]
    have e1 : x / 2 ^ (8 * (n - i)) = x / 2 ^ (8 * (n - 1 - i)) / 256 := by
      rw [Nat.div_div_eq_div_mul, show 8 * (n - i) = 8 * (n - 1 - i) + 8 by omega, Nat.pow_add]
    rw [e1]
    generalize x / 2 ^ (8 * (n - 1 - i)) = y
    rw [show 8 * (i + 1) = 8 + 8 * i by omega, Nat.pow_add, show (2 : Nat) ^ 8 = 256 from rfl, Nat.mod_mul]
    omega
theorem valB_bigB {x n : Nat} (h : x < 2 ^ (8 * n)) : valB (bigB x n) = x := by
  have := bigB_take x n n (Nat.le_refl _)
  rw [List.take_of_length_le (by rw [bigB_len]; exact Nat.le_refl _), Nat.sub_self, Nat.mul_zero, Nat.pow_zero, Nat.div_one, Nat.mod_eq_of_lt h] at this
  exact this
theorem or_join8 (a d : Nat) (h : d < 256) : Builtin.bitOr ((a : Int) * 2 ^ (8 : Int).toNat) (d : Int) = ((a * 256 + d : Nat) : Int) := by
  have h1 := _root_.Bits.bitOr_join' (a := (d : Int)) (b := (a : Int)) (k := 8) (by omega) (by show _ < ((2 : Int) ^ 8); have e : ((2 : Int) ^ 8) = 256 := rfl; omega) (by omega)
  have e : (8 : Int).toNat = 8 := rfl
  rw [e, h1]
  have e2 : ((2 : Int) ^ 8) = 256 := rfl
  omega
def sp_bignum (K : PySem.W.Frag) : Sp := fun vs H Q _ => ∃ (a : Addr) (ds : List Nat) (pl c : Nat), vs = [.ref a, .int (pl : Int), .int (c : Int)] ∧ SqL K H a ((cs ds).map V.int) ∧ c ≤ 8 ∧ (∀ d ∈ ds, d < 256) ∧ RetV (.int (valB ((ds.drop pl).take c) : Int)) H Q
theorem ok_big_number (T : TX K mg) : FnOk P w K mg base CX0 1 T.a_big_number T.d_big_number ["data", "place", "count"] (sp_bignum K) := by
  refine T.F_big_number.ok sc_big_number (fun vs H Q E h => by obtain ⟨a, ds, pl, c, rfl, _⟩ := h; rfl) (fun cdv A outer s0 H vs Q E hr h => ?_)
  obtain ⟨a, ds, pl, c, rfl, hS, hc, hb, k⟩ := h
  refine ⟨_, (pss_cons (ps_set (i := 3) sc_big_number.nd rfl (Or.inl rfl) pe_int)
      (pss_cons (ps_for PassesOwn.never rfl (pi_list (pe_slice (r := rSlL K) sl_list (pv 0) (po_some (pv 1)) (po_some (pe_op op_add (pv 1) (pv 2))))) (pg_name (i := 4) sc_big_number.nd rfl (Or.inl rfl)) (pss_one (ps_set (i := 3) sc_big_number.nd rfl (Or.inl rfl) (pe_op op_or (pe_op op_shl (pv 3) pe_int) (pv 4)))))
      (pss_one (ps_ret (pv 3))))), ?_⟩
  refine q_asg ev_c fun H1 e1 => ?_
  generalize hbs : (ds.drop pl).take c = bs at *
  have hbl : bs.length ≤ 8 := by rw [← hbs, List.length_take]; omega
  have hbb : ∀ d ∈ bs, d < 256 := fun d hd => by rw [← hbs] at hd; exact hb d (List.mem_of_mem_drop (List.mem_of_mem_take hd))
  refine q_forNLn (K := K) (xs := (cs bs).map V.int) (EvL.is (el_mid (i := pl) (j := pl + c) (Ev.s (ev_var rfl) (ex_l e1 hS)) (ev_var rfl) (Ev.is (ev_I0 (ev_var rfl) (ev_var rfl)) (congrArg V.int (by omega)))) (by rw [Nat.add_sub_cancel_left, cs_drop, cs_take, hbs])) (fun q i σ' H' => ∃ z, σ' = [some (.ref a), some (.int (pl : Int)), some (.int (c : Int)), some (.int (valB (bs.take i) : Int)), z] ∧ Ex H H' ∧ H' q = some (.lst ((cs bs).map V.int))) (fun q H2 hq e2 g2 => ⟨none, rfl, e1.trans e2, g2⟩) (fun q i σ' H' _ h => by obtain ⟨_, _, _, g⟩ := h; exact sq_of g) ?_ ?_
  · rintro q i x σ' H2 hx ⟨z, rfl, ex, gq⟩
    obtain ⟨d, hd, hi, rfl⟩ := cs_get hx
    have hdb := hbb d (List.mem_of_getElem? hd)
    have hlt := valB_lt hbb i (by omega)
    have hi7 : i ≤ 7 := by omega
    have h56 : (2 : Nat) ^ (8 * i) ≤ 2 ^ 56 := Nat.pow_le_pow_right (by decide) (by omega)
    have e56 : (2 : Nat) ^ 56 = 72057594037927936 := rfl
    refine s_asg (v := .int (valB (bs.take (i + 1)) : Int)) (Ev.is (ev_I0 (ev_I (ev_var rfl) ev_c (show CPow ((valB (bs.take i) : Nat) : Int) 8 from ⟨by decide, by decide, by omega⟩)) (ev_var rfl)) (congrArg V.int ?_)) fun H3 e3 => ⟨_, rfl, ex.trans e3, e3 _ _ gq⟩
    rw [or_join8 _ _ hdb, show bs.take (i + 1) = bs.take i ++ [d] from by rw [List.take_add_one, hd]; rfl, valB_snoc]
  · rintro q σ' H2 ⟨z, rfl, ex, gq⟩
    rw [List.length_map, cs_len, List.take_length]
    exact s_ret (ev_var rfl) fun H3 e3 => k.go (ex.trans e3)
theorem ev_bignum {σ : L2.St} {H : Hp} {t1 t2 t3 : TE} {E : XK} {ds : List Nat} {pl c : Nat} (h1 : EvS K t1 σ H ((cs ds).map V.int)) (h2 : Ev t2 σ H (.int (pl : Int))) (h3 : Ev t3 σ H (.int (c : Int))) (hc : c ≤ 8) (hb : ∀ d ∈ ds, d < 256) : Ev (tCall (sp_bignum K) [] E (tCons t1 (tCons t2 (tCons t3 tNil)))) σ H (.int (valB ((ds.drop pl).take c) : Int)) := fun H1 e Q q =>
  h1 H1 e _ fun p H2 e2 hp => h2 H2 (e.trans e2) _ fun H3 e3 => h3 H3 ((e.trans e2).trans e3) _ fun H4 e4 => ⟨p, ds, pl, c, rfl, ex_l (e3.trans e4) hp, hc, hb, fun H5 e5 => q H5 (((e2.trans e3).trans e4).trans e5)⟩

/-! ### lists of triples -/
abbrev T3 := Nat × Nat × Nat
def triV (t : T3) : List V := [.int (t.1 : Int), .int (t.2.1 : Int), .int (t.2.2 : Int)]
def triD (t : T3) : PyData := .tuple [.int (t.1 : Int), .int (t.2.1 : Int), .int (t.2.2 : Int)]
def TupsAt (H : Hp) : List Addr → List T3 → Prop
  | [], [] => True
  | p :: ps, f :: fs => H p = some (.tup (triV f)) ∧ TupsAt H ps fs
  | _, _ => False
theorem TupsAt.len {H : Hp} : ∀ {ps : List Addr} {fs : List T3}, TupsAt H ps fs → ps.length = fs.length
  | [], [], _ => rfl
  | _ :: _, _ :: _, h => by rw [List.length_cons, List.length_cons, TupsAt.len h.2]
  | [], _ :: _, h => h.elim
  | _ :: _, [], h => h.elim
theorem TupsAt.get {H : Hp} : ∀ {ps : List Addr} {fs : List T3}, TupsAt H ps fs → ∀ (i : Nat) (p : Addr), ps[i]? = some p → ∃ f, fs[i]? = some f ∧ H p = some (.tup (triV f))
  | [], _, _, i, p, hp => by simp at hp
  | q :: ps, f :: fs, h, 0, p, hp => ⟨f, rfl, by cases hp; exact h.1⟩
  | q :: ps, f :: fs, h, i + 1, p, hp => TupsAt.get h.2 i p hp
  | _ :: _, [], h, _, _, _ => h.elim
theorem TupsAt.rel {H H' : Hp} (r : ∀ p t, H p = some (.tup t) → H' p = some (.tup t)) : ∀ {ps : List Addr} {fs : List T3}, TupsAt H ps fs → TupsAt H' ps fs
  | [], [], _ => trivial
  | _ :: _, _ :: _, h => ⟨r _ _ h.1, TupsAt.rel r h.2⟩
  | [], _ :: _, h => h.elim
  | _ :: _, [], h => h.elim
theorem TupsAt.ex {H H' : Hp} {ps : List Addr} {fs : List T3} (h : TupsAt H ps fs) (e : Ex H H') : TupsAt H' ps fs := h.rel fun p t g => e p _ g
theorem TupsAt.updL {H : Hp} {D : Addr} {xs ys : List V} {ps : List Addr} {fs : List T3} (h : TupsAt H ps fs) (hD : H D = some (.lst xs)) : TupsAt (upd H D (.lst ys)) ps fs := h.rel fun p t g => by
  have : p ≠ D := by rintro rfl; rw [hD] at g; cases g
  rw [upd_ne this]
  exact g
theorem TupsAt.fr {s : Addr} {H H' : Hp} {ps : List Addr} {fs : List T3} (h : TupsAt H ps fs) (st : StAt H s) (f : Fr s H H') : TupsAt H' ps fs := h.rel fun p t g => by
  have : p ≠ s := by rintro rfl; obtain ⟨k, c, q⟩ := st; rw [q] at g; cases g
  exact f.1 p _ this g
theorem TupsAt.snoc {H : Hp} {p : Addr} {f : T3} (hp : H p = some (.tup (triV f))) : ∀ {ps : List Addr} {fs : List T3}, TupsAt H ps fs → TupsAt H (ps ++ [p]) (fs ++ [f])
  | [], [], _ => ⟨hp, trivial⟩
  | _ :: _, _ :: _, h => ⟨h.1, TupsAt.snoc hp h.2⟩
  | [], _ :: _, h => h.elim
  | _ :: _, [], h => h.elim
theorem TupsAt.d {H : Hp} : ∀ {ps : List Addr} {fs : List T3}, TupsAt H ps fs → DpAll K H (ps.map V.ref) (fs.map triD)
  | [], [], _ => .nil
  | _ :: _, _ :: _, h => .cons (.tup (st_of h.1) (.cons (.int _) (.cons (.int _) (.cons (.int _) .nil)))) (TupsAt.d h.2)
  | [], _ :: _, h => h.elim
  | _ :: _, [], h => h.elim
theorem canLay_tris : ∀ fs : List T3, PyData.canLayAll0 (fs.map triD) = true
  | [] => by simp [PyData.canLayAll0]
  | f :: r => by
    show PyData.canLayAll0 (triD f :: r.map triD) = true
    rw [PyData.canLayAll0, canLay_tris r]
    simp [triD, PyData.canLay0, PyData.canLayAll0]
theorem depth_tris : ∀ fs : List T3, PyData.depthAll (fs.map triD) ≤ 3
  | [] => by simp [PyData.depthAll]
  | f :: r => by
    show PyData.depthAll (triD f :: r.map triD) ≤ 3
    have := depth_tris r
    simp only [triD, PyData.depthAll, PyData.depth] at *
    omega
theorem shaped_tris (fs : List T3) : SeqAt.shaped (.list (fs.map triD)) = true := by
  unfold SeqAt.shaped
  have h1 := canLay_tris fs
  have h2 := depth_tris fs
  rw [Bool.and_eq_true, decide_eq_true_iff]
  refine ⟨by simpa only [PyData.canLay0] using h1, ?_⟩
  rw [PyData.depth]
  omega
theorem shaped_tri (f : T3) : SeqAt.shaped (triD f) = true := by
  unfold SeqAt.shaped
  rw [Bool.and_eq_true, decide_eq_true_iff]
  exact ⟨by simp [triD, PyData.canLay0, PyData.canLayAll0], by simp only [triD, PyData.depth, PyData.depthAll]; omega⟩
/-- a, b, c = a triple -/
theorem ref_at {ps : List Addr} {i : Nat} {x : V} (hx : (ps.map V.ref)[i]? = some x) : ∃ p, ps[i]? = some p ∧ i < ps.length ∧ x = V.ref p := by
  rw [List.getElem?_map] at hx
  cases en : ps[i]? with
  | none => rw [en] at hx; cases hx
  | some n => rw [en] at hx; exact ⟨n, rfl, (List.getElem?_eq_some_iff.mp en).1, (Option.some.inj hx).symm⟩
theorem at_ref {ps : List Addr} {i : Nat} {p : Addr} (h : ps[i]? = some p) : (ps.map V.ref)[i]? = some (V.ref p) := by rw [List.getElem?_map, h]; rfl
theorem tups_take {H : Hp} : ∀ {ps : List Addr} {fs : List T3}, TupsAt H ps fs → ∀ i, TupsAt H (ps.take i) (fs.take i)
  | [], [], _, i => by rw [List.take_nil, List.take_nil]; trivial
  | _ :: _, _ :: _, _, 0 => trivial
  | _ :: _, _ :: _, h, i + 1 => ⟨h.1, tups_take h.2 i⟩
  | [], _ :: _, h, _ => h.elim
  | _ :: _, [], h, _ => h.elim

def Pts (H : Hp) (L : List (V × Option T3)) : Prop := ∀ x ∈ L, match x.2 with | none => x.1 = .non | some t => ∃ p, x.1 = .ref p ∧ H p = some (.tup (triV t))
theorem Pts.rel {H H' : Hp} {L : List (V × Option T3)} (r : ∀ p t, H p = some (.tup t) → H' p = some (.tup t)) (h : Pts H L) : Pts H' L := fun x hx => by
  have := h x hx
  revert this
  cases x.2 with
  | none => exact id
  | some t => exact fun ⟨p, h1, h2⟩ => ⟨p, h1, r _ _ h2⟩
theorem Pts.ex {H H' : Hp} {L : List (V × Option T3)} (h : Pts H L) (e : Ex H H') : Pts H' L := h.rel fun p t g => e p _ g
theorem Pts.fr {s : Addr} {H H' : Hp} {L : List (V × Option T3)} (h : Pts H L) (st : StAt H s) (f : Fr s H H') : Pts H' L := h.rel fun p t g => by
  have : p ≠ s := by rintro rfl; obtain ⟨k, c, q⟩ := st; rw [q] at g; cases g
  exact f.1 p _ this g
theorem pt_at {L : List (V × Option T3)} {i : Nat} {x : V} (h : (L.map (·.1))[i]? = some x) : ∃ y, L[i]? = some y ∧ x = y.1 := by
  rw [List.getElem?_map] at h
  cases e : L[i]? with
  | none => rw [e] at h; cases h
  | some y => rw [e] at h; exact ⟨y, rfl, (Option.some.inj h).symm⟩

/-- a number of the module -/
theorem ev_relC {σ : L2.St} {H : Hp} {i : Int} {u : Value} (_ : RelV (.int i) u) : Ev (tC (.int i)) σ H (.int i) := ev_c

/-! ### tuples: their kind, their length, a comprehension over one -/
theorem ev_isiT {σ : L2.St} {H : Hp} {ta : TE} {a : Addr} {xs : List V} (ha : Ev ta σ H (.ref a)) (h : H a = some (.tup xs)) : Ev (tCB (rIsi K) (tCons ta (tCons (tC (.ty "tuple")) tNil))) σ H (.bl true) := ev_isi ha (isi_tup h) kit_tt
theorem ev_lenT {σ : L2.St} {H : Hp} {ta : TE} {a : Addr} {xs : List V} (ha : Ev ta σ H (.ref a)) (h : H a = some (.tup xs)) : Ev (tCB (rLenS K) (tCons ta tNil)) σ H (.int (xs.length : Int)) := fun H1 e Q q =>
  ha H1 e _ fun H2 e2 => ⟨a, xs, rfl, .inr (st_of ((e.trans e2) _ _ h)), q H2 e2⟩
theorem el_lcT {σ : L2.St} {H : Hp} {t1 te : TE} {t : Addr} {xs : List V} {vs : List Nat} {j : Nat} (zs : List V) (h1 : Ev t1 σ H (.ref t)) (hT : SqT K H t xs) (hz : zs.length = xs.length) (hb : zs.length ≤ 50000) (hw : ∀ x, wipe ((wipe σ vs).set j (some x)) vs = wipe σ vs)
    (he : ∀ (i : Nat) (x : V) H1, Ex H H1 → xs[i]? = some x → ∃ z, zs[i]? = some z ∧ Ev te ((wipe σ vs).set j (some x)) H1 z) :
    EvL (tLc (iTup K t1) (gName j) tYes te vs) σ H zs := fun H0 e Q q =>
  h1 H0 e _ fun H1 e1 => ⟨t, rfl, ⟨xs, ex_t (e.trans e1) hT⟩, fun D hD => lc_tup (xs := xs) (fun i H' => Ex H1 H' ∧ H' D = some (.lst (zs.take i))) ⟨Ex.new hD, upd_same⟩ (fun i H' _ h => ex_t ((e.trans e1).trans h.1) hT)
    (fun i x H' hi h => ⟨hw x, by
      obtain ⟨z, hz1, hz2⟩ := he i x H' ((e.trans e1).trans h.1) hi
      have hl : i < xs.length := (List.getElem?_eq_some_iff.mp hi).1
      refine hz2 H' (Ex.refl _) _ fun H4 e4 => ⟨zs.take i, e4 _ _ h.2, sz_lt (by rw [List.length_take]; omega), Ex.mut (h.1.trans e4) hD, ?_⟩
      rw [upd_same, take_snoc hz1]⟩)
    (fun H' h => q D H' (fresh_back e1 hD) (e1.trans h.1) (by rw [h.2, ← hz, List.take_length]))⟩
theorem tri_int {t : T3} {j : Nat} {x : V} (hx : (triV t)[j]? = some x) : ∃ n : Int, x = .int n ∧ j < 3 := by
  unfold triV at hx
  match j, hx with
  | 0, hx => exact ⟨_, (Option.some.inj hx).symm, by decide⟩
  | 1, hx => exact ⟨_, (Option.some.inj hx).symm, by decide⟩
  | 2, hx => exact ⟨_, (Option.some.inj hx).symm, by decide⟩
  | j + 3, hx => simp at hx

/-! ### seek tables -/
def rowT (o : Option T3) : T3 := o.getD (18446744073709551615, 0, 0)
def pB (o : Option T3) : List Nat := bigB (rowT o).1 8 ++ bigB (rowT o).2.1 8 ++ bigB (rowT o).2.2 2
theorem pB_len (o : Option T3) : (pB o).length = 18 := by unfold pB; rw [List.length_append, List.length_append, bigB_len, bigB_len, bigB_len]
theorem pB_lt (o : Option T3) : ∀ d ∈ pB o, d < 256 := fun d hd => by
  unfold pB at hd
  rcases List.mem_append.mp hd with h | h
  · rcases List.mem_append.mp h with h | h
    · exact bigB_lt _ _ d h
    · exact bigB_lt _ _ d h
  · exact bigB_lt _ _ d h
theorem pB_none : pB none = bigB 18446744073709551615 8 ++ List.replicate 10 0 := by decide
def okO (o : Option T3) : Prop := match o with | none => True | some t => t.1 < 18446744073709551615 ∧ t.2.1 < 18446744073709551616 ∧ t.2.2 < 65536
def PtAt (H : Hp) (x : V × Option T3) : Prop := match x.2 with | none => x.1 = .non | some t => ∃ p, x.1 = .ref p ∧ H p = some (.tup (triV t))
theorem Pts.at {H : Hp} {L : List (V × Option T3)} (h : Pts H L) {i : Nat} {x : V × Option T3} (hx : L[i]? = some x) : PtAt H x := h x (List.mem_of_getElem? hx)
theorem PtAt.ex {H H' : Hp} {x : V × Option T3} (h : PtAt H x) (e : Ex H H') : PtAt H' x := (Pts.ex (L := [x]) (fun y hy => by rw [List.mem_singleton.mp hy]; exact h) e) x (List.mem_singleton.mpr rfl)
theorem Pts.snoc {H : Hp} {L : List (V × Option T3)} {x : V × Option T3} (h : Pts H L) (hx : PtAt H x) : Pts H (L ++ [x]) := fun y hy => by
  rcases List.mem_append.mp hy with h' | h'
  · exact h y h'
  · rw [List.mem_singleton.mp h']
    exact hx
theorem Pts.updL {H : Hp} {D : Addr} {xs ys : List V} {L : List (V × Option T3)} (h : Pts H L) (hD : H D = some (.lst xs)) : Pts (upd H D (.lst ys)) L := h.rel fun p t g => by
  have : p ≠ D := by rintro rfl; rw [hD] at g; cases g
  rw [upd_ne this]
  exact g
theorem PtAt.updL {H : Hp} {D : Addr} {xs ys : List V} {x : V × Option T3} (h : PtAt H x) (hD : H D = some (.lst xs)) : PtAt (upd H D (.lst ys)) x := (Pts.updL (L := [x]) (fun y hy => by rw [List.mem_singleton.mp hy]; exact h) hD) x (List.mem_singleton.mpr rfl)
def optD : Option T3 → PyData
  | none => .none
  | some t => triD t
theorem PtAt.d {H : Hp} {x : V × Option T3} (h : PtAt H x) : Dp K H x.1 (optD x.2) := by
  unfold PtAt at h
  revert h
  cases x.2 with
  | none => intro h; rw [show x.1 = V.non from h]; exact .non
  | some t => rintro ⟨p, h1, h2⟩; rw [h1]; exact .tup (st_of h2) (.cons (.int _) (.cons (.int _) (.cons (.int _) .nil)))
theorem Pts.d {H : Hp} : ∀ {L : List (V × Option T3)}, Pts H L → DpAll K H (L.map (·.1)) ((L.map (·.2)).map optD)
  | [], _ => .nil
  | x :: L, h => .cons (PtAt.d (h x (List.mem_cons_self ..))) (Pts.d fun y hy => h y (List.mem_cons_of_mem _ hy))
theorem canLay_opts : ∀ os : List (Option T3), PyData.canLayAll0 (os.map optD) = true
  | [] => by simp [PyData.canLayAll0]
  | o :: r => by
    show PyData.canLayAll0 (optD o :: r.map optD) = true
    rw [PyData.canLayAll0, canLay_opts r]
    cases o <;> simp [optD, triD, PyData.canLay0, PyData.canLayAll0]
theorem depth_opts : ∀ os : List (Option T3), PyData.depthAll (os.map optD) ≤ 3
  | [] => by simp [PyData.depthAll]
  | o :: r => by
    show PyData.depthAll (optD o :: r.map optD) ≤ 3
    have := depth_opts r
    cases o <;> (simp only [optD, triD, PyData.depthAll, PyData.depth] at *; omega)
theorem shaped_opts (os : List (Option T3)) : SeqAt.shaped (.list (os.map optD)) = true := by
  unfold SeqAt.shaped
  have h1 := canLay_opts os
  have h2 := depth_opts os
  rw [Bool.and_eq_true, decide_eq_true_iff]
  refine ⟨by simpa only [PyData.canLay0] using h1, ?_⟩
  rw [PyData.depth]
  omega
theorem shaped_opt (o : Option T3) : SeqAt.shaped (optD o) = true := by
  cases o with
  | none => rfl
  | some t => exact shaped_tri t
theorem ev_ptI {σ : L2.St} {H : Hp} {tl ti : TE} {L : List (V × Option T3)} {n : Int} {i : Nat} {x : V × Option T3} (h : EvS K tl σ H (L.map (·.1))) (hi : Ev ti σ H (.int n)) (hn : n = (i : Int)) (hx : L[i]? = some x) : Ev (tOp (rIxL K) tl ti) σ H x.1 := ev_ixS (i := 0) h hi (at_of (j := i) hn (by rw [List.getElem?_map, hx]; rfl))

def sp_wpoint : Sp := fun vs H Q _ => ∃ x : V × Option T3, vs = [x.1] ∧ PtAt H x ∧ RetL ((cs (pB x.2)).map V.int) H Q
theorem ok_write_point (T : TX K mg) : FnOk P w K mg base CX0 2 T.a_write_point T.d_write_point ["point"] sp_wpoint := by
  refine T.F_write_point.ok sc_write_point (fun vs H Q E h => by obtain ⟨x, rfl, _⟩ := h; rfl) (fun cdv A outer s0 H vs Q E hr h => ?_)
  obtain ⟨⟨v, o⟩, rfl, hx, k⟩ := h
  refine ⟨_, (pss_cons (ps_if (pt_cmpR op_isN1 (pv 0) pe_non (nomark _)) (pss_one (ps_ret (pe_op op_cat (pe_call (ok_big_bytes T) (hr.mono (by decide)) (by rfl) T.g_big_bytes T.F_big_bytes.kp T.b_big_bytes .nil pass0 (pa_cons (pe_glob (by rfl) T.c_NO_SAMPLE T.r_NO_SAMPLE) (pa_cons pe_int pa_nil))) (pe_op op_rep (pe_lst (pa_cons pe_int pa_nil)) pe_int)))) pss_nil)
      (pss_cons (ps_asg (pv 0) (pg_tup rfl (pgs_cons (pg_name (i := 1) sc_write_point.nd rfl (Or.inl rfl)) (pgs_cons (pg_name (i := 2) sc_write_point.nd rfl (Or.inl rfl)) (pgs_cons (pg_name (i := 3) sc_write_point.nd rfl (Or.inl rfl)) pgs_nil)))))
      (pss_one (ps_ret (pe_op op_cat (pe_op op_cat (pe_call (ok_big_bytes T) (hr.mono (by decide)) (by rfl) T.g_big_bytes T.F_big_bytes.kp T.b_big_bytes .nil pass0 (pa_cons (pv 1) (pa_cons pe_int pa_nil))) (pe_call (ok_big_bytes T) (hr.mono (by decide)) (by rfl) T.g_big_bytes T.F_big_bytes.kp T.b_big_bytes .nil pass0 (pa_cons (pv 2) (pa_cons pe_int pa_nil)))) (pe_call (ok_big_bytes T) (hr.mono (by decide)) (by rfl) T.g_big_bytes T.F_big_bytes.kp T.b_big_bytes .nil pass0 (pa_cons (pv 3) (pa_cons pe_int pa_nil)))))))), ?_⟩
  cases o with
  | none =>
    obtain rfl : v = .non := hx
    refine q_when (b := true) (et_is (et_test (ev_isN (ev_var rfl))) (decide_eq_true rfl)) (fun _ H1 e1 => ?_) (fun h => by cases h)
    refine s_retL (EvL.is (el_cat (EvL.r (el_numb (x := 18446744073709551615) (n := 8) (ev_relC T.r_NO_SAMPLE) ev_c (by decide))) (EvL.r (EvL.is (el_rep (xs := [V.int 0]) (k := 10) (EvL.r (el_lst (ea_cons ev_c ea_nil) (by decide))) ev_c (by decide) (by decide)) (ys := List.replicate 10 (V.int 0)) (rep_one 10))) (by rw [List.length_map, cs_len, bigB_len, List.length_replicate]; decide)) ?_) fun p H2 hp e2 g2 => k.go e1 hp e2 g2
    rw [pB_none, cs_append, List.map_append]
    rfl
  | some t =>
    obtain ⟨p, rfl, hp⟩ := hx
    refine q_when (b := false) (et_is (et_test (ev_isN (ev_var rfl))) (decide_eq_false (fun h => by cases h))) (fun h => by cases h) fun _ H1 e1 => ?_
    refine ⟨.ref p, rfl, p, triV t, rfl, st_of (e1 _ _ hp), rfl, .int (t.1 : Int), [.int (t.2.1 : Int), .int (t.2.2 : Int)], rfl, .int (t.2.1 : Int), [.int (t.2.2 : Int)], rfl, .int (t.2.2 : Int), [], rfl, rfl, ?_⟩
    refine s_retL (EvL.is (el_cat (EvL.r (el_cat (EvL.r (el_numb (x := t.1) (n := 8) (ev_var rfl) ev_c (by decide))) (EvL.r (el_numb (x := t.2.1) (n := 8) (ev_var rfl) ev_c (by decide))) (by rw [List.length_map, cs_len, bigB_len, List.length_map, cs_len, bigB_len]; decide))) (EvL.r (el_numb (x := t.2.2) (n := 2) (ev_var rfl) ev_c (by decide))) (by rw [List.length_append, List.length_map, cs_len, bigB_len, List.length_map, cs_len, bigB_len, List.length_map, cs_len, bigB_len]; decide)) ?_) fun q H2 hq e2 g2 => k.go e1 hq e2 g2
    show _ = (cs (bigB t.1 8 ++ bigB t.2.1 8 ++ bigB t.2.2 2)).map V.int
    rw [cs_append, cs_append, List.map_append, List.map_append]
theorem el_wpoint {σ : L2.St} {H : Hp} {te : TE} {E : XK} {x : V × Option T3} (h : Ev te σ H x.1) (hx : PtAt H x) : EvL (tCall sp_wpoint [] E (tCons te tNil)) σ H ((cs (pB x.2)).map V.int) := el_call (ea_cons h ea_nil) fun H1 e Q q _ => ⟨x, rfl, hx.ex e, q⟩
def ptsB (os : List (Option T3)) : List Nat := os.flatMap pB
theorem ptsB_len (os : List (Option T3)) : (ptsB os).length = 18 * os.length := by
  induction os with
  | nil => rfl
  | cons o r ih =>
    show (pB o ++ ptsB r).length = _
    rw [List.length_append, pB_len, ih, List.length_cons]
    omega
theorem ptsB_lt (os : List (Option T3)) : ∀ d ∈ ptsB os, d < 256 := fun d hd => by
  obtain ⟨o, _, hd⟩ := List.mem_flatMap.mp hd
  exact pB_lt o d hd
theorem ptsB_snoc {os : List (Option T3)} {i : Nat} {o : Option T3} (h : os[i]? = some o) : ptsB (os.take (i + 1)) = ptsB (os.take i) ++ pB o := by
  unfold ptsB
  rw [show os.take (i + 1) = os.take i ++ [o] from by rw [List.take_add_one, h]; rfl, List.flatMap_append]
  show _ ++ (pB o ++ []) = _
  rw [List.append_nil]
theorem snd_at {L : List (V × Option T3)} {i : Nat} {x : V × Option T3} (h : L[i]? = some x) : (L.map (·.2))[i]? = some x.2 := by rw [List.getElem?_map, h]; rfl

def sp_wtable (K : PySem.W.Frag) : Sp := fun vs H Q _ => ∃ (a : Addr) (L : List (V × Option T3)), vs = [.ref a] ∧ SqL K H a (L.map (·.1)) ∧ Pts H L ∧ L.length ≤ 1000 ∧ RetL ((cs (ptsB (L.map (·.2)))).map V.int) H Q
theorem ok_write_seektable (T : TX K mg) : FnOk P w K mg base CX0 3 T.a_write_seektable T.d_write_seektable ["points"] (sp_wtable K) := by
  refine T.F_write_seektable.ok sc_write_seektable (fun vs H Q E h => by obtain ⟨a, L, rfl, _⟩ := h; rfl) (fun cdv A outer s0 H vs Q E hr h => ?_)
  obtain ⟨a, L, rfl, hS, hP, hl, k⟩ := h
  refine ⟨_, (pss_cons (ps_set (i := 1) sc_write_seektable.nd rfl (Or.inl rfl) (pe_lst pa_nil))
      (pss_cons (ps_for PassesOwn.never rfl (pi_list (pv 0)) (pg_name (i := 2) sc_write_seektable.nd rfl (Or.inl rfl)) (pss_one (ps_expr (pe_bm PySem.F.plainAttrs_list PySem.F.slot_list_extend PySem.F.type_list_extend mt_extend (pv 1) (pa_cons (pe_call (ok_write_point T) (hr.mono (by decide)) (by rfl) T.g_write_point T.F_write_point.kp T.b_write_point .nil pass0 (pa_cons (pv 2) pa_nil)) pa_nil)))))
      (pss_one (ps_ret (pv 1))))), ?_⟩
  refine q_asgL (xs := []) (el_lst ea_nil (by decide)) fun q H1 hq e1 g1 => ?_
  refine q_forLn (K := K) (a := a) (ev_var rfl) (ex_l e1 hS) (fun i σ' H' => ∃ z, σ' = [some (.ref a), some (.ref q), z] ∧ Ex H H' ∧ H' q = some (.lst ((cs (ptsB ((L.map (·.2)).take i))).map V.int))) (fun H2 e2 => ⟨none, rfl, e1.trans e2, e2 _ _ g1⟩) (fun i σ' H' _ h => by obtain ⟨_, _, ex, _⟩ := h; exact ex_l ex hS) ?_ ?_
  · rintro i x σ' H2 hx ⟨z, rfl, ex, gq⟩
    obtain ⟨y, hy, rfl⟩ := pt_at hx
    have hlt := (List.getElem?_eq_some_iff.mp hy).1
    refine s_ext gq (ev_var rfl) (EvL.r (el_wpoint (ev_var rfl) ((hP.at hy).ex ex))) (by rw [List.length_map, cs_len, List.length_map, cs_len, pB_len, ptsB_len, List.length_take]; omega) fun H3 e3 => ⟨_, rfl, Ex.mut (ex.trans e3) hq, ?_⟩
    rw [upd_same, ptsB_snoc (snd_at hy), cs_append, List.map_append]
  · rintro σ' H2 ⟨z, rfl, ex, gq⟩
    rw [List.length_map, List.take_of_length_le (by rw [List.length_map]; exact Nat.le_refl _)] at gq
    exact s_ret (v := .ref q) (ev_var rfl) fun H3 e3 => k q H3 hq (ex.trans e3) (e3 _ _ gq)
theorem el_wtable {σ : L2.St} {H : Hp} {te : TE} {E : XK} {L : List (V × Option T3)} (h : EvS K te σ H (L.map (·.1))) (hP : Pts H L) (hl : L.length ≤ 1000) : EvL (tCall (sp_wtable K) [] E (tCons te tNil)) σ H ((cs (ptsB (L.map (·.2)))).map V.int) := fun H1 e Q q =>
  h H1 e _ fun p H2 e2 hp => ⟨p, L, rfl, hp, hP.ex (e.trans e2), hl, fun r H3 hr e3 g3 => q r H3 (fresh_back e2 hr) (e2.trans e3) g3⟩
def mayF (b p : Option T3) : Bool := match p with | none => true | some q => match b with | none => false | some r => decide (r.1 < q.1)
def sp_may : Sp := fun vs H Q _ => ∃ x y : V × Option T3, vs = [x.1, y.1] ∧ PtAt H x ∧ PtAt H y ∧ RetV (.bl (mayF x.2 y.2)) H Q
theorem ok_may_follow (T : TX K mg) : FnOk P w K mg base CX0 1 T.a_may_follow T.d_may_follow ["before", "point"] sp_may := by
  refine T.F_may_follow.ok sc_may_follow (fun vs H Q E h => by obtain ⟨x, y, rfl, _⟩ := h; rfl) (fun cdv A outer s0 H vs Q E hr h => ?_)
  obtain ⟨⟨v, o⟩, ⟨u, r⟩, rfl, hx, hy, k⟩ := h
  refine ⟨_, (pss_cons (ps_if (pt_cmpR op_isN1 (pv 1) pe_non (nomark _)) (pss_one (ps_ret pe_bl)) pss_nil)
      (pss_one (ps_ret (pe_and (pe_cmpR op_notN1 (pv 0) pe_non (nomark _)) (pe_one (pe_cmpR op_lt (pe_ix (r := rIxT K) ix_tup (pv 0) pe_int (fun _ _ => rfl)) (pe_ix (r := rIxT K) ix_tup (pv 1) pe_int (fun _ _ => rfl)) (nomark _))))))), ?_⟩
  cases r with
  | none =>
    obtain rfl : u = .non := hy
    refine q_when (b := true) (et_is (et_test (ev_isN (ev_var rfl))) (decide_eq_true rfl)) (fun _ H1 e1 => ?_) (fun h => by cases h)
    exact s_ret ev_c fun H2 e2 => k.go (e1.trans e2)
  | some q =>
    obtain ⟨pq, rfl, hq⟩ := hy
    refine q_when (b := false) (et_is (et_test (ev_isN (ev_var rfl))) (decide_eq_false (fun h => by cases h))) (fun h => by cases h) fun _ H1 e1 => ?_
    cases o with
    | none =>
      obtain rfl : v = .non := hx
      exact s_ret (v := .bl false) (ev_is (ev_andV (a := false) (b := false) (Ev.is (ev_notN (ev_var rfl)) rfl) fun h => by cases h) rfl) fun H2 e2 => k.go (e1.trans e2)
    | some t =>
      obtain ⟨pt, rfl, ht⟩ := hx
      exact s_ret (v := .bl (mayF (some t) (some q))) (ev_is (ev_andV (a := true) (b := decide (t.1 < q.1)) (Ev.is (ev_notN (ev_var rfl)) rfl) fun _ => Ev.is (ev_I0 (ev_atT (n := 0) (v := .int (t.1 : Int)) (ev_var rfl) (st_of (e1 _ _ ht)) ev_c (at_of (j := 0) rfl rfl)) (ev_atT (n := 0) (v := .int (q.1 : Int)) (ev_var rfl) (st_of (e1 _ _ hq)) ev_c (at_of (j := 0) rfl rfl))) (congrArg V.bl (decide_eq_decide.mpr (by omega)))) (by rw [Bool.true_and]; rfl)) fun H2 e2 => k.go (e1.trans e2)
theorem ev_may {σ : L2.St} {H : Hp} {t1 t2 : TE} {E : XK} {x y : V × Option T3} (h1 : Ev t1 σ H x.1) (h2 : Ev t2 σ H y.1) (hx : PtAt H x) (hy : PtAt H y) : Ev (tCall sp_may [] E (tCons t1 (tCons t2 tNil))) σ H (.bl (mayF x.2 y.2)) := ev_call (ea_cons h1 (ea_cons h2 ea_nil)) fun H1 e Q q _ => ⟨x, y, rfl, hx.ex e, hy.ex e, q⟩
def RetPt (o : Option T3) (H : Hp) (Q : VK) : Prop := ∀ v H', Ex H H' → PtAt H' (v, o) → Q v H'
def sp_rpt (K : PySem.W.Frag) : Sp := fun vs H Q _ => ∃ (a : Addr) (ds : List Nat) (pl : Nat) (o : Option T3), vs = [.ref a, .int (pl : Int)] ∧ SqL K H a ((cs ds).map V.int) ∧ (∀ d ∈ ds, d < 256) ∧ (ds.drop pl).take 18 = pB o ∧ okO o ∧ RetPt o H Q
theorem sub_take {ds bs : List Nat} {pl j m : Nat} (h : (ds.drop pl).take 18 = bs) (hj : j + m ≤ 18) : (ds.drop (pl + j)).take m = (bs.drop j).take m := by
  rw [← h, List.drop_take, List.take_take, List.drop_drop, Nat.min_eq_left (by omega)]
theorem ok_read_point (T : TX K mg) : FnOk P w K mg base CX0 2 T.a_read_point T.d_read_point ["data", "place"] (sp_rpt K) := by
  refine T.F_read_point.ok sc_read_point (fun vs H Q E h => by obtain ⟨a, ds, pl, o, rfl, _⟩ := h; rfl) (fun cdv A outer s0 H vs Q E hr h => ?_)
  obtain ⟨a, ds, pl, o, rfl, hS, hb, hds, hok, k⟩ := h
  refine ⟨_, (pss_cons (ps_set (i := 2) sc_read_point.nd rfl (Or.inl rfl) (pe_call (ok_big_number T) (hr.mono (by decide)) (by rfl) T.g_big_number T.F_big_number.kp T.b_big_number .nil pass0 (pa_cons (pv 0) (pa_cons (pv 1) (pa_cons pe_int pa_nil)))))
      (pss_cons (ps_if (pt_cmpR op_eq (pv 2) (pe_glob (by rfl) T.c_NO_SAMPLE T.r_NO_SAMPLE) (nomark _)) (pss_one (ps_ret pe_non)) pss_nil)
      (pss_one (ps_ret (pe_tup (pa_cons (pv 2) (pa_cons (pe_call (ok_big_number T) (hr.mono (by decide)) (by rfl) T.g_big_number T.F_big_number.kp T.b_big_number .nil pass0 (pa_cons (pv 0) (pa_cons (pe_op op_add (pv 1) pe_int) (pa_cons pe_int pa_nil)))) (pa_cons (pe_call (ok_big_number T) (hr.mono (by decide)) (by rfl) T.g_big_number T.F_big_number.kp T.b_big_number .nil pass0 (pa_cons (pv 0) (pa_cons (pe_op op_add (pv 1) pe_int) (pa_cons pe_int pa_nil)))) pa_nil)))))))), ?_⟩
  have hbnd : (rowT o).1 < 2 ^ (8 * 8) ∧ (rowT o).2.1 < 2 ^ (8 * 8) ∧ (rowT o).2.2 < 2 ^ (8 * 2) := by
    have e : (2 : Nat) ^ (8 * 8) = 18446744073709551616 := rfl
    have e2 : (2 : Nat) ^ (8 * 2) = 65536 := rfl
    rw [e, e2]
    cases o with
    | none => exact ⟨by decide, by decide, by decide⟩
    | some t => exact ⟨by have := hok.1; show t.1 < _; omega, hok.2.1, hok.2.2⟩
  have h1 : valB ((ds.drop pl).take 8) = (rowT o).1 := by
    have := sub_take (j := 0) (m := 8) hds (by decide)
    rw [Nat.add_zero, List.drop_zero] at this
    rw [this]
    unfold pB
    have := List.take_left (l₁ := bigB (rowT o).1 8) (l₂ := bigB (rowT o).2.1 8 ++ bigB (rowT o).2.2 2)
    rw [bigB_len] at this
    rw [List.append_assoc, this]
    exact valB_bigB hbnd.1
  have h2 : valB ((ds.drop (pl + 8)).take 8) = (rowT o).2.1 := by
    rw [sub_take (j := 8) (m := 8) hds (by decide)]
    unfold pB
    have := List.drop_left (l₁ := bigB (rowT o).1 8) (l₂ := bigB (rowT o).2.1 8 ++ bigB (rowT o).2.2 2)
    rw [bigB_len] at this
    rw [List.append_assoc, this]
    have := List.take_left (l₁ := bigB (rowT o).2.1 8) (l₂ := bigB (rowT o).2.2 2)
    rw [bigB_len] at this
    rw [this]
    exact valB_bigB hbnd.2.1
  have h3 : valB ((ds.drop (pl + 16)).take 2) = (rowT o).2.2 := by
    rw [sub_take (j := 16) (m := 2) hds (by decide)]
    unfold pB
    have := List.drop_left (l₁ := bigB (rowT o).1 8 ++ bigB (rowT o).2.1 8) (l₂ := bigB (rowT o).2.2 2)
    rw [List.length_append, bigB_len, bigB_len] at this
    rw [this, List.take_of_length_le (by rw [bigB_len]; exact Nat.le_refl _)]
    exact valB_bigB hbnd.2.2
  refine q_asg (ev_bignum (pl := pl) (c := 8) (Ev.s (ev_var rfl) hS) (ev_var rfl) ev_c (by decide) hb) fun H1 e1 => ?_
  rw [h1]
  cases o with
  | none =>
    refine q_when (b := true) (et_is (et_test (ev_eq (ev_var rfl) (ev_relC T.r_NO_SAMPLE) rfl)) (decide_eq_true rfl)) (fun _ H2 e2 => ?_) (fun h => by cases h)
    exact s_ret ev_c fun H3 e3 => k _ H3 (e1.trans (e2.trans e3)) rfl
  | some t =>
    refine q_when (b := false) (et_is (et_test (ev_eq (ev_var rfl) (ev_relC T.r_NO_SAMPLE) rfl)) (decide_eq_false (fun h => by have := V.int.inj h; have := hok.1; have e : (rowT (some t)).1 = t.1 := rfl; omega))) (fun h => by cases h) fun _ H2 e2 => ?_
    have e12 := e1.trans e2
    refine s_retU (xs := triV t) (eu_tup (ea_cons (ev_var rfl) (ea_cons (Ev.is (ev_bignum (pl := pl + 8) (c := 8) (Ev.s (ev_var rfl) (ex_l e12 hS)) (Ev.is (ev_I0 (ev_var rfl) ev_c) (congrArg V.int (by omega))) ev_c (by decide) hb) (congrArg (fun n : Nat => V.int (n : Int)) h2)) (ea_cons (Ev.is (ev_bignum (pl := pl + 16) (c := 2) (Ev.s (ev_var rfl) (ex_l e12 hS)) (Ev.is (ev_I0 (ev_var rfl) ev_c) (congrArg V.int (by omega))) ev_c (by decide) hb) (congrArg (fun n : Nat => V.int (n : Int)) h3)) ea_nil))) (Nat.le_of_ble_eq_true rfl)) fun q H3 hq e3 g3 => k _ H3 (e12.trans e3) ⟨q, rfl, g3⟩

theorem ev_rpt {σ : L2.St} {H : Hp} {t1 t2 : TE} {E : XK} {a : Addr} {ds : List Nat} {pl : Nat} {o : Option T3} {Q : VK} (h1 : Ev t1 σ H (.ref a)) (hS : SqL K H a ((cs ds).map V.int)) (h2 : Ev t2 σ H (.int (pl : Int))) (hb : ∀ d ∈ ds, d < 256) (hds : (ds.drop pl).take 18 = pB o) (hok : okO o) (k : RetPt o H Q) : tCall (sp_rpt K) [] E (tCons t1 (tCons t2 tNil)) σ H Q :=
  h1 H (Ex.refl _) _ fun H1 e1 => h2 H1 e1 _ fun H2 e2 => ⟨a, ds, pl, o, rfl, ex_l (e1.trans e2) hS, hb, hds, hok, fun v H3 e3 hv => k v H3 ((e1.trans e2).trans e3) hv⟩
def ordP (os : List (Option T3)) : Prop := ∀ (i : Nat) (x y : Option T3), os[i]? = some x → os[i + 1]? = some y → mayF x y = true
theorem at_last {xs : List V} {x : V} {n : Nat} (hn : xs.length = n + 1) (h : xs[n]? = some x) : atI xs (-1) = some x := by
  unfold atI ixN
  rw [if_neg (by decide), if_pos (by omega)]
  show xs[(-1 + (xs.length : Int)).toNat]? = some x
  rw [hn, show (-1 + ((n + 1 : Nat) : Int)).toNat = n by omega]
  exact h
def sp_rtable (K : PySem.W.Frag) : Sp := fun vs H Q _ => ∃ (a : Addr) (pre post : List Nat) (os : List (Option T3)), vs = [.ref a, .int (pre.length : Int), .int ((pre.length + 18 * os.length : Nat) : Int)] ∧ SqL K H a ((cs (pre ++ (ptsB os ++ post))).map V.int) ∧ (∀ d ∈ pre ++ (ptsB os ++ post), d < 256) ∧ (∀ o ∈ os, okO o) ∧ ordP os ∧ os.length ≤ 1000 ∧ pre.length ≤ 100000 ∧ ∀ p L H', H p = none → Ex H H' → H' p = some (.lst (L.map (·.1))) → Pts H' L → L.map (·.2) = os → Q (.ref p) H'
theorem ok_read_seektable (T : TX K mg) : FnOk P w K mg base CX0 3 T.a_read_seektable T.d_read_seektable ["data", "start", "stop"] (sp_rtable K) := by
  refine T.F_read_seektable.ok sc_read_seektable (fun vs H Q E h => by obtain ⟨a, pre, post, os, rfl, _⟩ := h; rfl) (fun cdv A outer s0 H vs Q E hr h => ?_)
  obtain ⟨a, pre, post, os, rfl, hS, hb, hok, hord, hl, hpl, k⟩ := h
  refine ⟨_, (pss_cons (ps_if (pt_cmpR op_ne (pe_op op_mod (pe_op op_sub (pv 2) (pv 1)) (pe_glob (by rfl) T.c_POINT_LENGTH T.r_POINT_LENGTH)) pe_int (nomark _)) (pss_one ps_never) pss_nil)
      (pss_cons (ps_set (i := 3) sc_read_seektable.nd rfl (Or.inl rfl) (pe_lst pa_nil))
      (pss_cons (ps_for PassesOwn.never rfl (pi_range3 (by rfl) T.m_range (pa_cons (pv 1) (pa_cons (pv 2) (pa_cons (pe_glob (by rfl) T.c_POINT_LENGTH T.r_POINT_LENGTH) pa_nil)))) (pg_name (i := 4) sc_read_seektable.nd rfl (Or.inl rfl)) (pss_cons (ps_set (i := 5) sc_read_seektable.nd rfl (Or.inl rfl) (pe_call (ok_read_point T) (hr.mono (by decide)) (by rfl) T.g_read_point T.F_read_point.kp T.b_read_point .nil pass0 (pa_cons (pv 0) (pa_cons (pv 4) pa_nil))))
        (pss_cons (ps_if (PW.pt (pw_and (pt_cmpR op_gt (pe_callB (r := rLenS K) call_len_seq (by rfl) T.m_len PySem.boot_len (pa_cons (pv 3) pa_nil)) pe_int (nomark _)) (pw_and1 (pt_not (pt_val (pe_call (ok_may_follow T) (hr.mono (by decide)) (by rfl) T.g_may_follow T.F_may_follow.kp T.b_may_follow .nil pass0 (pa_cons (pe_ix (r := rIxL K) ix_list (pv 3) (pe_un un_neg pe_int) (fun _ _ => rfl)) (pa_cons (pv 5) pa_nil)))))))) (pss_one ps_never) pss_nil)
        (pss_one (ps_expr (pe_bm PySem.F.plainAttrs_list PySem.F.slot_list_append PySem.F.type_list_append mt_append (pv 3) (pa_cons (pv 5) pa_nil)))))))
      (pss_one (ps_ret (pv 3)))))), ?_⟩
  refine q_when (b := false) (et_is (et_test (ev_ne (ev_I (ev_I0 (ev_var rfl) (ev_var rfl)) (ev_relC T.r_POINT_LENGTH) (by decide)) ev_c rfl)) (by rw [show (((pre.length + 18 * os.length : Nat) : Int) - (pre.length : Int)) % 18 = 0 by omega]; rfl)) (fun h => by cases h) fun _ H1 e1 => ?_
  refine q_asgL (xs := []) (el_lst ea_nil (by decide)) fun q H2 hq2 e2 g2 => ?_
  have hq := fresh_back e1 hq2
  refine q_forRC (n := os.length) (a := (pre.length : Int)) (b := ((pre.length + 18 * os.length : Nat) : Int)) (c := 18) (ea_cons (ev_var rfl) (ea_cons (ev_var rfl) (ea_cons (ev_relC T.r_POINT_LENGTH) ea_nil))) (by have := rg_18 (i := (pre.length : Int)) (n := os.length) (by omega) (by omega); rwa [show (pre.length : Int) + 18 * (os.length : Int) = ((pre.length + 18 * os.length : Nat) : Int) by omega] at this) (fun i σ' H' => ∃ (L : List (V × Option T3)) (z4 z5 : Option V), σ' = [some (.ref a), some (.int (pre.length : Int)), some (.int ((pre.length + 18 * os.length : Nat) : Int)), some (.ref q), z4, z5] ∧ Ex H H' ∧ H' q = some (.lst (L.map (·.1))) ∧ Pts H' L ∧ L.map (·.2) = os.take i) (fun H3 e3 => ⟨[], none, none, rfl, e1.trans (e2.trans e3), e3 _ _ g2, (fun x hx => by cases hx), rfl⟩) ?_ ?_
  · rintro i σ' H3 hi ⟨L, z4, z5, rfl, ex, gq, hP, hL⟩
    have ho : os[i]? = some os[i] := List.getElem?_eq_getElem hi
    obtain ⟨o, hoe⟩ : ∃ o, os[i] = o := ⟨_, rfl⟩
    rw [hoe] at ho
    have hLl : L.length = i := by have := congrArg List.length hL; rw [List.length_map, List.length_take] at this; omega
    have hU : ptsB os = ptsB (os.take i) ++ (pB o ++ ptsB (os.drop (i + 1))) := by
      have : os = os.take i ++ (o :: os.drop (i + 1)) := by
        rw [← hoe, List.getElem_cons_drop, List.take_append_drop]
      conv => lhs; rw [this]
      unfold ptsB
      rw [List.flatMap_append]
      rfl
    have hpi : (ptsB (os.take i)).length = 18 * i := by rw [ptsB_len, List.length_take]; omega
    have hdrop : ((pre ++ (ptsB os ++ post)).drop (pre.length + 18 * i)).take 18 = pB o := by
      rw [List.drop_append, List.drop_of_length_le (by omega), show pre.length + 18 * i - pre.length = 18 * i by omega, hU, List.append_assoc, ← hpi, List.drop_left, List.nil_append, List.append_assoc]
      have := List.take_left (l₁ := pB o) (l₂ := ptsB (os.drop (i + 1)) ++ post)
      rw [pB_len] at this
      exact this
    refine q_asgRaw (fun v H4 => Ex H3 H4 ∧ PtAt H4 (v, o)) (fun Q' q' => ev_rpt (pl := pre.length + 18 * i) (ev_var rfl) (ex_l ex hS) (Ev.is (ev_var rfl) (congrArg V.int (by omega))) hb hdrop (hok o (List.mem_of_getElem? ho)) fun v H4 e4 hv => q' v H4 ⟨e4, hv⟩) ?_
    rintro v H4 ⟨e4, hv⟩
    refine q_when (b := false) (et_is (et_and (a := decide (0 < i)) (b := false) (et_is (et_test (ev_I0 (ev_lenS (Ev.s (ev_var rfl) (sq_of (e4 _ _ gq)))) ev_c)) (by rw [List.length_map, hLl, decide_eq_decide]; omega)) fun h0 => ?_) (by rw [Bool.and_false])) (fun h => by cases h) fun _ H5 e5 => ?_
    · have h0 : 0 < i := of_decide_eq_true h0
      have hx : L[i - 1]? = some L[i - 1] := List.getElem?_eq_getElem (by omega)
      have hs2 := snd_at hx
      rw [hL, List.getElem?_take, if_pos (by omega)] at hs2
      have hmay := hord (i - 1) _ o hs2 (by rw [show i - 1 + 1 = i by omega]; exact ho)
      refine et_is (et_not (et_B (ev_may (x := L[i - 1]) (y := (v, o)) (ev_ixS (i := 0) (n := -1) (Ev.s (ev_var rfl) (sq_of (e4 _ _ gq))) (ev_negI ev_c) (at_last (n := i - 1) (by rw [List.length_map]; omega) (by rw [List.getElem?_map, hx]; rfl))) (ev_var rfl) ((hP.at hx).ex e4) hv))) (by rw [hmay]; rfl)
    refine s_app (v := v) ((e4.trans e5) _ _ gq) (ev_var rfl) (ev_var rfl) (by rw [List.length_map]; omega) fun H6 e6 => ⟨L ++ [(v, o)], _, _, rfl, Ex.mut (ex.trans ((e4.trans e5).trans e6)) hq, by rw [upd_same, List.map_append]; rfl, ((hP.ex ((e4.trans e5).trans e6)).snoc (hv.ex (e5.trans e6))).updL (((e4.trans e5).trans e6) _ _ gq), ?_⟩
    rw [List.map_append, hL, show os.take (i + 1) = os.take i ++ [o] from by rw [List.take_add_one, ho]; rfl]
    rfl
  · rintro σ' H3 ⟨L, z4, z5, rfl, ex, gq, hP, hL⟩
    rw [List.take_length] at hL
    exact s_ret (v := .ref q) (ev_var rfl) fun H4 e4 => k q L H4 hq (ex.trans e4) (e4 _ _ gq) (hP.ex e4) hL
def ordB (os : List (Option T3)) : List Bool := (List.range (os.length - 1)).map fun i => mayF (os.getD i none) (os.getD (i + 1) none)
def ordF (os : List (Option T3)) : Bool := (ordB os).all id
theorem go_get {os : List (Option T3)} {i : Nat} (h : i < os.length) : os[i]? = some (os.getD i none) := by rw [List.getD_eq_getElem?_getD, List.getElem?_eq_getElem h]; rfl
theorem ordF_of {os : List (Option T3)} (h : ordP os) : ordF os = true := by
  unfold ordF ordB
  rw [List.all_eq_true]
  intro b hb
  obtain ⟨i, hi, rfl⟩ := List.mem_map.mp hb
  have hi := List.mem_range.mp hi
  exact h i _ _ (go_get (by omega)) (go_get (by omega))

def sp_isord (K : PySem.W.Frag) : Sp := fun vs H Q _ => ∃ (a : Addr) (L : List (V × Option T3)), vs = [.ref a] ∧ SqL K H a (L.map (·.1)) ∧ Pts H L ∧ L.length ≤ 1000 ∧ RetV (.bl (ordF (L.map (·.2)))) H Q
theorem ok_is_ordered (T : TX K mg) : FnOk P w K mg base CX0 2 T.a_is_ordered T.d_is_ordered ["points"] (sp_isord K) := by
  refine T.F_is_ordered.ok sc_is_ordered (fun vs H Q E h => by obtain ⟨a, L, rfl, _⟩ := h; rfl) (fun cdv A outer s0 H vs Q E hr h => ?_)
  obtain ⟨a, L, rfl, hS, hP, hl, k⟩ := h
  refine ⟨_, (pss_one (ps_ret (pe_callB (r := rAll K) (cr_all rfl) (by rfl) T.m_all PyProof.Rows.boot_all (pa_cons (pe_lc (own := [("at", 1)]) (g := gName 1) (tt := tYes) rfl sc_is_ordered.nd (pi_range2 (by rfl) T.m_range (pa_cons pe_int (pa_cons (pe_callB (r := rLenS K) call_len_seq (by rfl) T.m_len PySem.boot_len (pa_cons (pv 0) pa_nil)) pa_nil))) (blkOk_by (N := ["points", "at"]) (sc := defScope s_is_ordered) (by decide +kernel)) (fun _ _ _ _ _ => pg_name (i := 1) sc_is_ordered.nd rfl (Or.inl rfl)) (fun _ _ _ _ _ => pts_nil) (fun _ _ _ _ _ => (pe_call (ok_may_follow T) (hr.mono (by decide)) (by rfl) T.g_may_follow T.F_may_follow.kp T.b_may_follow .nil pass0 (pa_cons (pe_ix (r := rIxL K) ix_list (pv 0) (pe_op op_sub (pv 1) pe_int) (fun _ _ => rfl)) (pa_cons (pe_ix (r := rIxL K) ix_list (pv 0) (pv 1) (fun _ _ => rfl)) pa_nil))))) pa_nil)))), ?_⟩
  obtain ⟨os, hos⟩ : ∃ os : List (Option T3), L.map (·.2) = os := ⟨_, rfl⟩
  rw [hos] at k
  have hol : os.length = L.length := by rw [← hos, List.length_map]
  have hbl : (ordB os).length = L.length - 1 := by unfold ordB; rw [List.length_map, List.length_range, hol]
  refine s_ret (v := .bl (ordF os)) (ev_all (bs := ordB os) (EvR.s (EvL.r (el_lcR2 (lo := 1) (n := (L.length : Int)) _ (ea_cons ev_c (ea_cons (Ev.is (ev_lenS (Ev.s (ev_var rfl) hS)) (by rw [List.length_map])) ea_nil)) (by omega) (by rw [List.length_map, hbl]; omega) (by rw [List.length_map, hbl]; omega) (fun _ => rfl) fun i H1 e1 hi => ?_))) rfl) k
  rw [List.length_map, hbl] at hi
  have hx : L[i]? = some L[i] := List.getElem?_eq_getElem (by omega)
  have hy : L[i + 1]? = some L[i + 1] := List.getElem?_eq_getElem (by omega)
  refine ⟨.bl (mayF (L[i]).2 (L[i + 1]).2), ?_, ev_may (ev_ptI (Ev.s (ev_var rfl) (ex_l e1 hS)) (ev_I0 (ev_var rfl) ev_c) (by omega) hx) (ev_ptI (Ev.s (ev_var rfl) (ex_l e1 hS)) (ev_var rfl) (by omega) hy) ((hP.at hx).ex e1) ((hP.at hy).ex e1)⟩
  have h1 := snd_at hx
  have h2 := snd_at hy
  rw [hos] at h1 h2
  rw [List.getElem?_map]
  unfold ordB
  rw [List.getElem?_map, List.getElem?_range (by omega)]
  show some (V.bl (mayF (os.getD i none) (os.getD (i + 1) none))) = _
  rw [List.getD_eq_getElem?_getD, List.getD_eq_getElem?_getD, h1, h2]
  rfl

/-! ### the law's points -/
theorem q_appW {s : Addr} {σ : L2.St} {H : Hp} {te ta : TE} {l : Addr} {xs : List V} {D : Ends} {tz : TS} {P : V → Hp → Prop} (h : ∀ H1, Ex H H1 → ∀ Q : VK, (∀ v H2, Fr s H H2 → P v H2 → Q v H2) → te σ H1 Q) (hls : l ≠ s) (hl : H l = some (.lst xs)) (ha : Ev ta σ H (.ref l)) (hz : xs.length < 100000) (k : ∀ v H1, P v H1 → Fr s H H1 → tz D σ (upd H1 l (.lst (xs ++ [v])))) : tSeq (tDrop (tBM K "list" rAppend ta (tCons te tNil))) tz D σ H :=
  ha H (Ex.refl _) _ fun H1 e1 => ⟨.inl ⟨rfl, xs, sq_of (e1 _ _ hl)⟩, h H1 e1 _ fun v H2 f2 hv => ⟨l, xs, v, rfl, rfl, f2.l hls hl, sz_lt hz, k v H2 hv f2⟩⟩
theorem ixN_last {n m : Nat} (hn : n = m + 1) : ixN n (-1) = some m := by
  unfold ixN
  rw [if_neg (by decide), if_pos (by omega), hn]
  congr 1
  omega
/-- xs[-1] = a new tuple -/
theorem s_setLastU {σ : L2.St} {H : Hp} {te ta tb : TE} {l : Addr} {xs ys : List V} {m : Nat} {D : Ends} (hl : H l = some (.lst xs)) (h : EvU te σ H ys) (ho : Ev ta σ H (.ref l)) (hi : Ev tb σ H (.int (-1))) (hm : xs.length = m + 1) (k : ∀ p H1, H p = none → Ex H H1 → H1 p = some (.tup ys) → D.nx σ (upd H1 l (.lst (xs.set m (.ref p))))) : tAsg te (gSub ta tb rSetL) D σ H :=
  h H (Ex.refl H) _ fun p H1 hp e1 g1 => ho H1 e1 _ fun H2 e2 => hi H2 (e1.trans e2) _ fun H3 e3 => ⟨l, xs, -1, m, rfl, rfl, ((e1.trans e2).trans e3) l _ hl, ixN_last hm, k p H3 hp ((e1.trans e2).trans e3) (e3 _ _ (e2 _ _ g1))⟩
theorem ordP_snoc {os : List (Option T3)} {o : Option T3} (h : ordP os) (ha : ∀ x ∈ os, mayF x o = true) : ordP (os ++ [o]) := fun i x y hx hy => by
  have hl := (List.getElem?_eq_some_iff.mp hy).1
  rw [List.length_append, List.length_singleton] at hl
  rw [List.getElem?_append_left (by omega)] at hx
  by_cases hi : i + 1 < os.length
  · rw [List.getElem?_append_left hi] at hy
    exact h i x y hx hy
  · rw [List.getElem?_append_right (by omega), show i + 1 - os.length = 0 by omega] at hy
    cases hy
    exact ha x (List.mem_of_getElem? hx)
theorem ordP_left {os ps : List (Option T3)} (h : ordP (os ++ ps)) : ordP os := fun i x y hx hy => by
  have h1 := (List.getElem?_eq_some_iff.mp hy).1
  exact h i x y (by rw [List.getElem?_append_left (by omega)]; exact hx) (by rw [List.getElem?_append_left h1]; exact hy)
def lowO (b : Nat) (o : Option T3) : Prop := ∃ t, o = some t ∧ t.1 < b ∧ t.2.1 < 18446744073709551616 ∧ t.2.2 < 65536
def sp_lpts (K : PySem.W.Frag) : Sp := fun vs H Q _ => ∃ (s a : Addr) (ns : List Int), vs = [.ref s, .ref a] ∧ DrS K H s a ns ∧ ∀ p (L : List (V × Option T3)) H', H p = none → Fr s H H' → H' p = some (.lst (L.map (·.1))) → Pts H' L → L.length ≤ 9 → (∀ o ∈ L.map (·.2), okO o) → ordP (L.map (·.2)) → Q (.ref p) H'
theorem ok_law_points (T : TX K mg) : FnOk P w K mg base CX0 4 T.a_law_points T.d_law_points ["state", "script"] (sp_lpts K) := by
  refine T.F_law_points.ok sc_law_points (fun vs H Q E h => by obtain ⟨s, a, ns, rfl, _⟩ := h; rfl) (fun cdv A outer s0 H vs Q E hr h => ?_)
  obtain ⟨s, a, ns, rfl, hd, k⟩ := h
  refine ⟨_, (pss_cons (ps_set (i := 2) sc_law_points.nd rfl (Or.inl rfl) (pe_lst pa_nil))
      (pss_cons (ps_set (i := 3) sc_law_points.nd rfl (Or.inl rfl) (pe_call (ok_law_wide T) (hr.mono (by decide)) (by rfl) T.g_law_wide T.F_law_wide.kp T.b_law_wide .nil pass0 (pa_cons (pv 0) (pa_cons (pv 1) (pa_cons (pe_op op_shl pe_int pe_int) pa_nil)))))
      (pss_cons (ps_for PassesOwn.never rfl (pi_range1 (by rfl) T.m_range (pa_cons (pe_call (ok_law_draw T) (hr.mono (by decide)) (by rfl) T.g_law_draw T.F_law_draw.kp T.b_law_draw .nil pass0 (pa_cons (pv 0) (pa_cons (pv 1) (pa_cons pe_int pa_nil)))) pa_nil)) (pg_name (i := 4) sc_law_points.nd rfl (Or.inl rfl)) (pss_cons (ps_expr (pe_bm PySem.F.plainAttrs_list PySem.F.slot_list_append PySem.F.type_list_append mt_append (pv 2) (pa_cons (pe_tup (pa_cons (pv 3) (pa_cons (pe_call (ok_law_wide T) (hr.mono (by decide)) (by rfl) T.g_law_wide T.F_law_wide.kp T.b_law_wide .nil pass0 (pa_cons (pv 0) (pa_cons (pv 1) (pa_cons (pe_op op_shl pe_int pe_int) pa_nil)))) (pa_cons (pe_call (ok_law_wide T) (hr.mono (by decide)) (by rfl) T.g_law_wide T.F_law_wide.kp T.b_law_wide .nil pass0 (pa_cons (pv 0) (pa_cons (pv 1) (pa_cons pe_int pa_nil)))) pa_nil)))) pa_nil)))
        (pss_one (ps_set (i := 3) sc_law_points.nd rfl (Or.inl rfl) (pe_op op_add (pe_op op_add (pv 3) pe_int) (pe_call (ok_law_wide T) (hr.mono (by decide)) (by rfl) T.g_law_wide T.F_law_wide.kp T.b_law_wide .nil pass0 (pa_cons (pv 0) (pa_cons (pv 1) (pa_cons (pe_op op_shl pe_int pe_int) pa_nil)))))))))
      (pss_cut (ps_if (PW.pt (pw_and (pt_truth (pv 2) (by intro _; rfl)) (pw_and1 (pt_cmpR op_eq (pe_call (ok_law_draw T) (hr.mono (by decide)) (by rfl) T.g_law_draw T.F_law_draw.kp T.b_law_draw .nil pass0 (pa_cons (pv 0) (pa_cons (pv 1) (pa_cons pe_int pa_nil)))) pe_int (nomark _))))) (pss_one (ps_asg (pe_tup (pa_cons (pe_op op_sub (pe_op op_shl pe_int pe_int) pe_int) (pa_cons (pe_ix (r := rIxT K) ix_tup (pe_ix (r := rIxL K) ix_list (pv 2) (pe_un un_neg pe_int) (fun _ _ => rfl)) pe_int (fun _ _ => rfl)) (pa_cons (pe_ix (r := rIxT K) ix_tup (pe_ix (r := rIxL K) ix_list (pv 2) (pe_un un_neg pe_int) (fun _ _ => rfl)) pe_int (fun _ _ => rfl)) pa_nil)))) (pg_sub (pv 2) (pe_un un_neg pe_int) set_list))) pss_nil)
      (pss_cons (ps_for PassesOwn.never rfl (pi_range1 (by rfl) T.m_range (pa_cons (pe_call (ok_law_draw T) (hr.mono (by decide)) (by rfl) T.g_law_draw T.F_law_draw.kp T.b_law_draw .nil pass0 (pa_cons (pv 0) (pa_cons (pv 1) (pa_cons pe_int pa_nil)))) pa_nil)) (pg_name (i := 4) sc_law_points.nd rfl (Or.inl rfl)) (pss_one (ps_expr (pe_bm PySem.F.plainAttrs_list PySem.F.slot_list_append PySem.F.type_list_append mt_append (pv 2) (pa_cons pe_non pa_nil)))))
      (pss_one (ps_ret (pv 2)))))))), ?_⟩
  refine q_asgL (xs := []) (el_lst ea_nil (by decide)) fun p H1 hp e1 g1 => ?_
  have hps : p ≠ s := ne_st hd.1 hp
  refine qw_asg (wi_draw (n := 1152921504606846976) (hd.ex e1) rfl rfl (ev_I ev_c ev_c ⟨by decide, by decide, by decide⟩) (by decide) (by decide)) fun z H2 f2 hz => ?_
  obtain ⟨d0, rfl, hd0⟩ := hz
  have f02 := (Fr.ex hd.1 e1).trans f2
  refine qw_forR1 (wi_draw (hd.fr f02) rfl rfl ev_c (by decide) (by decide)) (fun i hi => by obtain ⟨d, rfl, h⟩ := hi; omega) (fun n i σ' H' => ∃ (smp : Nat) (L : List (V × Option T3)) (z4 : Option V), σ' = [some (.ref s), some (.ref a), some (.ref p), some (.int (smp : Int)), z4] ∧ Fr s H H' ∧ H' p = some (.lst (L.map (·.1))) ∧ Pts H' L ∧ L.length = i ∧ smp < (i + 1) * 1152921504606846976 ∧ ordP (L.map (·.2)) ∧ ∀ o ∈ L.map (·.2), lowO smp o) ?_ ?_ ?_
  · rintro n H3 hn f3
    exact ⟨d0, [], none, rfl, f02.trans f3, (f2.trans f3).l hps g1, (fun x hx => by cases hx), rfl, by omega, (fun i x y hx => by simp at hx), fun o ho => by cases ho⟩
  · rintro n i σ' H3 hn hi ⟨smp, L, z4, rfl, f3, gp, hP, hl, hsm, hord, hlow⟩
    obtain ⟨nd, rfl, hnd⟩ := hn
    refine q_appW (s := s) (P := fun v H' => ∃ off cnt : Nat, off < 18446744073709551616 ∧ cnt < 65536 ∧ PtAt H' (v, some (smp, off, cnt))) (fun H4 e4 Q' q' => ?_) hps gp (ev_var rfl) (by rw [List.length_map]; omega) fun v H4 hv f4 => ?_
    · refine ⟨_, rfl, wi_draw (n := 18446744073709551616) (hd.fr (f3.tex e4)) rfl rfl (ev_I ev_c ev_c ⟨by decide, by decide, by decide⟩) (by decide) (by decide) _ fun z1 H5 f5 hz1 => wi_draw (hd.fr ((f3.tex e4).trans f5)) rfl rfl ev_c (by decide) (by decide) _ fun z2 H6 f6 hz2 => ?_⟩
      obtain ⟨off, rfl, ho⟩ := hz1
      obtain ⟨cnt, rfl, hc⟩ := hz2
      exact ⟨sz_of (show 3 ≤ 100000 by decide), fun t ht => q' _ _ (((Fr.ex f3.2 e4).trans (f5.trans f6)).tex (Ex.new ht)) ⟨off, cnt, by omega, by omega, t, rfl, upd_same⟩⟩
    obtain ⟨off, cnt, ho, hc, hv⟩ := hv
    have gp4 := f4.l hps gp
    have hP4 := ((hP.fr f3.2 f4).snoc hv).updL (ys := L.map (·.1) ++ [v]) gp4
    have f4' : Fr s H (upd H4 p (.lst (L.map (·.1) ++ [v]))) := (f3.trans f4).mut hp hps
    have g4 : (upd H4 p (.lst (L.map (·.1) ++ [v]))) p = some (.lst ((L ++ [(v, some (smp, off, cnt))]).map (·.1))) := by rw [upd_same, List.map_append]; rfl
    generalize upd H4 p (.lst (L.map (·.1) ++ [v])) = H5 at *
    refine sw_asg (wi_op (wi_ev f4'.2 (ev_I0 (ev_var rfl) ev_c)) fun H6 f6 => wi_draw (n := 1152921504606846976) (hd.fr (f4'.trans f6)) rfl rfl (ev_I ev_c ev_c ⟨by decide, by decide, by decide⟩) (by decide) (by decide)) fun z H6 f6 hz => ?_
    obtain ⟨_, _, rfl, ⟨d, rfl, hdn⟩, rfl⟩ := hz
    have hlow2 : ∀ b, smp < b → ∀ o ∈ (L ++ [(v, some (smp, off, cnt))]).map (·.2), lowO b o := fun b hb o ho' => by
      rw [List.map_append] at ho'
      rcases List.mem_append.mp ho' with h | h
      · obtain ⟨t, h1, h2, h3⟩ := hlow o h
        exact ⟨t, h1, by omega, h3⟩
      · rw [List.mem_singleton.mp h]
        exact ⟨_, rfl, hb, ho, hc⟩
    refine ⟨smp + 1 + d, L ++ [(v, some (smp, off, cnt))], some (.int (i : Int)), ?_, f4'.trans f6, f6.l hps g4, hP4.fr f4'.2 f6, by rw [List.length_append, hl]; rfl, by omega, ?_, hlow2 _ (by omega)⟩
    · show [_, _, _, some (V.int ((smp : Int) + 1 + (d : Int))), _] = _
      rw [show (smp : Int) + 1 + (d : Int) = ((smp + 1 + d : Nat) : Int) by omega]
    · rw [List.map_append]
      refine ordP_snoc hord fun x hx => ?_
      obtain ⟨t, rfl, h2, _⟩ := hlow x hx
      exact decide_eq_true h2
  rintro n σ' H3 hn ⟨smp, L, z4, rfl, f3, gp, hP, hl, hsm, hord, hlow⟩
  obtain ⟨nd, rfl, hnd⟩ := hn
  have hl7 : L.length ≤ 7 := by omega
  have hlow8 : ∀ o ∈ L.map (·.2), lowO 10376293541461622784 o := fun o ho => by
    obtain ⟨t, h1, h2, h3⟩ := hlow o ho
    exact ⟨t, h1, by omega, h3⟩
  refine q_cut (M := fun σ' H' => ∃ (L : List (V × Option T3)), σ' = [some (.ref s), some (.ref a), some (.ref p), some (.int (smp : Int)), z4] ∧ Fr s H H' ∧ H' p = some (.lst (L.map (·.1))) ∧ Pts H' L ∧ L.length ≤ 7 ∧ ordP (L.map (·.2)) ∧ ∀ o ∈ L.map (·.2), okO o) ?_ ?_
  · refine sw_when (wt_and (wt_ev f3.2 (et_tru (ev_var rfl) (sq_of gp))) fun H4 f4 _ => wt_eq (wi_draw (hd.fr (f3.trans f4)) rfl rfl ev_c (by decide) (by decide)) fun H5 f5 => wi_ev ((f3.trans f4).trans f5).2 ev_c) (fun hb H4 f4 => ?_) (fun _ H4 f4 => ?_)
    · have hne : L ≠ [] := by
        rintro rfl
        rcases hb with ⟨_, h⟩ | ⟨h, _⟩
        · cases h
        · cases h
      obtain ⟨I, x, rfl⟩ : ∃ I x, L = I ++ [x] := ⟨L.dropLast, L.getLast hne, (List.dropLast_concat_getLast hne).symm⟩
      rw [List.map_append] at hord
      obtain ⟨t, ht, h2, h3, h4⟩ := hlow8 x.2 (by rw [List.map_append]; exact List.mem_append.mpr (.inr (List.mem_singleton.mpr rfl)))
      obtain ⟨v, o⟩ := x
      obtain rfl : o = some t := ht
      have hI : ((I ++ [(v, some t)]).map (·.1)).length = I.length + 1 := by rw [List.length_map, List.length_append]; rfl
      have hIx : ((I ++ [(v, some t)]).map (·.1))[I.length]? = some v := by rw [List.map_append, List.getElem?_append_right (by rw [List.length_map]; omega), List.length_map, Nat.sub_self]; rfl
      have gp4 := f4.l hps gp
      have hP4 := hP.fr f3.2 f4
      obtain ⟨q, rfl, hq⟩ := hP4.at (i := I.length) (x := (v, some t)) (by rw [List.getElem?_append_right (by omega), Nat.sub_self]; rfl)
      refine s_setLastU (m := I.length) (ys := triV (18446744073709551614, t.2.1, t.2.2)) gp4 (eu_tup (ea_cons (Ev.is (ev_I0 (ev_I ev_c ev_c ⟨by decide, by decide, by decide⟩) ev_c) (show V.int (1 * 2 ^ (64 : Int).toNat - 2) = V.int ((18446744073709551614 : Nat) : Int) by decide)) (ea_cons (ev_atT (n := 1) (v := .int (t.2.1 : Int)) (ev_ixS (i := 0) (n := -1) (Ev.s (ev_var rfl) (sq_of gp4)) (ev_negI ev_c) (at_last hI hIx)) (st_of hq) ev_c (at_of (j := 1) rfl rfl)) (ea_cons (ev_atT (n := 2) (v := .int (t.2.2 : Int)) (ev_ixS (i := 0) (n := -1) (Ev.s (ev_var rfl) (sq_of gp4)) (ev_negI ev_c) (at_last hI hIx)) (st_of hq) ev_c (at_of (j := 2) rfl rfl)) ea_nil))) (Nat.le_of_ble_eq_true rfl)) (ev_var rfl) (ev_negI ev_c) hI fun r H5 hr e5 g5 => ?_
      refine ⟨I ++ [(.ref r, some (18446744073709551614, t.2.1, t.2.2))], rfl, ((f3.trans f4).tex e5).mut hp hps, ?_, ?_, by rw [List.length_append] at hl7 ⊢; exact hl7, ?_, ?_⟩
      · rw [upd_same, List.map_append, List.map_append, List.set_append_right _ _ (by rw [List.length_map]; exact Nat.le_refl _), List.length_map, Nat.sub_self]
        rfl
      · exact Pts.updL (Pts.snoc (L := I) (x := (.ref r, some (18446744073709551614, t.2.1, t.2.2))) (fun y hy => (hP4.ex e5) y (List.mem_append.mpr (.inl hy))) ⟨r, rfl, g5⟩) (e5 _ _ gp4)
      · rw [List.map_append]
        refine ordP_snoc (ordP_left hord) fun x hx => ?_
        obtain ⟨u, rfl, h5, _⟩ := hlow8 x (by rw [List.map_append]; exact List.mem_append.mpr (.inl hx))
        exact decide_eq_true (by show u.1 < 18446744073709551614; omega)
      · intro o ho
        rw [List.map_append] at ho
        rcases List.mem_append.mp ho with h | h
        · obtain ⟨u, rfl, h5, h6⟩ := hlow8 o (by rw [List.map_append]; exact List.mem_append.mpr (.inl h))
          exact ⟨by omega, h6⟩
        · rw [List.mem_singleton.mp h]
          exact ⟨show (18446744073709551614 : Nat) < 18446744073709551615 by decide, h3, h4⟩
    · refine ⟨L, rfl, f3.trans f4, f4.l hps gp, hP.fr f3.2 f4, hl7, hord, fun o ho => ?_⟩
      obtain ⟨u, rfl, h5, h6⟩ := hlow8 o ho
      exact ⟨by omega, h6⟩
  clear hl7 hlow8 hord hlow hP gp hl hsm
  rintro σ' H4 ⟨L, rfl, f4, gp, hP, hl, hord, hok⟩
  refine qw_forR1 (wi_draw (hd.fr f4) rfl rfl ev_c (by decide) (by decide)) (fun i hi => by obtain ⟨d, rfl, h⟩ := hi; omega) (fun n i σ' H' => ∃ (L : List (V × Option T3)) (z4 : Option V), σ' = [some (.ref s), some (.ref a), some (.ref p), some (.int (smp : Int)), z4] ∧ Fr s H H' ∧ H' p = some (.lst (L.map (·.1))) ∧ Pts H' L ∧ L.length ≤ 7 + i ∧ ordP (L.map (·.2)) ∧ ∀ o ∈ L.map (·.2), okO o) ?_ ?_ ?_
  · rintro n H5 hn f5
    exact ⟨L, _, rfl, f4.trans f5, f5.l hps gp, hP.fr f4.2 f5, by omega, hord, hok⟩
  · rintro n i σ' H5 hn hi ⟨L, z4, rfl, f5, gp, hP, hl, hord, hok⟩
    obtain ⟨nd, rfl, hnd⟩ := hn
    refine s_app (v := .non) gp (ev_var rfl) ev_c (by rw [List.length_map]; omega) fun H6 e6 => ⟨L ++ [(.non, none)], _, rfl, (f5.tex e6).mut hp hps, by rw [upd_same, List.map_append]; rfl, ((hP.ex e6).snoc (x := (.non, none)) rfl).updL (e6 _ _ gp), by rw [List.length_append]; show L.length + 1 ≤ _; omega, ?_, fun o ho => ?_⟩
    · rw [List.map_append]
      exact ordP_snoc hord fun x hx => rfl
    · rw [List.map_append] at ho
      rcases List.mem_append.mp ho with h | h
      · exact hok o h
      · rw [List.mem_singleton.mp h]
        trivial
  · rintro n σ' H5 hn ⟨L, z4, rfl, f5, gp, hP, hl, hord, hok⟩
    obtain ⟨nd, rfl, hnd⟩ := hn
    exact s_ret (v := .ref p) (ev_var rfl) fun H6 e6 => k p L H6 hp (f5.tex e6) (e6 _ _ gp) (hP.ex e6) (by omega) hok hord

def sp_lbody (K : PySem.W.Frag) : Sp := fun vs H Q _ => ∃ (a : Addr) (L : List (V × Option T3)), vs = [.ref a] ∧ SqL K H a (L.map (·.1)) ∧ Pts H L ∧ L.length ≤ 1000 ∧ RetL ((cs (ptsB (L.map (·.2)))).map V.int) H Q
theorem ok_law_body (T : TX K mg) : FnOk P w K mg base CX0 2 T.a_law_body T.d_law_body ["points"] (sp_lbody K) := by
  refine T.F_law_body.ok sc_law_body (fun vs H Q E h => by obtain ⟨a, L, rfl, _⟩ := h; rfl) (fun cdv A outer s0 H vs Q E hr h => ?_)
  obtain ⟨a, L, rfl, hS, hP, hl, k⟩ := h
  refine ⟨_, (pss_cons (ps_set (i := 1) sc_law_body.nd rfl (Or.inl rfl) (pe_lst pa_nil))
      (pss_cons (ps_for PassesOwn.never rfl (pi_list (pv 0)) (pg_name (i := 2) sc_law_body.nd rfl (Or.inl rfl)) (pss_cons (ps_set (i := 3) sc_law_body.nd rfl (Or.inl rfl) (pv 2))
        (pss_cut (ps_if (pt_cmpR op_isN1 (pv 2) pe_non (nomark _)) (pss_one (ps_set (i := 3) sc_law_body.nd rfl (Or.inl rfl) (pe_tup (pa_cons (pe_op op_sub (pe_op op_shl pe_int pe_int) pe_int) (pa_cons pe_int (pa_cons pe_int pa_nil)))))) pss_nil)
        (pss_one (ps_set (i := 1) sc_law_body.nd rfl (Or.inl rfl) (pe_op op_cat (pe_op op_cat (pe_op op_cat (pv 1) (pe_call (ok_law_number_bytes T) (hr.mono (by decide)) (by rfl) T.g_law_number_bytes T.F_law_number_bytes.kp T.b_law_number_bytes .nil pass0 (pa_cons (pe_ix (r := rIxT K) ix_tup (pv 3) pe_int (fun _ _ => rfl)) (pa_cons pe_int pa_nil)))) (pe_call (ok_law_number_bytes T) (hr.mono (by decide)) (by rfl) T.g_law_number_bytes T.F_law_number_bytes.kp T.b_law_number_bytes .nil pass0 (pa_cons (pe_ix (r := rIxT K) ix_tup (pv 3) pe_int (fun _ _ => rfl)) (pa_cons pe_int pa_nil)))) (pe_call (ok_law_number_bytes T) (hr.mono (by decide)) (by rfl) T.g_law_number_bytes T.F_law_number_bytes.kp T.b_law_number_bytes .nil pass0 (pa_cons (pe_ix (r := rIxT K) ix_tup (pv 3) pe_int (fun _ _ => rfl)) (pa_cons pe_int pa_nil)))))))))
      (pss_one (ps_ret (pv 1))))), ?_⟩
  refine q_asgL (xs := []) (el_lst ea_nil (by decide)) fun q0 H1 hq0 e1 g1 => ?_
  refine q_forLn (K := K) (a := a) (ev_var rfl) (ex_l e1 hS) (fun i σ' H' => ∃ (q : Addr) (z2 z3 : Option V), σ' = [some (.ref a), some (.ref q), z2, z3] ∧ H q = none ∧ Ex H H' ∧ H' q = some (.lst ((cs (ptsB ((L.map (·.2)).take i))).map V.int))) (fun H2 e2 => ⟨q0, none, none, rfl, hq0, e1.trans e2, e2 _ _ g1⟩) (fun i σ' H' _ h => by obtain ⟨_, _, _, _, _, ex, _⟩ := h; exact ex_l ex hS) ?_ ?_
  · rintro i x σ' H2 hx ⟨q, z2, z3, rfl, hq, ex, gq⟩
    obtain ⟨y, hy, rfl⟩ := pt_at hx
    have hlt := (List.getElem?_eq_some_iff.mp hy).1
    refine q_asg (v := y.1) (ev_var rfl) fun H3 e3 => ?_
    refine q_cut (M := fun σ' H' => ∃ r : Addr, σ' = [some (.ref a), some (.ref q), some y.1, some (.ref r)] ∧ Ex H2 H' ∧ H' r = some (.tup (triV (rowT y.2)))) ?_ ?_
    · have hy3 := ((hP.at hy).ex ex).ex e3
      obtain ⟨v, o⟩ := y
      cases o with
      | none =>
        obtain rfl : v = .non := hy3
        refine s_when (b := true) (et_is (et_test (ev_isN (ev_var rfl))) (decide_eq_true rfl)) (fun _ H4 e4 => ?_) (fun h => by cases h)
        exact s_asgU (eu_tup (ea_cons (Ev.is (ev_I0 (ev_I ev_c ev_c ⟨by decide, by decide, by decide⟩) ev_c) (show V.int (1 * 2 ^ (64 : Int).toNat - 1) = V.int ((18446744073709551615 : Nat) : Int) by decide)) (ea_cons ev_c (ea_cons ev_c ea_nil))) (Nat.le_of_ble_eq_true rfl)) fun r H5 hr e5 g5 => ⟨r, rfl, e3.trans (e4.trans e5), g5⟩
      | some t =>
        obtain ⟨pt, rfl, hpt⟩ := hy3
        refine s_when (b := false) (et_is (et_test (ev_isN (ev_var rfl))) (decide_eq_false (fun h => by cases h))) (fun h => by cases h) fun _ H4 e4 => ⟨pt, rfl, e3.trans e4, e4 _ _ hpt⟩
    · rintro σ' H4 ⟨r, rfl, e4, gr⟩
      obtain ⟨t, ht⟩ : ∃ t, rowT y.2 = t := ⟨_, rfl⟩
      have hB : pB y.2 = bigB t.1 8 ++ bigB t.2.1 8 ++ bigB t.2.2 2 := by unfold pB; rw [ht]
      rw [ht] at gr
      have hlen : (ptsB ((L.map (·.2)).take i)).length ≤ 18000 := by rw [ptsB_len, List.length_take, List.length_map]; omega
      refine s_asgL (xs := (cs (ptsB ((L.map (·.2)).take (i + 1)))).map V.int) (EvL.is (el_cat (EvL.r (el_cat (EvL.r (el_cat (Ev.r (ev_var rfl) (e4 _ _ gq)) (EvL.r (el_numb (x := t.1) (n := 8) (ev_atT (n := 0) (v := .int (t.1 : Int)) (ev_var rfl) (st_of gr) ev_c (at_of (j := 0) rfl rfl)) ev_c (by decide))) (by rw [List.length_map, cs_len, List.length_map, cs_len, bigB_len]; omega))) (EvL.r (el_numb (x := t.2.1) (n := 8) (ev_atT (n := 1) (v := .int (t.2.1 : Int)) (ev_var rfl) (st_of gr) ev_c (at_of (j := 1) rfl rfl)) ev_c (by decide))) (by rw [List.length_append, List.length_map, cs_len, List.length_map, cs_len, List.length_map, cs_len, bigB_len, bigB_len]; omega))) (EvL.r (el_numb (x := t.2.2) (n := 2) (ev_atT (n := 2) (v := .int (t.2.2 : Int)) (ev_var rfl) (st_of gr) ev_c (at_of (j := 2) rfl rfl)) ev_c (by decide))) (by rw [List.length_append, List.length_append, List.length_map, cs_len, List.length_map, cs_len, List.length_map, cs_len, List.length_map, cs_len, bigB_len, bigB_len, bigB_len]; omega)) ?_) fun q' H5 hq' e5 g5 => ⟨q', _, _, rfl, fresh_back (ex.trans e4) hq', ex.trans (e4.trans e5), g5⟩
      rw [ptsB_snoc (snd_at hy), hB, cs_append, cs_append, cs_append, List.map_append, List.map_append, List.map_append, List.append_assoc, List.append_assoc, List.append_assoc]
  · rintro σ' H2 ⟨q, z2, z3, rfl, hq, ex, gq⟩
    rw [List.length_map, List.take_of_length_le (by rw [List.length_map]; exact Nat.le_refl _)] at gq
    exact s_ret (v := .ref q) (ev_var rfl) fun H3 e3 => k q H3 hq (ex.trans e3) (e3 _ _ gq)
theorem el_lbody {σ : L2.St} {H : Hp} {te : TE} {E : XK} {L : List (V × Option T3)} (h : EvS K te σ H (L.map (·.1))) (hP : Pts H L) (hl : L.length ≤ 1000) : EvL (tCall (sp_lbody K) [] E (tCons te tNil)) σ H ((cs (ptsB (L.map (·.2)))).map V.int) := fun H1 e Q q =>
  h H1 e _ fun p H2 e2 hp => ⟨p, L, rfl, hp, hP.ex (e.trans e2), hl, fun r H3 hr e3 g3 => q r H3 (fresh_back e2 hr) (e2.trans e3) g3⟩
/-! ### do they ascend -/
theorem ordF_no {os : List (Option T3)} {i : Nat} {x y : Option T3} (hx : os[i]? = some x) (hy : os[i + 1]? = some y) (h : mayF x y = false) : ordF os = false := by
  have hl := (List.getElem?_eq_some_iff.mp hy).1
  cases e : ordF os with
  | false => rfl
  | true =>
    unfold ordF ordB at e
    rw [List.all_eq_true] at e
    have := e _ (List.mem_map.mpr ⟨i, List.mem_range.mpr (by omega), rfl⟩)
    rw [List.getD_eq_getElem?_getD, List.getD_eq_getElem?_getD, hx, hy] at this
    rw [show mayF ((some x).getD none) ((some y).getD none) = mayF x y from rfl, h] at this
    cases this
def sp_lasc (K : PySem.W.Frag) : Sp := fun vs H Q _ => ∃ (a : Addr) (L : List (V × Option T3)), vs = [.ref a] ∧ SqL K H a (L.map (·.1)) ∧ Pts H L ∧ L.length ≤ 1000 ∧ RetV (.bl (ordF (L.map (·.2)))) H Q
theorem ok_law_ascend (T : TX K mg) : FnOk P w K mg base CX0 1 T.a_law_ascend T.d_law_ascend ["points"] (sp_lasc K) := by
  refine T.F_law_ascend.ok sc_law_ascend (fun vs H Q E h => by obtain ⟨a, L, rfl, _⟩ := h; rfl) (fun cdv A outer s0 H vs Q E hr h => ?_)
  obtain ⟨a, L, rfl, hS, hP, hl, k⟩ := h
  refine ⟨_, (pss_cons (ps_for PassesOwn.never rfl (pi_range2 (by rfl) T.m_range (pa_cons pe_int (pa_cons (pe_callB (r := rLenS K) call_len_seq (by rfl) T.m_len PySem.boot_len (pa_cons (pv 0) pa_nil)) pa_nil))) (pg_name (i := 1) sc_law_ascend.nd rfl (Or.inl rfl)) (pss_one (ps_if (pt_cmpR op_notN1 (pe_ix (r := rIxL K) ix_list (pv 0) (pv 1) (fun _ _ => rfl)) pe_non (nomark _)) (pss_one (ps_if (PW.pt (pw_or (pt_cmpR op_isN1 (pe_ix (r := rIxL K) ix_list (pv 0) (pe_op op_sub (pv 1) pe_int) (fun _ _ => rfl)) pe_non (nomark _)) (pw_or1 (pt_cmpR op_le (pe_ix (r := rIxT K) ix_tup (pe_ix (r := rIxL K) ix_list (pv 0) (pv 1) (fun _ _ => rfl)) pe_int (fun _ _ => rfl)) (pe_ix (r := rIxT K) ix_tup (pe_ix (r := rIxL K) ix_list (pv 0) (pe_op op_sub (pv 1) pe_int) (fun _ _ => rfl)) pe_int (fun _ _ => rfl)) (nomark _))))) (pss_one (ps_ret pe_bl)) pss_nil)) pss_nil)))
      (pss_one (ps_ret pe_bl))), ?_⟩
  refine q_forR2 (lo := 1) (n := (L.length : Int)) (ea_cons ev_c (ea_cons (Ev.is (ev_lenS (Ev.s (ev_var rfl) hS)) (by rw [List.length_map])) ea_nil)) (by omega) (fun i σ' H' => ∃ z, σ' = [some (.ref a), z] ∧ Ex H H' ∧ ∀ (j : Nat) (x y : Option T3), j < i → (L.map (·.2))[j]? = some x → (L.map (·.2))[j + 1]? = some y → mayF x y = true) (fun H1 e1 => ⟨none, rfl, e1, fun j x y hj => absurd hj (by omega)⟩) ?_ ?_
  · rintro i σ' H1 hi ⟨z, rfl, ex, hm⟩
    have hx : L[i]? = some L[i] := List.getElem?_eq_getElem (by omega)
    have hy : L[i + 1]? = some L[i + 1] := List.getElem?_eq_getElem (by omega)
    generalize L[i] = x at hx
    generalize L[i + 1] = y at hy
    have step : ∀ H2, Ex H H2 → mayF x.2 y.2 = true → ∃ z, ([some (.ref a), some (.int (1 + (i : Int)))] : L2.St) = [some (.ref a), z] ∧ Ex H H2 ∧ ∀ (j : Nat) (x y : Option T3), j < i + 1 → (L.map (·.2))[j]? = some x → (L.map (·.2))[j + 1]? = some y → mayF x y = true := fun H2 e2 hm2 => ⟨_, rfl, e2, fun j u v hj hu hv => by
      by_cases hji : j < i
      · exact hm j u v hji hu hv
      · obtain rfl : j = i := by omega
        rw [snd_at hx] at hu
        rw [snd_at hy] at hv
        cases hu
        cases hv
        exact hm2⟩
    have gx : ∀ {σ : L2.St} {H2 : Hp}, σ[0]? = some (some (.ref a)) → σ[1]? = some (some (.int (1 + (i : Int)))) → Ex H H2 → Ev (tOp (rIxL K) (tVar 0) (tOp (rI0 fun i j => .int (i - j)) (tVar 1) (tC (.int 1)))) σ H2 x.1 := fun h0 h1 e2 => ev_ptI (Ev.s (ev_var h0) (ex_l e2 hS)) (ev_I0 (ev_var h1) ev_c) (by omega) hx
    have gy : ∀ {σ : L2.St} {H2 : Hp}, σ[0]? = some (some (.ref a)) → σ[1]? = some (some (.int (1 + (i : Int)))) → Ex H H2 → Ev (tOp (rIxL K) (tVar 0) (tVar 1)) σ H2 y.1 := fun h0 h1 e2 => ev_ptI (Ev.s (ev_var h0) (ex_l e2 hS)) (ev_var h1) (by omega) hy
    have hPx := hP.at hx
    have hPy := hP.at hy
    have hsx := snd_at hx
    have hsy := snd_at hy
    obtain ⟨v, o⟩ := x
    obtain ⟨u, r⟩ := y
    cases r with
    | none =>
      obtain rfl : u = .non := hPy
      exact s_when (b := false) (et_is (et_test (ev_notN (gy rfl rfl ex))) rfl) (fun h => by cases h) fun _ H2 e2 => step H2 (ex.trans e2) rfl
    | some q =>
      obtain ⟨pq, rfl, hq⟩ := hPy
      refine s_when (b := true) (et_is (et_test (ev_notN (gy rfl rfl ex))) rfl) (fun _ H2 e2 => ?_) (fun h => by cases h)
      cases o with
      | none =>
        obtain rfl : v = .non := hPx
        refine s_when (b := true) (et_is (et_or (a := true) (b := false) (et_is (et_test (ev_isN (gx rfl rfl (ex.trans e2)))) (decide_eq_true rfl)) fun h => by cases h) rfl) (fun _ H3 e3 => ?_) (fun h => by cases h)
        rw [ordF_no hsx hsy rfl] at k
        exact s_ret ev_c fun H4 e4 => k.go (ex.trans (e2.trans (e3.trans e4)))
      | some t =>
        obtain ⟨pt, rfl, ht⟩ := hPx
        refine s_when (b := decide (q.1 ≤ t.1)) (et_is (et_or (a := false) (b := decide (q.1 ≤ t.1)) (et_is (et_test (ev_isN (gx rfl rfl (ex.trans e2)))) (decide_eq_false fun h => by cases h)) fun _ => et_is (et_test (ev_I0 (ev_atT (n := 0) (v := .int (q.1 : Int)) (gy rfl rfl (ex.trans e2)) (st_of ((ex.trans e2) _ _ hq)) ev_c (at_of (j := 0) rfl rfl)) (ev_atT (n := 0) (v := .int (t.1 : Int)) (gx rfl rfl (ex.trans e2)) (st_of ((ex.trans e2) _ _ ht)) ev_c (at_of (j := 0) rfl rfl)))) (decide_eq_decide.mpr (by omega))) (by rw [Bool.false_or])) (fun h H3 e3 => ?_) (fun h H3 e3 => ?_)
        · have h := of_decide_eq_true h
          rw [ordF_no hsx hsy (decide_eq_false (by show ¬ t.1 < q.1; omega))] at k
          exact s_ret ev_c fun H4 e4 => k.go (ex.trans (e2.trans (e3.trans e4)))
        · have h := of_decide_eq_false h
          exact step H3 (ex.trans (e2.trans e3)) (decide_eq_true (by show t.1 < q.1; omega))
  · rintro σ' H1 ⟨z, rfl, ex, hm⟩
    rw [ordF_of (fun j x y hx hy => hm j x y (by have := (List.getElem?_eq_some_iff.mp hy).1; rw [List.length_map] at this; omega) hx hy)] at k
    exact s_ret ev_c fun H2 e2 => k.go (ex.trans e2)
theorem ev_lasc {σ : L2.St} {H : Hp} {te : TE} {E : XK} {L : List (V × Option T3)} (h : EvS K te σ H (L.map (·.1))) (hP : Pts H L) (hl : L.length ≤ 1000) : Ev (tCall (sp_lasc K) [] E (tCons te tNil)) σ H (.bl (ordF (L.map (·.2)))) := fun H1 e Q q =>
  h H1 e _ fun p H2 e2 hp => ⟨p, L, rfl, hp, hP.ex (e.trans e2), hl, fun H3 e3 => q H3 (e2.trans e3)⟩
theorem ev_isord {σ : L2.St} {H : Hp} {te : TE} {E : XK} {L : List (V × Option T3)} (h : EvS K te σ H (L.map (·.1))) (hP : Pts H L) (hl : L.length ≤ 1000) : Ev (tCall (sp_isord K) [] E (tCons te tNil)) σ H (.bl (ordF (L.map (·.2)))) := fun H1 e Q q =>
  h H1 e _ fun p H2 e2 hp => ⟨p, L, rfl, hp, hP.ex (e.trans e2), hl, fun H3 e3 => q H3 (e2.trans e3)⟩
/-! ### the same points -/
def EvPts (te : TE) (σ : L2.St) (H : Hp) (os : List (Option T3)) : Prop := ∀ H1, Ex H H1 → ∀ Q : VK, (∀ p (L : List (V × Option T3)) H2, Ex H1 H2 → H2 p = some (.lst (L.map (·.1))) → Pts H2 L → L.map (·.2) = os → Q (.ref p) H2) → te σ H1 Q
def sp_same (K : PySem.W.Frag) : Sp := fun vs H Q _ => ∃ (a b : Addr) (L M : List (V × Option T3)), vs = [.ref a, .ref b] ∧ H a = some (.lst (L.map (·.1))) ∧ SqL K H b (M.map (·.1)) ∧ Pts H L ∧ Pts H M ∧ L.map (·.2) = M.map (·.2) ∧ M.length ≤ 1000 ∧ RetV (.bl true) H Q
theorem ok_law_same (T : TX K mg) : FnOk P w K mg base CX0 2 T.a_law_same T.d_law_same ["actual", "points"] (sp_same K) := by
  refine T.F_law_same.ok sc_law_same (fun vs H Q E h => by obtain ⟨a, b, L, M, rfl, _⟩ := h; rfl) (fun cdv A outer s0 H vs Q E hr h => ?_)
  obtain ⟨a, b, L, M, rfl, hA, hB, hP, hM, he, hl, k⟩ := h
  refine ⟨_, (pss_cons (ps_if (PW.pt (pw_or (pt_not (pt_val (pe_callB (r := rIsi K) call_isi (by rfl) T.m_isinstance PyProof.Rows.boot_isinstance (pa_cons (pv 0) (pa_cons (pe_bltn (v := V.ty "list") (by rfl) T.m_list PyProof.Rows.boot_list rfl) pa_nil))))) (pw_or1 (pt_cmpR op_ne (pe_callB (r := rLenS K) call_len_seq (by rfl) T.m_len PySem.boot_len (pa_cons (pv 0) pa_nil)) (pe_callB (r := rLenS K) call_len_seq (by rfl) T.m_len PySem.boot_len (pa_cons (pv 1) pa_nil)) (nomark _))))) (pss_one (ps_ret pe_bl)) pss_nil)
      (pss_cons (ps_for PassesOwn.never rfl (pi_range1 (by rfl) T.m_range (pa_cons (pe_callB (r := rLenS K) call_len_seq (by rfl) T.m_len PySem.boot_len (pa_cons (pv 1) pa_nil)) pa_nil)) (pg_name (i := 2) sc_law_same.nd rfl (Or.inl rfl)) (pss_one (ps_if (pt_cmpR op_isN1 (pe_ix (r := rIxL K) ix_list (pv 1) (pv 2) (fun _ _ => rfl)) pe_non (nomark _)) (pss_one (ps_if (pt_cmpR op_notN1 (pe_ix (r := rIxL K) ix_list (pv 0) (pv 2) (fun _ _ => rfl)) pe_non (nomark _)) (pss_one (ps_ret pe_bl)) pss_nil)) (pss_cons (ps_if (PW.pt (pw_or (pt_not (pt_val (pe_callB (r := rIsi K) call_isi (by rfl) T.m_isinstance PyProof.Rows.boot_isinstance (pa_cons (pe_ix (r := rIxL K) ix_list (pv 0) (pv 2) (fun _ _ => rfl)) (pa_cons (pe_bltn (v := V.ty "tuple") (by rfl) T.m_tuple PyProof.Rows.boot_tuple rfl) pa_nil))))) (pw_or1 (pt_not (pt_val (pe_callB (r := rAll K) (cr_all rfl) (by rfl) T.m_all PyProof.Rows.boot_all (pa_cons (pe_lc (own := [("one", 3)]) (g := gName 3) (tt := tYes) rfl sc_law_same.nd (pi_tup (pe_ix (r := rIxL K) ix_list (pv 0) (pv 2) (fun _ _ => rfl))) (blkOk_by (N := ["actual", "points", "k", "one"]) (sc := defScope s_law_same) (by decide +kernel)) (fun _ _ _ _ _ => pg_name (i := 3) sc_law_same.nd rfl (Or.inl rfl)) (fun _ _ _ _ _ => pts_nil) (fun _ _ _ _ _ => (pe_call (ok_law_is_integer T) (hr.mono (by decide)) (by rfl) T.g_law_is_integer T.F_law_is_integer.kp T.b_law_is_integer .nil pass0 (pa_cons (pv 3) pa_nil)))) pa_nil))))))) (pss_one (ps_ret pe_bl)) pss_nil)
          (pss_one (ps_if (pt_cmpR (op_neD (hu64 hr)) (pe_ix (r := rIxL K) ix_list (pv 0) (pv 2) (fun _ _ => rfl)) (pe_ix (r := rIxL K) ix_list (pv 1) (pv 2) (fun _ _ => rfl)) (nomark _)) (pss_one (ps_ret pe_bl)) pss_nil))))))
      (pss_one (ps_ret pe_bl)))), ?_⟩
  have hLM : L.length = M.length := by have := congrArg List.length he; rwa [List.length_map, List.length_map] at this
  refine q_when (b := false) (et_is (et_or (a := false) (b := false) (et_is (et_not (et_B (ev_isiL (ev_var rfl) hA))) rfl) fun _ => et_is (et_test (ev_ne (ev_lenS (Ev.s (ev_var rfl) (sq_of hA))) (ev_lenS (Ev.s (ev_var rfl) hB)) rfl)) (by rw [List.length_map, List.length_map, hLM, decide_eq_true rfl]; rfl)) rfl) (fun h => by cases h) fun _ H1 e1 => ?_
  refine q_forR1 (n := (M.length : Int)) (ea_cons (Ev.is (ev_lenS (Ev.s (ev_var rfl) (ex_l e1 hB))) (by rw [List.length_map])) ea_nil) (by omega) (fun i σ' H' => ∃ z, σ' = [some (.ref a), some (.ref b), z, none] ∧ Ex H H') (fun H2 e2 => ⟨none, rfl, e1.trans e2⟩) ?_ ?_
  · rintro i σ' H2 hi ⟨z, rfl, ex⟩
    have hx : L[i]? = some L[i] := List.getElem?_eq_getElem (by omega)
    have hy : M[i]? = some M[i] := List.getElem?_eq_getElem (by omega)
    generalize L[i] = x at hx
    generalize M[i] = y at hy
    have hxy : x.2 = y.2 := by
      have h1 := snd_at hx
      rw [he, snd_at hy] at h1
      exact (Option.some.inj h1).symm
    have gx : ∀ {σ : L2.St} {H3 : Hp}, σ[0]? = some (some (.ref a)) → σ[2]? = some (some (.int (i : Int))) → Ex H H3 → Ev (tOp (rIxL K) (tVar 0) (tVar 2)) σ H3 x.1 := fun h0 h1 e2 => ev_ptI (Ev.s (ev_var h0) (sq_of (e2 _ _ hA))) (ev_var h1) rfl hx
    have gy : ∀ {σ : L2.St} {H3 : Hp}, σ[1]? = some (some (.ref b)) → σ[2]? = some (some (.int (i : Int))) → Ex H H3 → Ev (tOp (rIxL K) (tVar 1) (tVar 2)) σ H3 y.1 := fun h0 h1 e2 => ev_ptI (Ev.s (ev_var h0) (ex_l e2 hB)) (ev_var h1) rfl hy
    have hPx := hP.at hx
    have hPy := hM.at hy
    have dx := (hPx.ex ex).d (K := K)
    have dy := (hPy.ex ex).d (K := K)
    obtain ⟨v, o⟩ := x
    obtain ⟨u, r⟩ := y
    obtain rfl : o = r := hxy
    cases o with
    | none =>
      obtain rfl : u = .non := hPy
      obtain rfl : v = .non := hPx
      refine s_if (b := true) (et_is (et_test (ev_isN (gy rfl rfl ex))) (decide_eq_true rfl)) (fun _ H3 e3 => ?_) (fun h => by cases h)
      exact s_when (b := false) (et_is (et_test (ev_notN (gx rfl rfl (ex.trans e3)))) rfl) (fun h => by cases h) fun _ H4 e4 => ⟨_, rfl, ex.trans (e3.trans e4)⟩
    | some t =>
      obtain ⟨pu, rfl, hu⟩ := hPy
      obtain ⟨pv, rfl, hv⟩ := hPx
      refine s_if (b := false) (et_is (et_test (ev_isN (gy rfl rfl ex))) (decide_eq_false fun h => by cases h)) (fun h => by cases h) fun _ H3 e3 => ?_
      have hv3 := (ex.trans e3) _ _ hv
      refine q_when (b := false) (et_is (et_or (a := false) (b := false) (et_is (et_not (et_B (ev_isiT (gx rfl rfl (ex.trans e3)) hv3))) rfl) fun _ => et_is (et_not (et_B (ev_all (bs := [true, true, true]) (b := true) (EvR.s (EvL.r (el_lcT [.bl true, .bl true, .bl true] (gx rfl rfl (ex.trans e3)) (st_of hv3) rfl (by decide) (fun _ => rfl) fun j x H4 e4 hx => ?_))) rfl))) rfl) rfl) (fun h => by cases h) fun _ H4 e4 => ?_
      · obtain ⟨n, rfl, hj⟩ := tri_int hx
        refine ⟨.bl true, ?_, ev_isint (ev_var rfl)⟩
        match j, hj with
        | 0, _ => rfl
        | 1, _ => rfl
        | 2, _ => rfl
      · exact s_when (b := false) (et_is (et_test (ev_neDD (EvD.of (gx rfl rfl (ex.trans (e3.trans e4))) (dp_ex (e3.trans e4) _ _ dx)) (EvD.of (gy rfl rfl (ex.trans (e3.trans e4))) (dp_ex (e3.trans e4) _ _ dy)) (shaped_opt _))) rfl) (fun h => by cases h) fun _ H5 e5 => ⟨_, rfl, ex.trans (e3.trans (e4.trans e5))⟩
  · rintro σ' H2 ⟨z, rfl, ex⟩
    exact s_ret ev_c fun H3 e3 => k.go (ex.trans e3)
theorem ev_same {σ : L2.St} {H : Hp} {t1 t2 : TE} {E : XK} {b : Addr} {M : List (V × Option T3)} (h1 : EvPts t1 σ H (M.map (·.2))) (h2 : Ev t2 σ H (.ref b)) (hB : SqL K H b (M.map (·.1))) (hM : Pts H M) (hl : M.length ≤ 1000) : Ev (tCall (sp_same K) [] E (tCons t1 (tCons t2 tNil))) σ H (.bl true) := fun H1 e Q q =>
  h1 H1 e _ fun p L H2 e2 gp hP he => h2 H2 (e.trans e2) _ fun H3 e3 => ⟨p, b, L, M, rfl, e3 _ _ gp, ex_l (e.trans (e2.trans e3)) hB, hP.ex e3, hM.ex (e.trans (e2.trans e3)), he, hl, fun H4 e4 => q H4 ((e2.trans e3).trans e4)⟩
theorem er_rtable {σ : L2.St} {H : Hp} {t1 t2 t3 : TE} {E : XK} {a : Addr} {pre post : List Nat} {os : List (Option T3)} {i j : Int} (h1 : Ev t1 σ H (.ref a)) (hS : SqL K H a ((cs (pre ++ (ptsB os ++ post))).map V.int)) (h2 : Ev t2 σ H (.int i)) (h3 : Ev t3 σ H (.int j)) (hi : i = (pre.length : Int)) (hj : j = ((pre.length + 18 * os.length : Nat) : Int)) (hb : ∀ d ∈ pre ++ (ptsB os ++ post), d < 256) (hok : ∀ o ∈ os, okO o) (hord : ordP os) (hl : os.length ≤ 1000) (hp : pre.length ≤ 100000) : ∀ H1, Ex H H1 → ∀ Q : VK, (∀ p (L : List (V × Option T3)) H2, H1 p = none → Ex H1 H2 → H2 p = some (.lst (L.map (·.1))) → Pts H2 L → L.map (·.2) = os → Q (.ref p) H2) → tCall (sp_rtable K) [] E (tCons t1 (tCons t2 (tCons t3 tNil))) σ H1 Q := fun H1 e Q q =>
  (ea_cons h1 (ea_cons h2 (ea_cons h3 ea_nil))) H1 e _ fun H2 e2 => ⟨a, pre, post, os, by rw [hi, hj]; rfl, ex_l (e.trans e2) hS, hb, hok, hord, hl, hp, fun p L H3 hp3 e3 g3 hP hL => q p L H3 (fresh_back e2 hp3) (e2.trans e3) g3 hP hL⟩

/-! ### the law -/
theorem ev_lpts {s a : Addr} {ns : List Int} {σ : L2.St} {H : Hp} {E : XK} {i j : Nat} (hd : DrS K H s a ns) (h1 : σ[i]? = some (some (.ref s))) (h2 : σ[j]? = some (some (.ref a))) : ∀ Q : VK, (∀ v H1, (∃ (p : Addr) (L : List (V × Option T3)), v = .ref p ∧ H p = none ∧ Fr s H H1 ∧ H1 p = some (.lst (L.map (·.1))) ∧ Pts H1 L ∧ L.length ≤ 9 ∧ (∀ o ∈ L.map (·.2), okO o) ∧ ordP (L.map (·.2))) → Q v H1) → tCall (sp_lpts K) [] E (tCons (tVar i) (tCons (tVar j) tNil)) σ H Q := fun Q q =>
  ⟨_, h1, _, h2, s, a, ns, rfl, hd, fun p L H1 hp f g hP hl hok hord => q _ H1 ⟨p, L, rfl, hp, f, g, hP, hl, hok, hord⟩⟩
theorem Pts.set {H : Hp} {L : List (V × Option T3)} {i : Nat} {x : V × Option T3} (h : Pts H L) (hx : PtAt H x) : Pts H (L.set i x) := fun y hy => by
  rcases List.mem_or_eq_of_mem_set hy with h' | h'
  · exact h y h'
  · rw [h']
    exact hx
def sp_law (K : PySem.W.Frag) : Sp := fun vs H Q _ => ∃ (a : Addr) (ns : List Int), vs = [.ref a] ∧ SqL K H a (ns.map V.int) ∧ ns.length ≤ 63 ∧ ∀ H', Q (.bl true) H'
theorem ok_law (T : TX K mg) : FnOk P w K mg base CX0 5 T.a_law T.d_law ["script"] (sp_law K) := by
  refine T.F_law.ok sc_law (fun vs H Q E h => by obtain ⟨a, ns, rfl, _⟩ := h; rfl) (fun cdv A outer s0 H vs Q E hr h => ?_)
  obtain ⟨a, ns, rfl, hS, hlen, k⟩ := h
  refine ⟨_, (pss_cons (ps_set (i := 1) sc_law.nd rfl (Or.inl rfl) (pe_lst (pa_cons pe_int (pa_cons pe_int pa_nil))))
      (pss_cons (ps_set (i := 2) sc_law.nd rfl (Or.inl rfl) (pe_call (ok_law_points T) (hr.mono (by decide)) (by rfl) T.g_law_points T.F_law_points.kp T.b_law_points .nil pass0 (pa_cons (pv 1) (pa_cons (pv 0) pa_nil))))
      (pss_cons (ps_set (i := 3) sc_law.nd rfl (Or.inl rfl) (pe_callTy (r := rListS K) call_list_of (by rfl) T.m_list PyProof.Rows.boot_list (pa_cons (pv 2) pa_nil)))
      (pss_cons (ps_set (i := 4) sc_law.nd rfl (Or.inl rfl) (pe_call (ok_write_seektable T) (hr.mono (by decide)) (by rfl) T.g_write_seektable T.F_write_seektable.kp T.b_write_seektable .nil pass0 (pa_cons (pv 3) pa_nil)))
      (pss_cons (ps_if (PW.pt (pw_or (pt_cmpR (op_neD (hu64 hr)) (pv 3) (pv 2) (nomark _)) (pw_or (pt_not (pt_val (pe_call (ok_law_is_bytes T) (hr.mono (by decide)) (by rfl) T.g_law_is_bytes T.F_law_is_bytes.kp T.b_law_is_bytes .nil pass0 (pa_cons (pv 4) pa_nil)))) (pw_or1 (pt_cmpR (op_neD (hu64 hr)) (pv 4) (pe_call (ok_law_body T) (hr.mono (by decide)) (by rfl) T.g_law_body T.F_law_body.kp T.b_law_body .nil pass0 (pa_cons (pv 2) pa_nil)) (nomark _)))))) (pss_one (ps_ret pe_bl)) pss_nil)
      (pss_cons (ps_set (i := 5) sc_law.nd rfl (Or.inl rfl) (pe_call (ok_law_junk T) (hr.mono (by decide)) (by rfl) T.g_law_junk T.F_law_junk.kp T.b_law_junk .nil pass0 (pa_cons (pv 1) (pa_cons (pv 0) (pa_cons (pe_call (ok_law_draw T) (hr.mono (by decide)) (by rfl) T.g_law_draw T.F_law_draw.kp T.b_law_draw .nil pass0 (pa_cons (pv 1) (pa_cons (pv 0) (pa_cons pe_int pa_nil)))) pa_nil)))))
      (pss_cons (ps_set (i := 6) sc_law.nd rfl (Or.inl rfl) (pe_op op_cat (pe_op op_cat (pv 5) (pv 4)) (pe_call (ok_law_junk T) (hr.mono (by decide)) (by rfl) T.g_law_junk T.F_law_junk.kp T.b_law_junk .nil pass0 (pa_cons (pv 1) (pa_cons (pv 0) (pa_cons (pe_call (ok_law_draw T) (hr.mono (by decide)) (by rfl) T.g_law_draw T.F_law_draw.kp T.b_law_draw .nil pass0 (pa_cons (pv 1) (pa_cons (pv 0) (pa_cons pe_int pa_nil)))) pa_nil))))))
      (pss_cons (ps_set (i := 7) sc_law.nd rfl (Or.inl rfl) (pe_callTy (r := rListS K) call_list_of (by rfl) T.m_list PyProof.Rows.boot_list (pa_cons (pv 6) pa_nil)))
      (pss_cons (ps_set (i := 8) sc_law.nd rfl (Or.inl rfl) (pe_call (ok_read_seektable T) (hr.mono (by decide)) (by rfl) T.g_read_seektable T.F_read_seektable.kp T.b_read_seektable .nil pass0 (pa_cons (pv 6) (pa_cons (pe_callB (r := rLenS K) call_len_seq (by rfl) T.m_len PySem.boot_len (pa_cons (pv 5) pa_nil)) (pa_cons (pe_op op_add (pe_callB (r := rLenS K) call_len_seq (by rfl) T.m_len PySem.boot_len (pa_cons (pv 5) pa_nil)) (pe_callB (r := rLenS K) call_len_seq (by rfl) T.m_len PySem.boot_len (pa_cons (pv 4) pa_nil))) pa_nil)))))
      (pss_cons (ps_if (PW.pt (pw_or (pt_not (pt_val (pe_call (ok_law_same T) (hr.mono (by decide)) (by rfl) T.g_law_same T.F_law_same.kp T.b_law_same .nil pass0 (pa_cons (pv 8) (pa_cons (pv 2) pa_nil))))) (pw_or1 (pt_cmpR (op_neD (hu64 hr)) (pv 6) (pv 7) (nomark _))))) (pss_one (ps_ret pe_bl)) pss_nil)
      (pss_cons (ps_expr (pe_bm PySem.F.plainAttrs_list PySem.F.slot_list_append PySem.F.type_list_append mt_append (pv 8) (pa_cons pe_non pa_nil)))
      (pss_cons (ps_expr (pe_bm PySem.F.plainAttrs_list PySem.F.slot_list_append PySem.F.type_list_append mt_append (pv 4) (pa_cons pe_int pa_nil)))
      (pss_cons (ps_asg (pe_op op_sub pe_int (pe_ix (r := rIxL K) ix_list (pv 4) pe_int (fun _ _ => rfl))) (pg_sub (pv 4) pe_int set_list))
      (pss_cons (ps_if (pt_cmpR (op_neD (hu64 hr)) (pe_call (ok_write_seektable T) (hr.mono (by decide)) (by rfl) T.g_write_seektable T.F_write_seektable.kp T.b_write_seektable .nil pass0 (pa_cons (pv 2) pa_nil)) (pe_call (ok_law_body T) (hr.mono (by decide)) (by rfl) T.g_law_body T.F_law_body.kp T.b_law_body .nil pass0 (pa_cons (pv 2) pa_nil)) (nomark _)) (pss_one (ps_ret pe_bl)) pss_nil)
      (pss_cons (ps_set (i := 4) sc_law.nd rfl (Or.inl rfl) (pe_call (ok_law_body T) (hr.mono (by decide)) (by rfl) T.g_law_body T.F_law_body.kp T.b_law_body .nil pass0 (pa_cons (pv 2) pa_nil)))
      (pss_cons (ps_if (pt_not (pt_val (pe_call (ok_law_same T) (hr.mono (by decide)) (by rfl) T.g_law_same T.F_law_same.kp T.b_law_same .nil pass0 (pa_cons (pe_call (ok_read_seektable T) (hr.mono (by decide)) (by rfl) T.g_read_seektable T.F_read_seektable.kp T.b_read_seektable .nil pass0 (pa_cons (pv 6) (pa_cons (pe_callB (r := rLenS K) call_len_seq (by rfl) T.m_len PySem.boot_len (pa_cons (pv 5) pa_nil)) (pa_cons (pe_op op_add (pe_callB (r := rLenS K) call_len_seq (by rfl) T.m_len PySem.boot_len (pa_cons (pv 5) pa_nil)) (pe_callB (r := rLenS K) call_len_seq (by rfl) T.m_len PySem.boot_len (pa_cons (pv 4) pa_nil))) pa_nil)))) (pa_cons (pv 2) pa_nil))))) (pss_one (ps_ret pe_bl)) pss_nil)
      (pss_cons (ps_set (i := 9) sc_law.nd rfl (Or.inl rfl) (pe_callTy (r := rListS K) call_list_of (by rfl) T.m_list PyProof.Rows.boot_list (pa_cons (pv 2) pa_nil)))
      (pss_cut (ps_if (pt_truth (pv 2) (by intro _; rfl)) (pss_cons (ps_set (i := 10) sc_law.nd rfl (Or.inl rfl) (pe_call (ok_law_draw T) (hr.mono (by decide)) (by rfl) T.g_law_draw T.F_law_draw.kp T.b_law_draw .nil pass0 (pa_cons (pv 1) (pa_cons (pv 0) (pa_cons (pe_callB (r := rLenS K) call_len_seq (by rfl) T.m_len PySem.boot_len (pa_cons (pv 2) pa_nil)) pa_nil)))))
        (pss_cons (ps_set (i := 11) sc_law.nd rfl (Or.inl rfl) (pe_call (ok_law_draw T) (hr.mono (by decide)) (by rfl) T.g_law_draw T.F_law_draw.kp T.b_law_draw .nil pass0 (pa_cons (pv 1) (pa_cons (pv 0) (pa_cons (pe_callB (r := rLenS K) call_len_seq (by rfl) T.m_len PySem.boot_len (pa_cons (pv 2) pa_nil)) pa_nil)))))
        (pss_cons (ps_asg (pe_ix (r := rIxL K) ix_list (pv 2) (pv 11) (fun _ _ => rfl)) (pg_sub (pv 9) (pv 10) set_list))
        (pss_one (ps_asg (pe_ix (r := rIxL K) ix_list (pv 2) (pv 10) (fun _ _ => rfl)) (pg_sub (pv 9) (pv 11) set_list)))))) pss_nil)
      (pss_cons (ps_set (i := 8) sc_law.nd rfl (Or.inl rfl) (pe_call (ok_is_ordered T) (hr.mono (by decide)) (by rfl) T.g_is_ordered T.F_is_ordered.kp T.b_is_ordered .nil pass0 (pa_cons (pv 9) pa_nil)))
      (pss_one (ps_ret (pe_and (pe_callB (r := rIsi K) call_isi (by rfl) T.m_isinstance PyProof.Rows.boot_isinstance (pa_cons (pv 8) (pa_cons (pe_bltn (v := V.ty "bool") (by rfl) T.m_bool PyProof.Rows.boot_bool rfl) pa_nil))) (pe_and (pe_cmpR (op_eqD (hu64 hr)) (pv 8) (pe_call (ok_law_ascend T) (hr.mono (by decide)) (by rfl) T.g_law_ascend T.F_law_ascend.kp T.b_law_ascend .nil pass0 (pa_cons (pv 9) pa_nil)) (nomark _)) (pe_and (pe_call (ok_is_ordered T) (hr.mono (by decide)) (by rfl) T.g_is_ordered T.F_is_ordered.kp T.b_is_ordered .nil pass0 (pa_cons (pv 2) pa_nil)) (pe_one (pe_call (ok_is_ordered T) (hr.mono (by decide)) (by rfl) T.g_is_ordered T.F_is_ordered.kp T.b_is_ordered .nil pass0 (pa_cons (pe_lst pa_nil) pa_nil))))))))))))))))))))))))))), ?_⟩
  refine q_asgL (xs := [.int 0, .int 0]) (el_lst (ea_cons ev_c (ea_cons ev_c ea_nil)) (by decide)) fun s B hs e1 g1 => ?_
  have hd : DrS K B s a ns := ⟨⟨0, 0, g1⟩, scr_mk hs e1 hS⟩
  refine q_asgRaw _ (ev_lpts hd rfl rfl) ?_
  rintro _ H2 ⟨pt, L, rfl, hptB, f2, g2, hP2, hl, hok, hord⟩
  have hpts := ne_st hd.1 hptB
  clear g1 e1 hS
  obtain ⟨os, hos⟩ : ∃ os : List (Option T3), L.map (·.2) = os := ⟨_, rfl⟩
  have hol : os.length = L.length := by rw [← hos, List.length_map]
  rw [hos] at hok hord
  have hBl := ptsB_len os
  refine q_asgL (xs := L.map (·.1)) (el_of (Ev.s (ev_var rfl) (sq_of g2))) fun ph H3 hph e3 g3 => ?_
  refine q_asgL (xs := (cs (ptsB os)).map V.int) (by rw [← hos]; exact el_wtable (Ev.s (ev_var rfl) (sq_of g3)) (hP2.ex e3) (by omega)) fun pb H4 hpb e4 g4 => ?_
  have e34 := e3.trans e4
  have hP4 := hP2.ex e34
  refine q_when (b := false) (et_is (et_or (a := false) (b := false) (et_is (et_test (ev_neDD (EvD.of (ev_var rfl) (.lst (sq_of (e4 _ _ g3)) (Pts.d hP4))) (EvD.of (ev_var rfl) (.lst (sq_of (e34 _ _ g2)) (Pts.d hP4))) (shaped_opts _))) rfl) fun _ => et_or (a := false) (b := false) (et_is (et_not (et_B (ev_isbytes (Ev.r (ev_var rfl) g4) (by omega) (ptsB_lt os)))) rfl) fun _ => et_is (et_test (ev_neI (ns := cs (ptsB os)) (ms := cs (ptsB os)) (Ev.s (ev_var rfl) (sq_of g4)) (EvR.s (EvL.r (by rw [← hos]; exact el_lbody (Ev.s (ev_var rfl) (sq_of (e34 _ _ g2))) hP4 (by omega)))))) (by simp)) rfl) (fun h => by cases h) fun _ H5 e5 => ?_
  have e25 := e34.trans e5
  have fB5 := f2.tex e25
  have hd5 := hd.fr fB5
  have hpbB : B pb = none := (f2.tex e3).fresh hpb
  have hpbs := ne_st hd.1 hpbB
  have hptb : pt ≠ pb := ne_of_none (e3 _ _ g2) hpb
  have gt5 := e25 _ _ g2
  have gb5 := e5 _ _ g4
  have hP5 := hP2.ex e25
  clear g2 g3 g4 hP4 hP2 e3 e4 e5 e34 e25
  refine qw_asgL (wl_junk hd5 rfl rfl (wi_draw hd5 rfl rfl ev_c (by decide) (by decide)) (fun z hz => by obtain ⟨d, rfl, h⟩ := hz; omega)) fun pf xs H6 hpf f6 gf6 hxs => ?_
  obtain ⟨b1, rfl, hb1l, -, hb1⟩ := hxs
  have fB6 := fB5.trans f6
  have hd6 := hd.fr fB6
  have gb6 := f6.l hpbs gb5
  have hpfs := ne_st hd5.1 hpf
  have hpfb : pb ≠ pf := ne_of_none gb5 hpf
  refine qw_asgL (wl_cat hd6.1 (el_cat (Ev.r (ev_var rfl) gf6) (Ev.r (ev_var rfl) gb6) (by rw [List.length_map, cs_len, List.length_map, cs_len]; omega)) (fun H9 f9 => wl_junk (hd6.fr f9) rfl rfl (wi_draw (hd6.fr f9) rfl rfl ev_c (by decide) (by decide)) (fun z hz => by obtain ⟨d, rfl, h⟩ := hz; omega)) (fun ys hy => by obtain ⟨ds, rfl, hl, _⟩ := hy; rw [List.length_append, List.length_map, List.length_map, List.length_map, cs_len, cs_len, cs_len]; omega)) fun pd xs H7 hpd f7 gd hxs => ?_
  obtain ⟨_, ⟨b2, rfl, hb2l, -, hb2⟩, rfl⟩ := hxs
  have hds : ((cs b1).map V.int ++ (cs (ptsB os)).map V.int) ++ (cs b2).map V.int = (cs (b1 ++ (ptsB os ++ b2))).map V.int := by rw [cs_append, cs_append, List.map_append, List.map_append, List.append_assoc]
  rw [hds] at gd
  have hbd : ∀ d ∈ b1 ++ (ptsB os ++ b2), d < 256 := fun d hd => by
    rcases List.mem_append.mp hd with h | h
    · exact hb1 d h
    · rcases List.mem_append.mp h with h | h
      · exact ptsB_lt os d h
      · exact hb2 d h
  have fB7 := fB6.trans f7
  have hd7 := hd.fr fB7
  have f57 := f6.trans f7
  have gt7 := f57.l hpts gt5
  have gb7 := f7.l hpbs gb6
  have gf7 := f7.l hpfs gf6
  have hP7 := hP5.fr fB5.2 f57
  have hpdb : pb ≠ pd := ne_of_none gb6 hpd
  clear gt5 gb5 gb6 gf6 hP5 f6 f7 f57
  refine q_asgL (xs := (cs (b1 ++ (ptsB os ++ b2))).map V.int) (el_of (Ev.s (ev_var rfl) (sq_of gd))) fun pk H8 hpk e8 gk => ?_
  have hlen : ∀ {σ : L2.St} {H' : Hp} {i : Nat} {p : Addr} {ds : List Nat}, σ[i]? = some (some (.ref p)) → H' p = some (.lst ((cs ds).map V.int)) → Ev (tCB (rLenS K) (tCons (tVar i) tNil)) σ H' (.int (ds.length : Int)) := fun h g => Ev.is (ev_lenS (Ev.s (ev_var h) (sq_of g))) (by rw [List.length_map, cs_len])
  refine q_asgRaw (fun x H' => ∃ (p : Addr) (M : List (V × Option T3)), x = .ref p ∧ H8 p = none ∧ Ex H8 H' ∧ H' p = some (.lst (M.map (·.1))) ∧ Pts H' M ∧ M.map (·.2) = os) (fun Q' q' => er_rtable (pre := b1) (post := b2) (os := os) (ev_var rfl) (sq_of (e8 _ _ gd)) (hlen rfl (e8 _ _ gf7)) (ev_I0 (hlen rfl (e8 _ _ gf7)) (hlen rfl (e8 _ _ gb7))) rfl (by omega) hbd hok hord (by omega) (by omega) H8 (Ex.refl _) Q' fun p M H' hp e g hM hMs => q' _ _ ⟨p, M, rfl, hp, e, g, hM, hMs⟩) ?_
  rintro _ H9 ⟨pr, M, rfl, hpr, e9, gr, hM, hMs⟩
  have e79 := e8.trans e9
  have hMl : M.length = os.length := by rw [← hMs, List.length_map]
  refine q_when (b := false) (et_is (et_or (a := false) (b := false) (et_is (et_not (et_B (ev_same (M := L) (fun H' e Q' q' => (ev_var rfl) H' e _ fun H'' e' => q' pr M H'' e' ((e.trans e') _ _ gr) (hM.ex (e.trans e')) (by rw [hMs, hos])) (ev_var rfl) (sq_of (e79 _ _ gt7)) (hP7.ex e79) (by omega)))) rfl) fun _ => et_is (et_test (ev_neI (ns := cs (b1 ++ (ptsB os ++ b2))) (ms := cs (b1 ++ (ptsB os ++ b2))) (Ev.s (ev_var rfl) (sq_of (e79 _ _ gd))) (Ev.s (ev_var rfl) (sq_of (e9 _ _ gk))))) (by simp)) rfl) (fun h => by cases h) fun _ H10 e10 => ?_
  have e7_10 := e79.trans e10
  have fB10 := fB7.tex e7_10
  have hprB := (fB7.tex e8).fresh hpr
  have hprs := ne_st hd.1 hprB
  have gt10 := e7_10 _ _ gt7
  have gb10 := e7_10 _ _ gb7
  have gf10 := e7_10 _ _ gf7
  have gd10 := e7_10 _ _ gd
  have hP10 := hP7.ex e7_10
  have hrt : pt ≠ pr := ne_of_none (e8 _ _ gt7) hpr
  have hrb : pb ≠ pr := ne_of_none (e8 _ _ gb7) hpr
  have hrf : pf ≠ pr := ne_of_none (e8 _ _ gf7) hpr
  have hrd : pd ≠ pr := ne_of_none (e8 _ _ gd) hpr
  refine q_app (e10 _ _ gr) (ev_var rfl) ev_c (by rw [List.length_map]; omega) fun H12 e12 => ?_
  have gb12 : (upd H12 pr (.lst (M.map (·.1) ++ [V.non]))) pb = some (.lst ((cs (ptsB os)).map V.int)) := by rw [upd_ne hrb]; exact e12 _ _ gb10
  refine q_app gb12 (ev_var rfl) ev_c (by rw [List.length_map, cs_len]; omega) fun H13 e13 => ?_
  have hcs5 : (cs (ptsB os)).map V.int ++ [V.int 5] = (cs (ptsB os ++ [5])).map V.int := by rw [cs_append, List.map_append]; rfl
  obtain ⟨x0, hx0⟩ : ∃ x0, (ptsB os ++ [5])[0]? = some x0 := ⟨_, List.getElem?_eq_getElem (by rw [List.length_append, List.length_singleton]; omega)⟩
  have keep : ∀ (p : Addr) (o : HO), p ≠ pr → p ≠ pb → H10 p = some o → (upd H13 pb (.lst ((cs (ptsB os)).map V.int ++ [V.int 5]))) p = some o := fun p o h1 h2 h3 => by
    rw [upd_ne h2]
    exact e13 _ _ (by rw [upd_ne h1]; exact e12 _ _ h3)
  have gt14 := keep pt _ hrt hptb gt10
  have gf14 := keep pf _ hrf hpfb.symm gf10
  have gd14 := keep pd _ hrd hpdb.symm gd10
  have hP14 : Pts (upd H13 pb (.lst ((cs (ptsB os)).map V.int ++ [V.int 5]))) L := ((((hP10.ex e12).updL (e12 _ _ (e10 _ _ gr))).ex e13)).updL (e13 _ _ gb12)
  have fB14 : Fr s B (upd H13 pb (.lst ((cs (ptsB os)).map V.int ++ [V.int 5]))) := (((fB10.tex e12).mut hprB hprs).tex e13).mut hpbB hpbs
  have gb14 : (upd H13 pb (.lst ((cs (ptsB os)).map V.int ++ [V.int 5]))) pb = some (.lst ((cs (ptsB os ++ [5])).map V.int)) := by rw [upd_same, hcs5]
  generalize upd H13 pb (.lst ((cs (ptsB os)).map V.int ++ [V.int 5])) = H14 at *
  refine q_setL (j := 0) (v := .int (255 - (x0 : Int))) gb14 (ev_I0 ev_c (ev_ixS (i := 0) (n := 0) (v := .int (x0 : Int)) (Ev.s (ev_var rfl) (sq_of gb14)) ev_c (at_of (j := 0) rfl (at_int (cs_at hx0))))) (ev_var rfl) ev_c (by rw [List.length_map, cs_len, List.length_append, List.length_singleton]; omega) fun H15 e15 => ?_
  have gt16 : (upd H15 pb (.lst (((cs (ptsB os ++ [5])).map V.int).set 0 (.int (255 - (x0 : Int)))))) pt = some (.lst (L.map (·.1))) := by rw [upd_ne hptb]; exact e15 _ _ gt14
  have gf16 : (upd H15 pb (.lst (((cs (ptsB os ++ [5])).map V.int).set 0 (.int (255 - (x0 : Int)))))) pf = some (.lst ((cs b1).map V.int)) := by rw [upd_ne hpfb.symm]; exact e15 _ _ gf14
  have gd16 : (upd H15 pb (.lst (((cs (ptsB os ++ [5])).map V.int).set 0 (.int (255 - (x0 : Int)))))) pd = some (.lst ((cs (b1 ++ (ptsB os ++ b2))).map V.int)) := by rw [upd_ne hpdb.symm]; exact e15 _ _ gd14
  have hP16 : Pts (upd H15 pb (.lst (((cs (ptsB os ++ [5])).map V.int).set 0 (.int (255 - (x0 : Int)))))) L := (hP14.ex e15).updL (e15 _ _ gb14)
  have fB16 : Fr s B (upd H15 pb (.lst (((cs (ptsB os ++ [5])).map V.int).set 0 (.int (255 - (x0 : Int)))))) := (fB14.tex e15).mut hpbB hpbs
  generalize upd H15 pb (.lst (((cs (ptsB os ++ [5])).map V.int).set 0 (.int (255 - (x0 : Int))))) = H16 at *
  clear gt14 gf14 gd14 hP14 fB14 gb14 gb12 e15 e13 e12 gt10 gb10 gf10 gd10 hP10 e10 e79 e7_10 keep
  refine q_when (b := false) (et_is (et_test (ev_neI (ns := cs (ptsB os)) (ms := cs (ptsB os)) (EvR.s (EvL.r (by rw [← hos]; exact el_wtable (Ev.s (ev_var rfl) (sq_of gt16)) hP16 (by omega)))) (EvR.s (EvL.r (by rw [← hos]; exact el_lbody (Ev.s (ev_var rfl) (sq_of gt16)) hP16 (by omega)))))) (by simp)) (fun h => by cases h) fun _ H17 e17 => ?_
  refine q_asgL (xs := (cs (ptsB os)).map V.int) (by rw [← hos]; exact el_lbody (Ev.s (ev_var rfl) (sq_of (e17 _ _ gt16))) (hP16.ex e17) (by omega)) fun pc H18 hpc e18 gc => ?_
  have e68 := e17.trans e18
  refine q_when (b := false) (et_is (et_not (et_B (ev_same (M := L) (fun H' e Q' q' => er_rtable (pre := b1) (post := b2) (os := os) (ev_var rfl) (sq_of (e68 _ _ gd16)) (hlen rfl (e68 _ _ gf16)) (ev_I0 (hlen rfl (e68 _ _ gf16)) (hlen rfl gc)) rfl (by omega) hbd hok hord (by omega) (by omega) H' e Q' fun p M H'' hp e' g hM hMs => q' p M H'' e' g hM (by rw [hMs, hos])) (ev_var rfl) (sq_of (e68 _ _ gt16)) (hP16.ex e68) (by omega)))) rfl) (fun h => by cases h) fun _ H19 e19 => ?_
  have e69 := e68.trans e19
  refine q_asgL (xs := L.map (·.1)) (el_of (Ev.s (ev_var rfl) (sq_of (e69 _ _ gt16)))) fun pu H20 hpu e20 gu => ?_
  have fB20 := fB16.tex (e69.trans e20)
  have gt20 := (e69.trans e20) _ _ gt16
  have hP20 := hP16.ex (e69.trans e20)
  have hpuB := (fB16.tex e69).fresh hpu
  have hpus := ne_st hd.1 hpuB
  have hut : pt ≠ pu := ne_of_none (e69 _ _ gt16) hpu
  refine q_cut (M := fun σ' H' => ∃ (U : List (V × Option T3)) (z10 z11 : Option V), σ' = [some (.ref a), some (.ref s), some (.ref pt), some (.ref ph), some (.ref pc), some (.ref pf), some (.ref pd), some (.ref pk), some (.ref pr), some (.ref pu), z10, z11] ∧ H' pu = some (.lst (U.map (·.1))) ∧ Pts H' U ∧ U.length ≤ 9 ∧ H' pt = some (.lst (L.map (·.1))) ∧ Pts H' L) ?_ ?_
  · refine s_when (et_tru (ev_var rfl) (sq_of gt20)) (fun htr H21 e21 => ?_) (fun _ H21 e21 => ⟨L, none, none, rfl, e21 _ _ gu, hP20.ex e21, by omega, e21 _ _ gt20, hP20.ex e21⟩)
    have hne : 0 < L.length := by
      cases L with
      | nil => cases htr
      | cons x r => rw [List.length_cons]; omega
    have hlL : ∀ {σ : L2.St} {H' : Hp} {i : Nat}, σ[i]? = some (some (.ref pt)) → H' pt = some (.lst (L.map (·.1))) → Ev (tCB (rLenS K) (tCons (tVar i) tNil)) σ H' (.int (L.length : Int)) := fun h g => Ev.is (ev_lenS (Ev.s (ev_var h) (sq_of g))) (by rw [List.length_map])
    have gt21 := e21 _ _ gt20
    have gu21 := e21 _ _ gu
    have fB21 := fB20.tex e21
    refine qw_asg (wi_draw (n := (L.length : Int)) (hd.fr fB21) rfl rfl (hlL rfl gt21) (by omega) (by omega)) fun z H22 f22 hz => ?_
    obtain ⟨i, rfl, hi⟩ := hz
    have gt22 := f22.l hpts gt21
    refine qw_asg (wi_draw (n := (L.length : Int)) (hd.fr (fB21.trans f22)) rfl rfl (hlL rfl gt22) (by omega) (by omega)) fun z H23 f23 hz => ?_
    obtain ⟨j, rfl, hj⟩ := hz
    have f13 := f22.trans f23
    have gt23 := f23.l hpts gt22
    have gu23 := f13.l hpus gu21
    have hP23 := (hP20.ex e21).fr fB21.2 f13
    have hx : L[i]? = some L[i] := List.getElem?_eq_getElem (by omega)
    have hy : L[j]? = some L[j] := List.getElem?_eq_getElem (by omega)
    generalize L[i] = x at hx
    generalize L[j] = y at hy
    have hPx := hP23.at hx
    have hPy := hP23.at hy
    refine q_setL (j := i) (v := y.1) gu23 (ev_ptI (i := j) (Ev.s (ev_var rfl) (sq_of gt23)) (ev_var rfl) rfl hy) (ev_var rfl) (ev_var rfl) (by rw [List.length_map]; omega) fun H24 e24 => ?_
    have gu25 : (upd H24 pu (.lst ((L.map (·.1)).set i y.1))) pu = some (.lst ((L.set i y).map (·.1))) := by rw [upd_same, List.map_set]
    have gt25 : (upd H24 pu (.lst ((L.map (·.1)).set i y.1))) pt = some (.lst (L.map (·.1))) := by rw [upd_ne hut]; exact e24 _ _ gt23
    have hP25 : Pts (upd H24 pu (.lst ((L.map (·.1)).set i y.1))) L := (hP23.ex e24).updL (e24 _ _ gu23)
    have hx25 : PtAt (upd H24 pu (.lst ((L.map (·.1)).set i y.1))) x := (hPx.ex e24).updL (e24 _ _ gu23)
    have hy25 : PtAt (upd H24 pu (.lst ((L.map (·.1)).set i y.1))) y := (hPy.ex e24).updL (e24 _ _ gu23)
    generalize upd H24 pu (.lst ((L.map (·.1)).set i y.1)) = H25 at *
    refine s_setL (j := j) (v := x.1) gu25 (ev_ptI (i := i) (Ev.s (ev_var rfl) (sq_of gt25)) (ev_var rfl) rfl hx) (ev_var rfl) (ev_var rfl) (by rw [List.length_map, List.length_set]; omega) fun H26 e26 => ?_
    refine ⟨(L.set i y).set j x, _, _, rfl, ?_, ((((hP25.set hy25).set hx25).ex e26).updL (e26 _ _ gu25)), by rw [List.length_set, List.length_set]; omega, ?_, (hP25.ex e26).updL (e26 _ _ gu25)⟩
    · rw [upd_same, ← List.map_set]
    · rw [upd_ne hut]
      exact e26 _ _ gt25
  · rintro σ' H21 ⟨U, z10, z11, rfl, gu, hU, hUl, gt, hPt⟩
    refine q_asg (v := .bl (ordF (U.map (·.2)))) (ev_isord (Ev.s (ev_var rfl) (sq_of gu)) hU (by omega)) fun H22 e22 => ?_
    refine s_ret (v := .bl true) (Ev.is (ev_andV (a := true) (b := true) (ev_isiBB (ev_var rfl)) fun _ => Ev.is (ev_andV (a := true) (b := true) (ev_eqDD (d := .bool (ordF (U.map (·.2)))) (EvD.of (ev_var rfl) (.bl _)) (EvD.of (ev_lasc (Ev.s (ev_var rfl) (sq_of (e22 _ _ gu))) (hU.ex e22) (by omega)) (.bl _)) rfl) fun _ => Ev.is (ev_andV (a := true) (b := true) (Ev.is (ev_isord (Ev.s (ev_var rfl) (sq_of (e22 _ _ gt))) (hPt.ex e22) (by omega)) (by rw [hos, ordF_of hord])) fun _ => ev_isord (L := []) (EvR.s (EvL.r (el_lst ea_nil (by decide)))) (fun x hx => by cases hx) (by decide)) rfl) rfl) rfl) fun H23 e23 => k H23

end
theorem all_mk {l : PySem.W.OpenLaw} {w : World} {K : PySem.W.Frag} {h : Heap} {mg : Str → Option Value} {fa : Addr} {f1 f2 f3 f4 f5 f6 f7 f8 f9 f10 f11 f12 f13 f14 f15 f16 f17 f18 f19 f20 : Addr} (X : K.In h) (G : h.Ns mainGlobals mg) (hfa : mg "law" = some (.ref fa))
    {od1 an1 : Option Addr} {sl1 : Array (Option Value)} {oc1 dc1 pm1 cd1 ct1 : Value} {kV1 : Value} {od2 an2 : Option Addr} {sl2 : Array (Option Value)} {oc2 dc2 pm2 cd2 ct2 : Value} {kV2 : Value} {od3 an3 : Option Addr} {sl3 : Array (Option Value)} {oc3 dc3 pm3 cd3 ct3 : Value} {kV3 : Value} {od4 an4 : Option Addr} {sl4 : Array (Option Value)} {oc4 dc4 pm4 cd4 ct4 : Value} {kV4 : Value} {od5 an5 : Option Addr} {sl5 : Array (Option Value)} {oc5 dc5 pm5 cd5 ct5 : Value} {kV5 : Value} {od6 an6 : Option Addr} {sl6 : Array (Option Value)} {oc6 dc6 pm6 cd6 ct6 : Value} {kV6 : Value} {od7 an7 : Option Addr} {sl7 : Array (Option Value)} {oc7 dc7 pm7 cd7 ct7 : Value} {kV7 : Value} {od8 an8 : Option Addr} {sl8 : Array (Option Value)} {oc8 dc8 pm8 cd8 ct8 : Value} {kV8 : Value} {od9 an9 : Option Addr} {sl9 : Array (Option Value)} {oc9 dc9 pm9 cd9 ct9 : Value} {kV9 : Value} {od10 an10 : Option Addr} {sl10 : Array (Option Value)} {oc10 dc10 pm10 cd10 ct10 : Value} {kV10 : Value} {od11 an11 : Option Addr} {sl11 : Array (Option Value)} {oc11 dc11 pm11 cd11 ct11 : Value} {kV11 : Value} {od12 an12 : Option Addr} {sl12 : Array (Option Value)} {oc12 dc12 pm12 cd12 ct12 : Value} {kV12 : Value} {od13 an13 : Option Addr} {sl13 : Array (Option Value)} {oc13 dc13 pm13 cd13 ct13 : Value} {kV13 : Value} {od14 an14 : Option Addr} {sl14 : Array (Option Value)} {oc14 dc14 pm14 cd14 ct14 : Value} {kV14 : Value} {od15 an15 : Option Addr} {sl15 : Array (Option Value)} {oc15 dc15 pm15 cd15 ct15 : Value} {kV15 : Value} {od16 an16 : Option Addr} {sl16 : Array (Option Value)} {oc16 dc16 pm16 cd16 ct16 : Value} {kV16 : Value} {od17 an17 : Option Addr} {sl17 : Array (Option Value)} {oc17 dc17 pm17 cd17 ct17 : Value} {kV17 : Value} {od18 an18 : Option Addr} {sl18 : Array (Option Value)} {oc18 dc18 pm18 cd18 ct18 : Value} {kV18 : Value} {od19 an19 : Option Addr} {sl19 : Array (Option Value)} {oc19 dc19 pm19 cd19 ct19 : Value} {kV19 : Value} {od20 an20 : Option Addr} {sl20 : Array (Option Value)} {oc20 dc20 pm20 cd20 ct20 : Value} {kV20 : Value} {u_POINT_LENGTH : Value} {u_NO_SAMPLE : Value}
    (a1 : PySem.W.nsIn K mainGlobals "big_bytes" = some (some (.ref f1)))
    (l1 : K.lookup f1 = some ⟨oc1, od1, .func (PySem.W.fnOf "big_bytes" "big_bytes" (defArgs s_big_bytes) (defBody s_big_bytes) (defScope s_big_bytes) .none kV1 dc1 pm1 an1 cd1 ct1), sl1⟩) (c1 : PySem.W.codeIn K cd1 "big_bytes" = true) (k1 : PySem.W.keepIn K (.ref f1) = true)
    (a2 : PySem.W.nsIn K mainGlobals "big_number" = some (some (.ref f2)))
    (l2 : K.lookup f2 = some ⟨oc2, od2, .func (PySem.W.fnOf "big_number" "big_number" (defArgs s_big_number) (defBody s_big_number) (defScope s_big_number) .none kV2 dc2 pm2 an2 cd2 ct2), sl2⟩) (c2 : PySem.W.codeIn K cd2 "big_number" = true) (k2 : PySem.W.keepIn K (.ref f2) = true)
    (a3 : PySem.W.nsIn K mainGlobals "read_seektable" = some (some (.ref f3)))
    (l3 : K.lookup f3 = some ⟨oc3, od3, .func (PySem.W.fnOf "read_seektable" "read_seektable" (defArgs s_read_seektable) (defBody s_read_seektable) (defScope s_read_seektable) .none kV3 dc3 pm3 an3 cd3 ct3), sl3⟩) (c3 : PySem.W.codeIn K cd3 "read_seektable" = true) (k3 : PySem.W.keepIn K (.ref f3) = true)
    (a4 : PySem.W.nsIn K mainGlobals "write_seektable" = some (some (.ref f4)))
    (l4 : K.lookup f4 = some ⟨oc4, od4, .func (PySem.W.fnOf "write_seektable" "write_seektable" (defArgs s_write_seektable) (defBody s_write_seektable) (defScope s_write_seektable) .none kV4 dc4 pm4 an4 cd4 ct4), sl4⟩) (c4 : PySem.W.codeIn K cd4 "write_seektable" = true) (k4 : PySem.W.keepIn K (.ref f4) = true)
    (a5 : PySem.W.nsIn K mainGlobals "is_ordered" = some (some (.ref f5)))
    (l5 : K.lookup f5 = some ⟨oc5, od5, .func (PySem.W.fnOf "is_ordered" "is_ordered" (defArgs s_is_ordered) (defBody s_is_ordered) (defScope s_is_ordered) .none kV5 dc5 pm5 an5 cd5 ct5), sl5⟩) (c5 : PySem.W.codeIn K cd5 "is_ordered" = true) (k5 : PySem.W.keepIn K (.ref f5) = true)
    (a6 : PySem.W.nsIn K mainGlobals "_read_point" = some (some (.ref f6)))
    (l6 : K.lookup f6 = some ⟨oc6, od6, .func (PySem.W.fnOf "_read_point" "_read_point" (defArgs s_read_point) (defBody s_read_point) (defScope s_read_point) .none kV6 dc6 pm6 an6 cd6 ct6), sl6⟩) (c6 : PySem.W.codeIn K cd6 "_read_point" = true) (k6 : PySem.W.keepIn K (.ref f6) = true)
    (a7 : PySem.W.nsIn K mainGlobals "_write_point" = some (some (.ref f7)))
    (l7 : K.lookup f7 = some ⟨oc7, od7, .func (PySem.W.fnOf "_write_point" "_write_point" (defArgs s_write_point) (defBody s_write_point) (defScope s_write_point) .none kV7 dc7 pm7 an7 cd7 ct7), sl7⟩) (c7 : PySem.W.codeIn K cd7 "_write_point" = true) (k7 : PySem.W.keepIn K (.ref f7) = true)
    (a8 : PySem.W.nsIn K mainGlobals "_may_follow" = some (some (.ref f8)))
    (l8 : K.lookup f8 = some ⟨oc8, od8, .func (PySem.W.fnOf "_may_follow" "_may_follow" (defArgs s_may_follow) (defBody s_may_follow) (defScope s_may_follow) .none kV8 dc8 pm8 an8 cd8 ct8), sl8⟩) (c8 : PySem.W.codeIn K cd8 "_may_follow" = true) (k8 : PySem.W.keepIn K (.ref f8) = true)
    (a9 : PySem.W.nsIn K mainGlobals "_law_is_integer" = some (some (.ref f9)))
    (l9 : K.lookup f9 = some ⟨oc9, od9, .func (PySem.W.fnOf "_law_is_integer" "_law_is_integer" (defArgs s_law_is_integer) (defBody s_law_is_integer) (defScope s_law_is_integer) .none kV9 dc9 pm9 an9 cd9 ct9), sl9⟩) (c9 : PySem.W.codeIn K cd9 "_law_is_integer" = true) (k9 : PySem.W.keepIn K (.ref f9) = true)
    (a10 : PySem.W.nsIn K mainGlobals "_law_refill" = some (some (.ref f10)))
    (l10 : K.lookup f10 = some ⟨oc10, od10, .func (PySem.W.fnOf "_law_refill" "_law_refill" (defArgs s_law_refill) (defBody s_law_refill) (defScope s_law_refill) .none kV10 dc10 pm10 an10 cd10 ct10), sl10⟩) (c10 : PySem.W.codeIn K cd10 "_law_refill" = true) (k10 : PySem.W.keepIn K (.ref f10) = true)
    (a11 : PySem.W.nsIn K mainGlobals "_law_draw" = some (some (.ref f11)))
    (l11 : K.lookup f11 = some ⟨oc11, od11, .func (PySem.W.fnOf "_law_draw" "_law_draw" (defArgs s_law_draw) (defBody s_law_draw) (defScope s_law_draw) .none kV11 dc11 pm11 an11 cd11 ct11), sl11⟩) (c11 : PySem.W.codeIn K cd11 "_law_draw" = true) (k11 : PySem.W.keepIn K (.ref f11) = true)
    (a12 : PySem.W.nsIn K mainGlobals "_law_wide" = some (some (.ref f12)))
    (l12 : K.lookup f12 = some ⟨oc12, od12, .func (PySem.W.fnOf "_law_wide" "_law_wide" (defArgs s_law_wide) (defBody s_law_wide) (defScope s_law_wide) .none kV12 dc12 pm12 an12 cd12 ct12), sl12⟩) (c12 : PySem.W.codeIn K cd12 "_law_wide" = true) (k12 : PySem.W.keepIn K (.ref f12) = true)
    (a13 : PySem.W.nsIn K mainGlobals "_law_junk" = some (some (.ref f13)))
    (l13 : K.lookup f13 = some ⟨oc13, od13, .func (PySem.W.fnOf "_law_junk" "_law_junk" (defArgs s_law_junk) (defBody s_law_junk) (defScope s_law_junk) .none kV13 dc13 pm13 an13 cd13 ct13), sl13⟩) (c13 : PySem.W.codeIn K cd13 "_law_junk" = true) (k13 : PySem.W.keepIn K (.ref f13) = true)
    (a14 : PySem.W.nsIn K mainGlobals "_law_is_bytes" = some (some (.ref f14)))
    (l14 : K.lookup f14 = some ⟨oc14, od14, .func (PySem.W.fnOf "_law_is_bytes" "_law_is_bytes" (defArgs s_law_is_bytes) (defBody s_law_is_bytes) (defScope s_law_is_bytes) .none kV14 dc14 pm14 an14 cd14 ct14), sl14⟩) (c14 : PySem.W.codeIn K cd14 "_law_is_bytes" = true) (k14 : PySem.W.keepIn K (.ref f14) = true)
    (a15 : PySem.W.nsIn K mainGlobals "_law_number_bytes" = some (some (.ref f15)))
    (l15 : K.lookup f15 = some ⟨oc15, od15, .func (PySem.W.fnOf "_law_number_bytes" "_law_number_bytes" (defArgs s_law_number_bytes) (defBody s_law_number_bytes) (defScope s_law_number_bytes) .none kV15 dc15 pm15 an15 cd15 ct15), sl15⟩) (c15 : PySem.W.codeIn K cd15 "_law_number_bytes" = true) (k15 : PySem.W.keepIn K (.ref f15) = true)
    (a16 : PySem.W.nsIn K mainGlobals "_law_points" = some (some (.ref f16)))
    (l16 : K.lookup f16 = some ⟨oc16, od16, .func (PySem.W.fnOf "_law_points" "_law_points" (defArgs s_law_points) (defBody s_law_points) (defScope s_law_points) .none kV16 dc16 pm16 an16 cd16 ct16), sl16⟩) (c16 : PySem.W.codeIn K cd16 "_law_points" = true) (k16 : PySem.W.keepIn K (.ref f16) = true)
    (a17 : PySem.W.nsIn K mainGlobals "_law_body" = some (some (.ref f17)))
    (l17 : K.lookup f17 = some ⟨oc17, od17, .func (PySem.W.fnOf "_law_body" "_law_body" (defArgs s_law_body) (defBody s_law_body) (defScope s_law_body) .none kV17 dc17 pm17 an17 cd17 ct17), sl17⟩) (c17 : PySem.W.codeIn K cd17 "_law_body" = true) (k17 : PySem.W.keepIn K (.ref f17) = true)
    (a18 : PySem.W.nsIn K mainGlobals "_law_ascend" = some (some (.ref f18)))
    (l18 : K.lookup f18 = some ⟨oc18, od18, .func (PySem.W.fnOf "_law_ascend" "_law_ascend" (defArgs s_law_ascend) (defBody s_law_ascend) (defScope s_law_ascend) .none kV18 dc18 pm18 an18 cd18 ct18), sl18⟩) (c18 : PySem.W.codeIn K cd18 "_law_ascend" = true) (k18 : PySem.W.keepIn K (.ref f18) = true)
    (a19 : PySem.W.nsIn K mainGlobals "_law_same" = some (some (.ref f19)))
    (l19 : K.lookup f19 = some ⟨oc19, od19, .func (PySem.W.fnOf "_law_same" "_law_same" (defArgs s_law_same) (defBody s_law_same) (defScope s_law_same) .none kV19 dc19 pm19 an19 cd19 ct19), sl19⟩) (c19 : PySem.W.codeIn K cd19 "_law_same" = true) (k19 : PySem.W.keepIn K (.ref f19) = true)
    (a20 : PySem.W.nsIn K mainGlobals "law" = some (some (.ref f20)))
    (l20 : K.lookup f20 = some ⟨oc20, od20, .func (PySem.W.fnOf "law" "law" (defArgs s_law) (defBody s_law) (defScope s_law) .none kV20 dc20 pm20 an20 cd20 ct20), sl20⟩) (c20 : PySem.W.codeIn K cd20 "law" = true) (k20 : PySem.W.keepIn K (.ref f20) = true)
    (z_range : PySem.W.nsIn K mainGlobals "range" = some none)
    (z_len : PySem.W.nsIn K mainGlobals "len" = some none)
    (z_all : PySem.W.nsIn K mainGlobals "all" = some none)
    (z_isinstance : PySem.W.nsIn K mainGlobals "isinstance" = some none)
    (z_int : PySem.W.nsIn K mainGlobals "int" = some none)
    (z_bool : PySem.W.nsIn K mainGlobals "bool" = some none)
    (z_list : PySem.W.nsIn K mainGlobals "list" = some none)
    (z_tuple : PySem.W.nsIn K mainGlobals "tuple" = some none)
    (q_POINT_LENGTH : PySem.W.nsIn K mainGlobals "_POINT_LENGTH" = some (some u_POINT_LENGTH)) (r_POINT_LENGTH : RelV (.int (18)) u_POINT_LENGTH)
    (q_NO_SAMPLE : PySem.W.nsIn K mainGlobals "_NO_SAMPLE" = some (some u_NO_SAMPLE)) (r_NO_SAMPLE : RelV (.int (18446744073709551615)) u_NO_SAMPLE)
    : ∃ fd : FuncData, (∀ (s : Shared) (v : Value), BindsTo s fd ⟨[v], []⟩ [("script", v)]) ∧ ∀ base : Heap, K.In base → base.Ns mainGlobals mg → FnOk l.prog w K mg base CX0 5 fa fd ["script"] (sp_law K) := by
  have e := hfa.symm.trans (PySem.W.mg_of X G a20)
  cases e
  have F1 := fun_mk (st := s_big_bytes) l1 c1 k1
  have b1 := F1.binds (ps := ["number", "count"]) fun _ _ _ _ _ _ us hl => match us, hl with | [_, _], _ => rfl
  have F2 := fun_mk (st := s_big_number) l2 c2 k2
  have b2 := F2.binds (ps := ["data", "place", "count"]) fun _ _ _ _ _ _ us hl => match us, hl with | [_, _, _], _ => rfl
  have F3 := fun_mk (st := s_read_seektable) l3 c3 k3
  have b3 := F3.binds (ps := ["data", "start", "stop"]) fun _ _ _ _ _ _ us hl => match us, hl with | [_, _, _], _ => rfl
  have F4 := fun_mk (st := s_write_seektable) l4 c4 k4
  have b4 := F4.binds (ps := ["points"]) fun _ _ _ _ _ _ us hl => match us, hl with | [_], _ => rfl
  have F5 := fun_mk (st := s_is_ordered) l5 c5 k5
  have b5 := F5.binds (ps := ["points"]) fun _ _ _ _ _ _ us hl => match us, hl with | [_], _ => rfl
  have F6 := fun_mk (st := s_read_point) l6 c6 k6
  have b6 := F6.binds (ps := ["data", "place"]) fun _ _ _ _ _ _ us hl => match us, hl with | [_, _], _ => rfl
  have F7 := fun_mk (st := s_write_point) l7 c7 k7
  have b7 := F7.binds (ps := ["point"]) fun _ _ _ _ _ _ us hl => match us, hl with | [_], _ => rfl
  have F8 := fun_mk (st := s_may_follow) l8 c8 k8
  have b8 := F8.binds (ps := ["before", "point"]) fun _ _ _ _ _ _ us hl => match us, hl with | [_, _], _ => rfl
  have F9 := fun_mk (st := s_law_is_integer) l9 c9 k9
  have b9 := F9.binds (ps := ["actual"]) fun _ _ _ _ _ _ us hl => match us, hl with | [_], _ => rfl
  have F10 := fun_mk (st := s_law_refill) l10 c10 k10
  have b10 := F10.binds (ps := ["script", "k"]) fun _ _ _ _ _ _ us hl => match us, hl with | [_, _], _ => rfl
  have F11 := fun_mk (st := s_law_draw) l11 c11 k11
  have b11 := F11.binds (ps := ["state", "script", "size"]) fun _ _ _ _ _ _ us hl => match us, hl with | [_, _, _], _ => rfl
  have F12 := fun_mk (st := s_law_wide) l12 c12 k12
  have b12 := F12.binds (ps := ["state", "script", "size"]) fun _ _ _ _ _ _ us hl => match us, hl with | [_, _, _], _ => rfl
  have F13 := fun_mk (st := s_law_junk) l13 c13 k13
  have b13 := F13.binds (ps := ["state", "script", "count"]) fun _ _ _ _ _ _ us hl => match us, hl with | [_, _, _], _ => rfl
  have F14 := fun_mk (st := s_law_is_bytes) l14 c14 k14
  have b14 := F14.binds (ps := ["actual"]) fun _ _ _ _ _ _ us hl => match us, hl with | [_], _ => rfl
  have F15 := fun_mk (st := s_law_number_bytes) l15 c15 k15
  have b15 := F15.binds (ps := ["number", "count"]) fun _ _ _ _ _ _ us hl => match us, hl with | [_, _], _ => rfl
  have F16 := fun_mk (st := s_law_points) l16 c16 k16
  have b16 := F16.binds (ps := ["state", "script"]) fun _ _ _ _ _ _ us hl => match us, hl with | [_, _], _ => rfl
  have F17 := fun_mk (st := s_law_body) l17 c17 k17
  have b17 := F17.binds (ps := ["points"]) fun _ _ _ _ _ _ us hl => match us, hl with | [_], _ => rfl
  have F18 := fun_mk (st := s_law_ascend) l18 c18 k18
  have b18 := F18.binds (ps := ["points"]) fun _ _ _ _ _ _ us hl => match us, hl with | [_], _ => rfl
  have F19 := fun_mk (st := s_law_same) l19 c19 k19
  have b19 := F19.binds (ps := ["actual", "points"]) fun _ _ _ _ _ _ us hl => match us, hl with | [_, _], _ => rfl
  have F20 := fun_mk (st := s_law) l20 c20 k20
  have b20 := F20.binds (ps := ["script"]) fun _ _ _ _ _ _ us hl => match us, hl with | [_], _ => rfl
  let T : TX K mg := ⟨f1, _, F1, b1, (PySem.W.mg_of X G a1), f2, _, F2, b2, (PySem.W.mg_of X G a2), f3, _, F3, b3, (PySem.W.mg_of X G a3), f4, _, F4, b4, (PySem.W.mg_of X G a4), f5, _, F5, b5, (PySem.W.mg_of X G a5), f6, _, F6, b6, (PySem.W.mg_of X G a6), f7, _, F7, b7, (PySem.W.mg_of X G a7), f8, _, F8, b8, (PySem.W.mg_of X G a8), f9, _, F9, b9, (PySem.W.mg_of X G a9), f10, _, F10, b10, (PySem.W.mg_of X G a10), f11, _, F11, b11, (PySem.W.mg_of X G a11), f12, _, F12, b12, (PySem.W.mg_of X G a12), f13, _, F13, b13, (PySem.W.mg_of X G a13), f14, _, F14, b14, (PySem.W.mg_of X G a14), f15, _, F15, b15, (PySem.W.mg_of X G a15), f16, _, F16, b16, (PySem.W.mg_of X G a16), f17, _, F17, b17, (PySem.W.mg_of X G a17), f18, _, F18, b18, (PySem.W.mg_of X G a18), f19, _, F19, b19, (PySem.W.mg_of X G a19), fa, _, F20, b20, (PySem.W.mg_of X G a20), (PySem.W.mg_none_of X G z_range), (PySem.W.mg_none_of X G z_len), (PySem.W.mg_none_of X G z_all), (PySem.W.mg_none_of X G z_isinstance), (PySem.W.mg_none_of X G z_int), (PySem.W.mg_none_of X G z_bool), (PySem.W.mg_none_of X G z_list), (PySem.W.mg_none_of X G z_tuple), u_POINT_LENGTH, (PySem.W.mg_of X G q_POINT_LENGTH), r_POINT_LENGTH, u_NO_SAMPLE, (PySem.W.mg_of X G q_NO_SAMPLE), r_NO_SAMPLE⟩
  exact ⟨_, fun s v => .of_eq rfl, fun base _ _ => ok_law T⟩
end K45
open PySem PySem.W PyProof.Rows
set_option maxRecDepth 100000 in
set_option maxHeartbeats 0 in
theorem PySem.Challenge.cw_monochord_k45_seek_table_holds : PySem.Challenge.rw_monochord_k45_seek_table.Holds := by
  w_on; o_law; k_head; (case hw => w_witness2)
  k_fill
  refine L2.walk_of (l := PySem.Challenge.rw_monochord_k45_seek_table) (n := 63) (k := 5) (x := "script") (CX := fun _ => L2.CX0) (sp := fun w => K45.sp_law _) rfl (by decide) rfl ⟨rfl, by decide, by decide⟩ (fun w h Y => PySem.W.kIn_of Y) ?F (fun _ _ a ns hl _ hS => ⟨a, ns, rfl, hS, hl, fun _ => rfl⟩) (fun _ _ _ _ _ h => h)
  case F =>
    intro w mg fa h KX G hmg
    refine' K45.all_mk KX G hmg ?a1 ?l1 ?c1 ?k1 ?a2 ?l2 ?c2 ?k2 ?a3 ?l3 ?c3 ?k3 ?a4 ?l4 ?c4 ?k4 ?a5 ?l5 ?c5 ?k5 ?a6 ?l6 ?c6 ?k6 ?a7 ?l7 ?c7 ?k7 ?a8 ?l8 ?c8 ?k8 ?a9 ?l9 ?c9 ?k9 ?a10 ?l10 ?c10 ?k10 ?a11 ?l11 ?c11 ?k11 ?a12 ?l12 ?c12 ?k12 ?a13 ?l13 ?c13 ?k13 ?a14 ?l14 ?c14 ?k14 ?a15 ?l15 ?c15 ?k15 ?a16 ?l16 ?c16 ?k16 ?a17 ?l17 ?c17 ?k17 ?a18 ?l18 ?c18 ?k18 ?a19 ?l19 ?c19 ?k19 ?a20 ?l20 ?c20 ?k20 ?z_range ?z_len ?z_all ?z_isinstance ?z_int ?z_bool ?z_list ?z_tuple ?q_POINT_LENGTH ?r_POINT_LENGTH ?q_NO_SAMPLE ?r_NO_SAMPLE
    (case a1 => k_is)
    (case l1 => k_is)
    (case c1 => k_is)
    (case k1 => k_is)
    (case a2 => k_is)
    (case l2 => k_is)
    (case c2 => k_is)
    (case k2 => k_is)
    (case a3 => k_is)
    (case l3 => k_is)
    (case c3 => k_is)
    (case k3 => k_is)
    (case a4 => k_is)
    (case l4 => k_is)
    (case c4 => k_is)
    (case k4 => k_is)
    (case a5 => k_is)
    (case l5 => k_is)
    (case c5 => k_is)
    (case k5 => k_is)
    (case a6 => k_is)
    (case l6 => k_is)
    (case c6 => k_is)
    (case k6 => k_is)
    (case a7 => k_is)
    (case l7 => k_is)
    (case c7 => k_is)
    (case k7 => k_is)
    (case a8 => k_is)
    (case l8 => k_is)
    (case c8 => k_is)
    (case k8 => k_is)
    (case a9 => k_is)
    (case l9 => k_is)
    (case c9 => k_is)
    (case k9 => k_is)
    (case a10 => k_is)
    (case l10 => k_is)
    (case c10 => k_is)
    (case k10 => k_is)
    (case a11 => k_is)
    (case l11 => k_is)
    (case c11 => k_is)
    (case k11 => k_is)
    (case a12 => k_is)
    (case l12 => k_is)
    (case c12 => k_is)
    (case k12 => k_is)
    (case a13 => k_is)
    (case l13 => k_is)
    (case c13 => k_is)
    (case k13 => k_is)
    (case a14 => k_is)
    (case l14 => k_is)
    (case c14 => k_is)
    (case k14 => k_is)
    (case a15 => k_is)
    (case l15 => k_is)
    (case c15 => k_is)
    (case k15 => k_is)
    (case a16 => k_is)
    (case l16 => k_is)
    (case c16 => k_is)
    (case k16 => k_is)
    (case a17 => k_is)
    (case l17 => k_is)
    (case c17 => k_is)
    (case k17 => k_is)
    (case a18 => k_is)
    (case l18 => k_is)
    (case c18 => k_is)
    (case k18 => k_is)
    (case a19 => k_is)
    (case l19 => k_is)
    (case c19 => k_is)
    (case k19 => k_is)
    (case a20 => k_is)
    (case l20 => k_is)
    (case c20 => k_is)
    (case k20 => k_is)
    (case z_range => k_is)
    (case z_len => k_is)
    (case z_all => k_is)
    (case z_isinstance => k_is)
    (case z_int => k_is)
    (case z_bool => k_is)
    (case z_list => k_is)
    (case z_tuple => k_is)
    (case q_POINT_LENGTH => k_is)
    (case r_POINT_LENGTH => first | rfl | exact ⟨_, rfl⟩)
    (case q_NO_SAMPLE => k_is)
    (case r_NO_SAMPLE => first | rfl | exact ⟨_, rfl⟩)
