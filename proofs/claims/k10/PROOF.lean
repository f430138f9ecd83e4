import PyProof.Rows.All
import Wide.All
import OpenK.AllK
import Wide.FinOn
import HandS.ForMost
import HandS.Steps
import HandS.Evl
import HandS.IsInst
import HandS.Defaults
import HandS.Wide
import HandS.WideBits
import HandS.ForExc
import PySem.Challenge.RW_monochord_k10_coded_numbers
set_option Elab.async false
set_option linter.all false
set_option maxRecDepth 100000
set_option maxHeartbeats 4000000
namespace K10
open PySem PySem.Spec PyProof.Rows L2 Evl
def topS (i : Nat) : Stmt := PySem.Challenge.pw_monochord_k10_coded_numbers.main.body.getD i (.Pass ⟨0, 0, 0, 0⟩)
abbrev s_write_number : Stmt := topS 6
theorem sc_write_number : FnScope ["number", "count", "data", "at"] ["number"] (defScope s_write_number) := ⟨rfl, rfl, rfl, by decide +kernel, rfl, by decide +kernel, by decide +kernel⟩
abbrev s_read_number : Stmt := topS 7
theorem sc_read_number : FnScope ["reader", "start"] ["reader"] (defScope s_read_number) := ⟨rfl, rfl, rfl, by decide +kernel, rfl, by decide +kernel, by decide +kernel⟩
abbrev s_number_ahead : Stmt := topS 8
theorem sc_number_ahead : FnScope ["reader", "place", "first", "count", "number", "_"] ["reader"] (defScope s_number_ahead) := ⟨rfl, rfl, rfl, by decide +kernel, rfl, by decide +kernel, by decide +kernel⟩
abbrev s_further_bits : Stmt := topS 9
theorem sc_further_bits : FnScope ["reader", "place", "further"] ["reader"] (defScope s_further_bits) := ⟨rfl, rfl, rfl, by decide +kernel, rfl, by decide +kernel, by decide +kernel⟩
abbrev s_bound : Stmt := topS 10
theorem sc_bound : FnScope ["count"] ["count"] (defScope s_bound) := ⟨rfl, rfl, rfl, by decide +kernel, rfl, by decide +kernel, by decide +kernel⟩
abbrev s_least_first : Stmt := topS 11
theorem sc_least_first : FnScope ["count"] ["count"] (defScope s_least_first) := ⟨rfl, rfl, rfl, by decide +kernel, rfl, by decide +kernel, by decide +kernel⟩
abbrev s_count_told : Stmt := topS 12
theorem sc_count_told : FnScope ["first", "count"] ["first"] (defScope s_count_told) := ⟨rfl, rfl, rfl, by decide +kernel, rfl, by decide +kernel, by decide +kernel⟩
abbrev s_BitReader_init : Stmt := inClass (topS 14) 0
theorem sc_BitReader_init : FnScope ["self", "data", "at"] ["self", "data", "at"] (defScope s_BitReader_init) := ⟨rfl, rfl, rfl, by decide +kernel, rfl, by decide +kernel, by decide +kernel⟩
abbrev s_BitReader_read : Stmt := inClass (topS 14) 1
theorem sc_BitReader_read : FnScope ["self", "width", "data", "start", "stop", "last", "value", "byte"] ["self", "width"] (defScope s_BitReader_read) := ⟨rfl, rfl, rfl, by decide +kernel, rfl, by decide +kernel, by decide +kernel⟩
abbrev s_BitReader_move_to : Stmt := inClass (topS 14) 8
theorem sc_BitReader_move_to : FnScope ["self", "bit_place"] ["self", "bit_place"] (defScope s_BitReader_move_to) := ⟨rfl, rfl, rfl, by decide +kernel, rfl, by decide +kernel, by decide +kernel⟩
abbrev s_BitReader_byte_place : Stmt := inClass (topS 14) 9
theorem sc_BitReader_byte_place : FnScope ["self"] ["self"] (defScope s_BitReader_byte_place) := ⟨rfl, rfl, rfl, by decide +kernel, rfl, by decide +kernel, by decide +kernel⟩
abbrev s_BitReader_bit_place : Stmt := inClass (topS 14) 10
theorem sc_BitReader_bit_place : FnScope ["self"] ["self"] (defScope s_BitReader_bit_place) := ⟨rfl, rfl, rfl, by decide +kernel, rfl, by decide +kernel, by decide +kernel⟩
abbrev s_law_draw : Stmt := topS 16
theorem sc_law_draw : FnScope ["cell", "many", "bound", "numbers", "k", "seed", "mixed"] ["cell", "many", "bound"] (defScope s_law_draw) := ⟨rfl, rfl, rfl, by decide +kernel, rfl, by decide +kernel, by decide +kernel⟩
abbrev s_law_is_integer : Stmt := topS 17
theorem sc_law_is_integer : FnScope ["actual"] ["actual"] (defScope s_law_is_integer) := ⟨rfl, rfl, rfl, by decide +kernel, rfl, by decide +kernel, by decide +kernel⟩
abbrev s_law_same : Stmt := topS 18
theorem sc_law_same : FnScope ["actual", "expected", "k"] ["actual", "expected"] (defScope s_law_same) := ⟨rfl, rfl, rfl, by decide +kernel, rfl, by decide +kernel, by decide +kernel⟩
abbrev s_law_number : Stmt := topS 19
theorem sc_law_number : FnScope ["cell", "numbers", "value"] ["cell"] (defScope s_law_number) := ⟨rfl, rfl, rfl, by decide +kernel, rfl, by decide +kernel, by decide +kernel⟩
abbrev s_law_form : Stmt := topS 20
theorem sc_law_form : FnScope ["number", "limits", "heads", "size", "k", "rest"] ["number"] (defScope s_law_form) := ⟨rfl, rfl, rfl, by decide +kernel, rfl, by decide +kernel, by decide +kernel⟩
abbrev s_law : Stmt := topS 21
theorem sc_law : FnScope ["script", "data", "numbers", "places", "cell", "number", "form", "front", "reader", "k", "told"] ["script"] (defScope s_law) := ⟨rfl, rfl, rfl, by decide +kernel, rfl, by decide +kernel, by decide +kernel⟩
theorem hu64 {A : Around} {k : Nat} (hr : Room k A) : A.units + 64 < cLine := hr.units
/-! ### short words for readings -/
theorem ret_eq {v w : V} {H H' : Hp} {Q : VK} (k : RetV v H Q) (ex : Ex H H') (e : w = v) : Q w H' := e ▸ k H' ex
/-- isinstance(x, T), T a built-in class -/
theorem ev_isi {K : PySem.W.Frag} {σ : L2.St} {H : Hp} {ta : TE} {x : V} {t : String} {T : String} {b : Bool} (ha : Ev ta σ H x) (ht : ∀ H1, Ex H H1 → TyX K H1 x (.type t)) (hk : kitB t T = some b) :
    Ev (tCB (rIsi K) (tCons ta (tCons (tC (.ty T)) tNil))) σ H (.bl b) :=
  ev_cb (ea_cons ha (ea_cons ev_c ea_nil)) fun H1 e Q q => ⟨x, .ty T, _, _, b, rfl, .ty T, ht H1 e, kit_ty hk, q H1 (Ex.refl H1)⟩
theorem isi_int {K : PySem.W.Frag} {H : Hp} {i : Int} : ∀ H1, Ex H H1 → TyX K H1 (V.int i) (.type "int") := fun _ _ => .base (.int _)
theorem isi_bl {K : PySem.W.Frag} {H : Hp} {b : Bool} : ∀ H1, Ex H H1 → TyX K H1 (V.bl b) (.type "bool") := fun _ _ => .base (.bl _)
theorem isi_non {K : PySem.W.Frag} {H : Hp} : ∀ H1, Ex H H1 → TyX K H1 V.non (.type "NoneType") := fun _ _ => .base .non
theorem isi_lst {K : PySem.W.Frag} {H : Hp} {a : Addr} {xs : List V} (h : H a = some (.lst xs)) : ∀ H1, Ex H H1 → TyX K H1 (V.ref a) (.type "list") := fun _ e => .base (.lst (e _ _ h))
theorem isi_tup {K : PySem.W.Frag} {H : Hp} {a : Addr} {xs : List V} (h : H a = some (.tup xs)) : ∀ H1, Ex H H1 → TyX K H1 (V.ref a) (.type "tuple") := fun _ e => .base (.tup (e _ _ h))
theorem kit_ii : kitB "int" "int" = some true := by decide +kernel
theorem kit_ib : kitB "int" "bool" = some false := by decide +kernel
theorem kit_bb : kitB "bool" "bool" = some true := by decide +kernel
theorem kit_bi : kitB "bool" "int" = some true := by decide +kernel
theorem kit_ll : kitB "list" "list" = some true := by decide +kernel
theorem kit_tt : kitB "tuple" "tuple" = some true := by decide +kernel
theorem ev_isiI {K : PySem.W.Frag} {σ : L2.St} {H : Hp} {ta : TE} {i : Int} (ha : Ev ta σ H (.int i)) : Ev (tCB (rIsi K) (tCons ta (tCons (tC (.ty "int")) tNil))) σ H (.bl true) := ev_isi ha isi_int kit_ii
theorem ev_isiB {K : PySem.W.Frag} {σ : L2.St} {H : Hp} {ta : TE} {i : Int} (ha : Ev ta σ H (.int i)) : Ev (tCB (rIsi K) (tCons ta (tCons (tC (.ty "bool")) tNil))) σ H (.bl false) := ev_isi ha isi_int kit_ib
theorem ev_isiL {K : PySem.W.Frag} {σ : L2.St} {H : Hp} {ta : TE} {a : Addr} {xs : List V} (ha : Ev ta σ H (.ref a)) (h : H a = some (.lst xs)) : Ev (tCB (rIsi K) (tCons ta (tCons (tC (.ty "list")) tNil))) σ H (.bl true) := ev_isi ha (isi_lst h) kit_ll
theorem ev_isiBB {K : PySem.W.Frag} {σ : L2.St} {H : Hp} {ta : TE} {b : Bool} (ha : Ev ta σ H (.bl b)) : Ev (tCB (rIsi K) (tCons ta (tCons (tC (.ty "bool")) tNil))) σ H (.bl true) := ev_isi ha isi_bl kit_bb
theorem ev_chain {σ : L2.St} {H : Hp} {ta tb tc : TE} {g g' : Int → Int → Bool} {a b c : Int} (ha : Ev ta σ H (.int a)) (hb : Ev tb σ H (.int b)) (hc : Ev tc σ H (.int c)) :
    Ev (tChain (rI0 fun i j => .bl (g i j)) (rI0 fun i j => .bl (g' i j)) ta tb tc) σ H (.bl (g a b && g' b c)) := fun H1 e Q q =>
  ha H1 e _ fun H2 e2 => hb H2 (e.trans e2) _ fun H3 e3 => ⟨a, b, rfl, rfl, g a b, rfl, by
    cases hg : g a b with
    | true =>
      rw [if_pos rfl]
      rw [hg, Bool.true_and] at q
      exact hc H3 ((e.trans e2).trans e3) _ fun H4 e4 => ⟨b, c, rfl, rfl, q H4 ((e2.trans e3).trans e4)⟩
    | false =>
      rw [if_neg (by decide)]
      rw [hg, Bool.false_and] at q
      exact q H3 (e2.trans e3)⟩
theorem ev_isN {σ : L2.St} {H : Hp} {ta : TE} {x : V} (ha : Ev ta σ H x) : Ev (tOp rIsN ta (tC .non)) σ H (.bl (decide (x = .non))) := fun H1 e Q q => ha H1 e _ fun H2 e2 => ⟨rfl, q H2 e2⟩
theorem ev_notN {σ : L2.St} {H : Hp} {ta : TE} {x : V} (ha : Ev ta σ H x) : Ev (tOp rNotN ta (tC .non)) σ H (.bl (!decide (x = .non))) := fun H1 e Q q => ha H1 e _ fun H2 e2 => ⟨rfl, q H2 e2⟩
theorem ev_min2 {σ : L2.St} {H : Hp} {ta tb : TE} {i j : Int} (ha : Ev ta σ H (.int i)) (hb : Ev tb σ H (.int j)) :
    Ev (tCB (fun xs H Q => ∃ i j, xs = [.int i, .int j] ∧ Q (.int (if j < i then j else i)) H) (tCons ta (tCons tb tNil))) σ H (.int (if j < i then j else i)) :=
  ev_cb (ea_cons ha (ea_cons hb ea_nil)) fun H1 _ _ q => ⟨i, j, rfl, q H1 (Ex.refl H1)⟩
theorem ev_negI {σ : L2.St} {H : Hp} {ta : TE} {i : Int} (ha : Ev ta σ H (.int i)) : Ev (tUn (rU fun i => .int (-i)) ta) σ H (.int (-i)) := ev_un ha ru_neg
theorem ev_I0 {σ : L2.St} {H : Hp} {ta tb : TE} {g : Int → Int → V} {i j : Int} (ha : Ev ta σ H (.int i)) (hb : Ev tb σ H (.int j)) : Ev (tOp (rI0 g) ta tb) σ H (g i j) := ev_op ha hb rv_I0
theorem ev_I {σ : L2.St} {H : Hp} {ta tb : TE} {C : Int → Int → Prop} {g : Int → Int → V} {i j : Int} (ha : Ev ta σ H (.int i)) (hb : Ev tb σ H (.int j)) (hc : C i j) : Ev (tOp (rI C g) ta tb) σ H (g i j) := ev_op ha hb (rv_I hc)
theorem ev_eq {σ : L2.St} {H : Hp} {ta tb : TE} {x y : V} (ha : Ev ta σ H x) (hb : Ev tb σ H y) (hs : scal x y = true) : Ev (tOp rEq ta tb) σ H (.bl (decide (x = y))) := ev_op ha hb (rv_eq hs)
theorem ev_ne {σ : L2.St} {H : Hp} {ta tb : TE} {x y : V} (ha : Ev ta σ H x) (hb : Ev tb σ H y) (hs : scal x y = true) : Ev (tOp rNe ta tb) σ H (.bl (!decide (x = y))) := ev_op ha hb (rv_ne hs)
theorem et_B' {σ : L2.St} {H : Hp} {te : TE} {x : V} {b : Bool} (h : Ev te σ H x) (e : x = .bl b) : EvT (tB te) σ H b := et_B (e ▸ h)
theorem dec_lt {a b : Nat} : decide ((a : Int) < (b : Int)) = decide (a < b) := by
  by_cases h : a < b
  · rw [decide_eq_true h, decide_eq_true (by omega)]
  · rw [decide_eq_false h, decide_eq_false (by omega)]
theorem int_at {ns : List Int} {i : Nat} {x : V} (hx : (ns.map V.int)[i]? = some x) : ∃ n, ns[i]? = some n ∧ i < ns.length ∧ x = V.int n := by
  rw [List.getElem?_map] at hx
  cases en : ns[i]? with
  | none => rw [en] at hx; cases hx
  | some n => rw [en] at hx; exact ⟨n, rfl, (List.getElem?_eq_some_iff.mp en).1, (Option.some.inj hx).symm⟩
theorem at_int {ns : List Int} {i : Nat} {n : Int} (h : ns[i]? = some n) : (ns.map V.int)[i]? = some (V.int n) := by rw [List.getElem?_map, h]; rfl
local macro_rules | `(tactic| walk_at "side") => `(tactic| first
  | omega | (show CMul _ _; unfold CMul; omega) | (show CDiv _ _; unfold CDiv; omega) | (show CPow _ _; unfold CPow; omega) | (show (_ : Int) < _; omega) | (show (_ : Int) ≤ _; omega) | decide)
local macro_rules | `(tactic| walk_at "ev") => `(tactic| first
  | exact ev_var rfl
  | exact ev_c
  | (refine' ev_I0 ?h1 ?h2; (case h1 => walk_at "ev"); (case h2 => walk_at "ev"))
  | (refine' ev_negI ?h1; (case h1 => walk_at "ev"))
  | (refine' ev_I ?h1 ?h2 ?hc; (case h1 => walk_at "ev"); (case h2 => walk_at "ev"); (case hc => walk_at "side"))
  | (refine' ev_eq ?h1 ?h2 ?hc; (case h1 => walk_at "ev"); (case h2 => walk_at "ev"); (case hc => rfl))
  | (refine' ev_ne ?h1 ?h2 ?hc; (case h1 => walk_at "ev"); (case h2 => walk_at "ev"); (case hc => rfl))
  | (refine' ev_max2 ?h1 ?h2; (case h1 => walk_at "ev"); (case h2 => walk_at "ev"))
  | (refine' ev_min2 ?h1 ?h2; (case h1 => walk_at "ev"); (case h2 => walk_at "ev"))
  | (refine' ev_chain ?h1 ?h2 ?h3; (case h1 => walk_at "ev"); (case h2 => walk_at "ev"); (case h3 => walk_at "ev"))
  | (refine' ev_isN ?h1; (case h1 => walk_at "ev"))
  | (refine' ev_notN ?h1; (case h1 => walk_at "ev"))
  | (refine' ev_isiI ?h1; (case h1 => walk_at "ev"))
  | (refine' ev_isiB ?h1; (case h1 => walk_at "ev"))
  | (refine' ev_isiBB ?h1; (case h1 => walk_at "ev"))
  | (refine' ev_andV ?h1 (fun _ => ?h2); (case h1 => walk_at "ev"); (case h2 => walk_at "ev"))
  | (refine' ev_orV ?h1 (fun _ => ?h2); (case h1 => walk_at "ev"); (case h2 => walk_at "ev"))
  | (refine' ev_notV ?h1; (case h1 => walk_at "ev"))
  | walk_at "evmore")
local macro_rules | `(tactic| walk_at "et") => `(tactic| first
  | (refine' et_test ?h1; (case h1 => walk_at "ev"))
  | (refine' et_B ?h1; (case h1 => walk_at "ev"))
  | (refine' et_not ?h1; (case h1 => walk_at "et"))
  | (refine' et_and ?h1 (fun _ => ?h2); (case h1 => walk_at "et"); (case h2 => walk_at "et"))
  | (refine' et_or ?h1 (fun _ => ?h2); (case h1 => walk_at "et"); (case h2 => walk_at "et")))
local macro_rules | `(tactic| walk_at "ea") => `(tactic| first
  | exact ea_nil
  | (refine' ea_cons ?h1 ?h2; (case h1 => walk_at "ev"); (case h2 => walk_at "ea")))
local macro_rules | `(tactic| walk_at "when") => `(tactic| (refine' q_when ?h ?h1 ?h2; (case h => walk_at "et")))
local macro_rules | `(tactic| walk_at "whenS") => `(tactic| (refine' s_when ?h ?h1 ?h2; (case h => walk_at "et")))
local macro_rules | `(tactic| walk_at "if") => `(tactic| (refine' q_if ?h ?h1 ?h2; (case h => walk_at "et")))
local macro_rules | `(tactic| walk_at "ifS") => `(tactic| (refine' s_if ?h ?h1 ?h2; (case h => walk_at "et")))
local macro_rules | `(tactic| walk_at "ret") => `(tactic| (refine' s_ret ?h ?h1; (case h => walk_at "ev")))
local macro_rules | `(tactic| walk_at "asg") => `(tactic| (refine' q_asg ?h ?h1; (case h => walk_at "ev")))
local macro_rules | `(tactic| walk_at "asgS") => `(tactic| (refine' s_asg ?h ?h1; (case h => walk_at "ev")))

/-! ### lists, existing or new -/
def EvR (te : TE) (σ : L2.St) (H : Hp) (xs : List V) : Prop := ∀ H1, Ex H H1 → ∀ Q : VK, (∀ p H2, Ex H1 H2 → H2 p = some (.lst xs) → Q (.ref p) H2) → te σ H1 Q
def EvS (K : PySem.W.Frag) (te : TE) (σ : L2.St) (H : Hp) (xs : List V) : Prop := ∀ H1, Ex H H1 → ∀ Q : VK, (∀ p H2, Ex H1 H2 → SqL K H2 p xs → Q (.ref p) H2) → te σ H1 Q
section
variable {K : PySem.W.Frag} {σ : L2.St} {H H' : Hp} {ta tb te : TE} {xs ys : List V} {a : Addr}
theorem EvL.r (h : EvL te σ H xs) : EvR te σ H xs := fun H1 e Q q => h H1 e Q fun p H2 _ e2 h2 => q p H2 e2 h2
theorem Ev.r (h : Ev te σ H (.ref a)) (hx : H a = some (.lst xs)) : EvR te σ H xs := fun H1 e Q q => h H1 e Q fun H2 e2 => q a H2 e2 (e2 _ _ (e _ _ hx))
theorem EvR.s (h : EvR te σ H xs) : EvS K te σ H xs := fun H1 e Q q => h H1 e Q fun p H2 e2 h2 => q p H2 e2 (sq_of h2)
theorem Ev.s (h : Ev te σ H (.ref a)) (hx : SqL K H a xs) : EvS K te σ H xs := fun H1 e Q q => h H1 e Q fun H2 e2 => q a H2 e2 (ex_l e2 (ex_l e hx))
theorem EvR.mono (e : Ex H H') (h : EvR te σ H xs) : EvR te σ H' xs := fun H1 a Q q => h H1 (e.trans a) Q q
theorem EvS.mono (e : Ex H H') (h : EvS K te σ H xs) : EvS K te σ H' xs := fun H1 a Q q => h H1 (e.trans a) Q q
theorem EvL.is (h : EvL te σ H xs) (e : xs = ys) : EvL te σ H ys := e ▸ h
theorem EvR.is (h : EvR te σ H xs) (e : xs = ys) : EvR te σ H ys := e ▸ h
theorem el_cat (ha : EvR ta σ H xs) (hb : EvR tb σ H ys) (hl : xs.length + ys.length ≤ 100000) : EvL (tOp rCat ta tb) σ H (xs ++ ys) := fun H1 e Q q =>
  ha H1 e _ fun p H2 e2 h2 => hb H2 (e.trans e2) _ fun r H3 e3 h3 => ⟨p, r, xs, ys, rfl, rfl, e3 _ _ h2, h3, sz_of hl, fun l hl => q l _ (fresh_back (e2.trans e3) hl) ((e2.trans e3).trans (Ex.new hl)) upd_same⟩
theorem el_rep {k : Int} (ha : EvR ta σ H xs) (hb : Ev tb σ H (.int k)) (hk : -(2 ^ 63) ≤ k ∧ k < 2 ^ 63) (hl : xs.length * k.toNat ≤ 100000) : EvL (tOp rRep ta tb) σ H (List.replicate k.toNat xs).flatten := fun H1 e Q q =>
  ha H1 e _ fun p H2 e2 h2 => hb H2 (e.trans e2) _ fun H3 e3 => ⟨p, k, xs, rfl, rfl, e3 _ _ h2, hk.1, hk.2, sz_of hl, fun l hl => q l _ (fresh_back (e2.trans e3) hl) ((e2.trans e3).trans (Ex.new hl)) upd_same⟩
theorem rep_one {x : V} (n : Nat) : (List.replicate n [x]).flatten = List.replicate n x := by
  induction n with
  | zero => rfl
  | succ n ih => rw [List.replicate_succ, List.replicate_succ, List.flatten_cons, ih]; rfl
theorem el_of {te : TE} (h : EvS K te σ H xs) : EvL (tCB (rListS K) (tCons te tNil)) σ H xs := fun H1 e Q q =>
  h H1 e _ fun p H2 e2 h2 => ⟨p, xs, rfl, .inl h2, fun l hl => q l _ (fresh_back e2 hl) (e2.trans (Ex.new hl)) upd_same⟩
theorem ev_lenS (h : EvS K te σ H xs) : Ev (tCB (rLenS K) (tCons te tNil)) σ H (.int (xs.length : Int)) := fun H1 e Q q =>
  h H1 e _ fun p H2 e2 h2 => ⟨p, xs, rfl, .inl h2, q H2 e2⟩
theorem ev_sum {ns : List Int} (h : EvS K te σ H (ns.map V.int)) : Ev (tCB (rSum K) (tCons te tNil)) σ H (.int ns.sum) := fun H1 e Q q =>
  h H1 e _ fun p H2 e2 h2 => ⟨p, ns, rfl, h2, q H2 e2⟩
theorem dp_ints {K : PySem.W.Frag} {H : Hp} : ∀ ns : List Int, DpAll K H (ns.map V.int) (ns.map PyData.int)
  | [] => .nil
  | n :: r => .cons (.int n) (dp_ints r)
theorem eqv_ints : ∀ ns ms : List Int, PyData.eqvAll (ns.map PyData.int) (ms.map PyData.int) = decide (ns = ms)
  | [], [] => by simp [PyData.eqvAll]
  | [], _ :: _ => by simp [PyData.eqvAll]
  | _ :: _, [] => by simp [PyData.eqvAll]
  | n :: r, m :: t => by
    show (PyData.eqv (.int n) (.int m) && PyData.eqvAll (r.map PyData.int) (t.map PyData.int)) = _
    rw [eqv_ints r t]
    show ((n == m) && decide (r = t)) = _
    by_cases h1 : n = m <;> by_cases h2 : r = t <;> simp [h1, h2]
theorem canLay_ints : ∀ ns : List Int, PyData.canLayAll0 (ns.map PyData.int) = true
  | [] => by simp [PyData.canLayAll0]
  | n :: r => by
    show PyData.canLayAll0 (PyData.int n :: r.map PyData.int) = true
    rw [PyData.canLayAll0, canLay_ints r]
    simp [PyData.canLay0]
theorem depth_ints : ∀ ns : List Int, PyData.depthAll (ns.map PyData.int) ≤ 1
  | [] => by simp [PyData.depthAll]
  | n :: r => by
    show PyData.depthAll (PyData.int n :: r.map PyData.int) ≤ 1
    have := depth_ints r
    simp only [PyData.depthAll, PyData.depth]
    omega
theorem shaped_ints (ns : List Int) : SeqAt.shaped (.list (ns.map PyData.int)) = true := by
  unfold SeqAt.shaped
  have h1 := canLay_ints ns
  have h2 := depth_ints ns
  have h3 : PyData.depth (.list (ns.map PyData.int)) ≤ 64 := by
    rw [PyData.depth]
    omega
  rw [decide_eq_true h3, Bool.and_true]
  simpa only [PyData.canLay0] using h1
theorem ev_eqI {ns ms : List Int} (ha : EvS K ta σ H (ns.map V.int)) (hb : EvS K tb σ H (ms.map V.int)) : Ev (tOp (rEqD K) ta tb) σ H (.bl (decide (ns = ms))) := fun H1 e Q q =>
  ha H1 e _ fun p H2 e2 h2 => hb H2 (e.trans e2) _ fun r H3 e3 h3 => ⟨.list (ns.map PyData.int), .list (ms.map PyData.int), .lst (ex_l e3 h2) (dp_ints ns), .lst h3 (dp_ints ms), shaped_ints ns, shaped_ints ms, by
    show Q (.bl (PyData.eqvAll (ns.map PyData.int) (ms.map PyData.int))) H3
    rw [eqv_ints]
    exact q H3 (e2.trans e3)⟩
theorem ev_neI {ns ms : List Int} (ha : EvS K ta σ H (ns.map V.int)) (hb : EvS K tb σ H (ms.map V.int)) : Ev (tOp (rNeD K) ta tb) σ H (.bl (!decide (ns = ms))) := fun H1 e Q q =>
  ha H1 e _ fun p H2 e2 h2 => hb H2 (e.trans e2) _ fun r H3 e3 h3 => ⟨.list (ns.map PyData.int), .list (ms.map PyData.int), .lst (ex_l e3 h2) (dp_ints ns), .lst h3 (dp_ints ms), shaped_ints ns, shaped_ints ms, by
    show Q (.bl (!PyData.eqvAll (ns.map PyData.int) (ms.map PyData.int))) H3
    rw [eqv_ints]
    exact q H3 (e2.trans e3)⟩
theorem ev_ixS {i : Nat} {n : Int} {tl ti : TE} {v : V} (h : EvS K tl σ H xs) (hi : Ev ti σ H (.int n)) (ha : atI xs n = some v) : Ev (tOp (rIxL K) tl ti) σ H v := fun H1 e Q q =>
  h H1 e _ fun p H2 e2 h2 => hi H2 (e.trans e2) _ fun H3 e3 => ⟨p, xs, n, v, rfl, rfl, ex_l e3 h2, ha, q H3 (e2.trans e3)⟩
theorem el_slS {tl th : TO} {lo hi : Option Int} (h : EvS K te σ H xs) (h1 : EvO tl σ H lo) (h2 : EvO th σ H hi) : EvL (tSl (rSlL K) te tl th) σ H (cutV xs lo hi) := fun H1 e _ q =>
  h H1 e _ fun a H2 e2 hs => h1 H2 (e.trans e2) _ fun H3 e3 => h2 H3 ((e.trans e2).trans e3) _ fun H4 e4 =>
    ⟨a, xs, rfl, ex_l (e3.trans e4) hs, fun p hp => q p _ (fresh_back ((e2.trans e3).trans e4) hp) (((e2.trans e3).trans e4).trans (Ex.new hp)) upd_same⟩
theorem ev_at {n : Int} {tl ti : TE} {v : V} (h : EvS K tl σ H xs) (hi : Ev ti σ H (.int n)) (ha : atI xs n = some v) : Ev (tOp (rIxL K) tl ti) σ H v := ev_ixS (i := 0) h hi ha
theorem cut_to (xs : List V) (i : Nat) : cutV xs none (some (i : Int)) = xs.take i := by
  unfold cutV
  rw [HT.sIx_none, HT.sIx_nat, List.drop_zero, Nat.sub_zero]
  by_cases h : i ≤ xs.length
  · rw [Nat.min_eq_left h]
  · rw [Nat.min_eq_right (by omega), List.take_of_length_le (Nat.le_refl _), List.take_of_length_le (by omega)]
theorem cut_from (xs : List V) (i : Nat) : cutV xs (some (i : Int)) none = xs.drop i := by
  unfold cutV
  rw [HT.sIx_none, HT.sIx_nat]
  by_cases h : i ≤ xs.length
  · rw [Nat.min_eq_left h, List.take_of_length_le (by rw [List.length_drop]; omega)]
  · rw [Nat.min_eq_right (by omega), List.drop_of_length_le (Nat.le_refl _), List.drop_of_length_le (show xs.length ≤ i by omega), List.take_nil]
theorem cut_mid (xs : List V) (i j : Nat) : cutV xs (some (i : Int)) (some (j : Int)) = (xs.drop i).take (j - i) := by
  unfold cutV
  rw [HT.sIx_nat, HT.sIx_nat]
  by_cases h : i ≤ xs.length
  · rw [Nat.min_eq_left h]
    by_cases h2 : j ≤ xs.length
    · rw [Nat.min_eq_left h2]
    · rw [Nat.min_eq_right (by omega), List.take_of_length_le (by rw [List.length_drop]; omega), List.take_of_length_le (by rw [List.length_drop]; omega)]
  · rw [Nat.min_eq_right (by omega : xs.length ≤ i), List.drop_of_length_le (Nat.le_refl _), List.drop_of_length_le (show xs.length ≤ i by omega)]
    simp
theorem el_to {th : TE} {ns : List Int} {i : Nat} (h : EvS K te σ H (ns.map V.int)) (h2 : Ev th σ H (.int i)) : EvL (tSl (rSlL K) te tNoPart (tPart th)) σ H ((ns.take i).map V.int) :=
  EvL.is (el_slS h eo_none (eo_some h2)) (by rw [List.map_take]; exact cut_to _ i)
theorem el_from {th : TE} {ns : List Int} {i : Nat} (h : EvS K te σ H (ns.map V.int)) (h2 : Ev th σ H (.int i)) : EvL (tSl (rSlL K) te (tPart th) tNoPart) σ H ((ns.drop i).map V.int) :=
  EvL.is (el_slS h (eo_some h2) eo_none) (by rw [List.map_drop]; exact cut_from _ i)
theorem el_mid {t1 t2 : TE} {ns : List Int} {i j : Nat} (h : EvS K te σ H (ns.map V.int)) (h1 : Ev t1 σ H (.int i)) (h2 : Ev t2 σ H (.int j)) : EvL (tSl (rSlL K) te (tPart t1) (tPart t2)) σ H (((ns.drop i).take (j - i)).map V.int) :=
  EvL.is (el_slS h (eo_some h1) (eo_some h2)) (by rw [List.map_take, List.map_drop]; exact cut_mid _ i j)
section
variable {D : Ends} {tz : TS} {sp : Sp} {dvs vs : List V} {E : XK} {tA : TA}
/-- x = f(..), whatever f promises -/
theorem q_asgC {i : Nat} (h : EvA tA σ H vs) (k : ∀ H1, Ex H H1 → sp (vs ++ dvs) H1 (fun x H2 => tz D (σ.set i (some x)) H2) E) : tSeq (tAsg (tCall sp dvs E tA) (gName i)) tz D σ H := h H (Ex.refl H) _ fun H1 e => k H1 e
theorem s_asgC {i : Nat} (h : EvA tA σ H vs) (k : ∀ H1, Ex H H1 → sp (vs ++ dvs) H1 (fun x H2 => D.nx (σ.set i (some x)) H2) E) : tAsg (tCall sp dvs E tA) (gName i) D σ H := h H (Ex.refl H) _ fun H1 e => k H1 e
theorem q_dropC (h : EvA tA σ H vs) (k : ∀ H1, Ex H H1 → sp (vs ++ dvs) H1 (fun _ H2 => tz D σ H2) E) : tSeq (tDrop (tCall sp dvs E tA)) tz D σ H := h H (Ex.refl H) _ fun H1 e => k H1 e
theorem s_retC (h : EvA tA σ H vs) (k : ∀ H1, Ex H H1 → sp (vs ++ dvs) H1 D.rt E) : tRet (tCall sp dvs E tA) D σ H := h H (Ex.refl H) _ fun H1 e => k H1 e
end
theorem gl_get {ns : List Int} {i : Nat} (h : i < ns.length) : ns[i]? = some (ns.getD i 0) := by
  rw [List.getD_eq_getElem?_getD, List.getElem?_eq_getElem h]
  rfl
theorem q_asgRaw {te : TE} {i : Nat} {D : Ends} {tz : TS} (P : V → Hp → Prop) (h : ∀ Q : VK, (∀ x H2, P x H2 → Q x H2) → te σ H Q) (k : ∀ x H2, P x H2 → tz D (σ.set i (some x)) H2) : tSeq (tAsg te (gName i)) tz D σ H := h _ k
/-- a, b = a pair -/
theorem q_asgT {te : TE} {i j : Nat} {D : Ends} {tz : TS} (P : V → V → Hp → Prop) (h : ∀ Q : VK, (∀ t x y H2, P x y H2 → SqT K H2 t [x, y] → Q (.ref t) H2) → te σ H Q) (k : ∀ x y H2, P x y H2 → tz D ((σ.set i (some x)).set j (some y)) H2) :
    tSeq (tAsg te (gTup K 2 (gCons (gName i) (gCons (gName j) gNil)))) tz D σ H := h _ fun t x y H2 hP hT => ⟨t, [x, y], rfl, hT, rfl, x, [y], rfl, y, [], rfl, rfl, k x y H2 hP⟩
/-- the law's cell -/
def cellI (ns : List Int) (k : Int) : Int := ns.getD k.toNat 0
theorem cellI_in {ns : List Int} {k : Int} (h0 : 0 ≤ k) (h : k < ns.length) : ns[k.toNat]? = some (cellI ns k) := by
  unfold cellI
  rw [List.getD_eq_getElem?_getD, List.getElem?_eq_getElem (by omega)]
  rfl
theorem cellI_out {ns : List Int} {k : Int} (h : ¬ k < ns.length) : cellI ns k = 0 := by
  unfold cellI
  rw [List.getD_eq_getElem?_getD, List.getElem?_eq_none (by omega)]
  rfl
end
theorem Ex.get {H H' : Hp} {a : Addr} {o : HO} (e : Ex H H') (h : H a = some o) : H' a = some o := e a o h
local macro_rules | `(tactic| walk_at "hp") => `(tactic| first
  | assumption
  | exact upd_same
  | (refine' Ex.get (by assumption) ?h1; (case h1 => walk_at "hp")))
local macro_rules | `(tactic| walk_at "ex") => `(tactic| first
  | assumption
  | exact Ex.refl _
  | (refine' Ex.trans ?h1 (by assumption); (case h1 => walk_at "ex")))
local macro_rules | `(tactic| walk_at "sq") => `(tactic| first
  | assumption
  | (refine' sq_of ?h1; (case h1 => walk_at "hp"))
  | (refine' ex_l (by assumption) ?h1; (case h1 => walk_at "sq")))
local macro_rules | `(tactic| walk_at "evs") => `(tactic| first
  | (refine' Ev.s ?h1 ?h2; (case h1 => exact ev_var rfl); (case h2 => walk_at "sq"))
  | (refine' EvR.s ?h1; (case h1 => walk_at "evr")))
local macro_rules | `(tactic| walk_at "evr") => `(tactic| first
  | (refine' Ev.r ?h1 ?h2; (case h1 => exact ev_var rfl); (case h2 => walk_at "hp"))
  | (refine' EvL.r ?h1; (case h1 => walk_at "el")))
local macro_rules | `(tactic| walk_at "eo") => `(tactic| first
  | exact eo_none
  | (refine' eo_some ?h1; (case h1 => walk_at "ev")))
local macro_rules | `(tactic| walk_at "el") => `(tactic| first
  | (refine' el_lst ?h1 ?h2; (case h1 => walk_at "ea"); (case h2 => exact Nat.le_of_ble_eq_true rfl))
  | (refine' el_cat ?h1 ?h2 ?h3; (case h1 => walk_at "evr"); (case h2 => walk_at "evr"); (case h3 => walk_at "len"))
  | (refine' el_rep ?h1 ?h2 ?h3 ?h4; (case h1 => walk_at "evr"); (case h2 => walk_at "ev"); (case h3 => walk_at "side2"); (case h4 => walk_at "len"))
  | (refine' el_of ?h1; (case h1 => walk_at "evs"))
  | (refine' el_to ?h1 ?h2; (case h1 => walk_at "evs"); (case h2 => walk_at "ev"))
  | (refine' el_from ?h1 ?h2; (case h1 => walk_at "evs"); (case h2 => walk_at "ev"))
  | (refine' el_mid ?h1 ?h2 ?h3; (case h1 => walk_at "evs"); (case h2 => walk_at "ev"); (case h3 => walk_at "ev"))
  | (refine' el_slS ?h1 ?h2 ?h3; (case h1 => walk_at "evs"); (case h2 => walk_at "eo"); (case h3 => walk_at "eo"))
  | walk_at "elmore")
local macro_rules | `(tactic| walk_at "evmore") => `(tactic| first
  | (refine' ev_lenS ?h1; (case h1 => walk_at "evs"))
  | (refine' ev_sum ?h1; (case h1 => walk_at "evs"))
  | (refine' ev_eqI ?h1 ?h2; (case h1 => walk_at "evs"); (case h2 => walk_at "evs"))
  | (refine' ev_neI ?h1 ?h2; (case h1 => walk_at "evs"); (case h2 => walk_at "evs"))
  | (refine' ev_at ?h1 ?h2 ?h3; (case h1 => walk_at "evs"); (case h2 => walk_at "ev"); (case h3 => walk_at "at"))
  | (refine' ev_isiL ?h1 ?h2; (case h1 => walk_at "ev"); (case h2 => walk_at "hp"))
  | walk_at "evown")
local macro_rules | `(tactic| walk_at "at") => `(tactic| first
  | exact at_of rfl (at_int (by assumption))
  | exact at_of rfl (by assumption))
local macro_rules | `(tactic| walk_at "asgL") => `(tactic| (refine' q_asgL ?h ?h1; (case h => walk_at "el")))
local macro_rules | `(tactic| walk_at "retL") => `(tactic| (refine' s_retL ?h ?h1; (case h => walk_at "el")))

/-! ### comprehensions whose items are said in a list -/
theorem et_yes {σ : L2.St} {H : Hp} : EvT tYes σ H true := fun H1 _ _ q => q H1 (Ex.refl H1)
section
variable {K : PySem.W.Frag} {σ : L2.St} {H : Hp} {t1 t2 te : TE} {xs ys zs : List V} {vs : List Nat}
theorem take_snoc {zs : List V} {i : Nat} {z : V} (h : zs[i]? = some z) : zs.take (i + 1) = zs.take i ++ [z] := by
  rw [List.take_add_one, h]
  rfl
theorem el_lcZ {j1 j2 : Nat} (zs : List V) (h1 : EvS K t1 σ H xs) (h2 : EvS K t2 σ H ys) (hz : zs.length = min xs.length ys.length) (hb : zs.length ≤ 50000)
    (hw : ∀ x y, wipe (((wipe σ vs).set j1 (some x)).set j2 (some y)) vs = wipe σ vs)
    (he : ∀ (i : Nat) (x y : V) H1, Ex H H1 → xs[i]? = some x → ys[i]? = some y → ∃ z, zs[i]? = some z ∧ Ev te (((wipe σ vs).set j1 (some x)).set j2 (some y)) H1 z) :
    EvL (tLc (iZip K (tCons t1 (tCons t2 tNil))) (gTup K 2 (gCons (gName j1) (gCons (gName j2) gNil))) tYes te vs) σ H zs := fun H0 e Q q =>
  h1 H0 e _ fun p H1 e1 hp => h2 H1 (e.trans e1) _ fun r H2 e2 hr => ⟨p, r, xs, ys, rfl, ex_l e2 hp, hr, fun D hD =>
    ⟨fun i m H' => m = zs.length - i ∧ i ≤ zs.length ∧ Ex H2 H' ∧ H' D = some (.lst (zs.take i)), ⟨zs.length, rfl, Nat.zero_le _, Ex.new hD, upd_same⟩, by
      rintro i m H' ⟨rfl, hi, ex, hd⟩
      have qx : SqL K H' p xs := ex_l (e2.trans ex) hp
      have qy : SqL K H' r ys := ex_l ex hr
      by_cases hlt : i < zs.length
      · have hx : xs[i]? = some xs[i] := List.getElem?_eq_getElem (by omega)
        have hy : ys[i]? = some ys[i] := List.getElem?_eq_getElem (by omega)
        refine .inr ⟨⟨xs, ys, _, _, qx, qy, hx, hy⟩, fun H3 => i + 1 ≤ zs.length ∧ Ex H2 H3 ∧ H3 D = some (.lst (zs.take (i + 1))), fun H3 h3 => ⟨zs.length - (i + 1), by omega, rfl, h3⟩, fun v H3 hv => ?_⟩
        obtain ⟨T, x, y, rfl, hT, rfl, f1, f2⟩ := hv
        have ex3 : Ex H' (upd H' T (.tup [x, y])) := Ex.new hT
        obtain ⟨z, hz1, hz2⟩ := he i x y (upd H' T (.tup [x, y])) ((((e.trans e1).trans e2).trans ex).trans ex3) (f1 _ qx) (f2 _ qy)
        refine ⟨T, [x, y], rfl, st_of upd_same, rfl, x, [y], rfl, y, [], rfl, rfl, hw x y, ?_⟩
        refine hz2 _ (Ex.refl _) _ fun H4 e4 => ⟨zs.take i, e4 _ _ (ex3 _ _ hd), sz_lt (by rw [List.length_take]; omega), hlt, ?_, ?_⟩
        · exact Ex.mut ((ex.trans ex3).trans e4) hD
        · rw [upd_same, take_snoc hz1]
      · have ei : i = zs.length := by omega
        refine .inl ⟨⟨xs, ys, qx, qy, by omega⟩, ?_⟩
        rw [ei, List.take_length] at hd
        exact q D H' (fresh_back (e1.trans e2) hD) ((e1.trans e2).trans ex) hd⟩⟩
/-- over a list, each item kept -/
theorem el_lcS {j : Nat} (zs : List V) (h1 : EvS K t1 σ H xs) (hz : zs.length = xs.length) (hb : zs.length ≤ 50000) (hw : ∀ x, wipe ((wipe σ vs).set j (some x)) vs = wipe σ vs)
    (he : ∀ (i : Nat) (x : V) H1, Ex H H1 → xs[i]? = some x → ∃ z, zs[i]? = some z ∧ Ev te ((wipe σ vs).set j (some x)) H1 z) :
    EvL (tLc (iList K t1) (gName j) tYes te vs) σ H zs := fun H0 e Q q =>
  h1 H0 e _ fun p H1 e1 hp => ⟨p, rfl, ⟨xs, hp⟩, fun D hD => lc_list (xs := xs) (fun i H' => Ex H1 H' ∧ H' D = some (.lst (zs.take i))) ⟨Ex.new hD, upd_same⟩ (fun i H' _ h => ex_l h.1 hp)
    (fun i x H' hi h => ⟨hw x, by
      obtain ⟨z, hz1, hz2⟩ := he i x H' ((e.trans e1).trans h.1) hi
      have hl : i < xs.length := (List.getElem?_eq_some_iff.mp hi).1
      refine hz2 H' (Ex.refl _) _ fun H4 e4 => ⟨zs.take i, e4 _ _ h.2, sz_lt (by rw [List.length_take]; omega), Ex.mut (h.1.trans e4) hD, ?_⟩
      rw [upd_same, take_snoc hz1]⟩)
    (fun H' h => q D H' (fresh_back e1 hD) (e1.trans h.1) (by rw [h.2, ← hz, List.take_length]))⟩
/-- over range(n) -/
theorem el_lcR {ta : TA} {n : Int} {j : Nat} (zs : List V) (h1 : EvA ta σ H [.int n]) (hn : -100000 ≤ n) (hz : zs.length = n.toNat) (hb : zs.length ≤ 50000) (hw : ∀ x, wipe ((wipe σ vs).set j (some x)) vs = wipe σ vs)
    (he : ∀ (i : Nat) H1, Ex H H1 → i < zs.length → ∃ z, zs[i]? = some z ∧ Ev te ((wipe σ vs).set j (some (.int (i : Int)))) H1 z) :
    EvL (tLc (iRng1 ta) (gName j) tYes te vs) σ H zs := fun H0 e Q q =>
  h1 H0 e _ fun H1 e1 => ⟨n, rfl, by omega, by omega, fun D hD => lc_range (lo := 0) (n := n.toNat) (fun i H' => Ex H1 H' ∧ H' D = some (.lst (zs.take i))) ⟨Ex.new hD, upd_same⟩
    (fun i H' hi h => by
      have e0 : (0 : Int) + (i : Int) = (i : Int) := Int.zero_add _
      rw [e0]
      obtain ⟨z, hz1, hz2⟩ := he i H' ((e.trans e1).trans h.1) (by omega)
      refine ⟨hw _, hz2 H' (Ex.refl _) _ fun H4 e4 => ⟨zs.take i, e4 _ _ h.2, sz_lt (by rw [List.length_take]; omega), Ex.mut (h.1.trans e4) hD, ?_⟩⟩
      rw [upd_same, take_snoc hz1])
    (fun H' h => q D H' (fresh_back e1 hD) (e1.trans h.1) (by rw [h.2, show n.toNat = zs.length by omega, List.take_length]))⟩
/-- y = [.. for x in f(..)], whatever f promises -/
theorem s_asgLC {sp : Sp} {dvs args : List V} {E : XK} {ta : TA} {g : TG} {tt : TT} {D : Ends} {i : Nat} (h : EvA ta σ H args) (k : ∀ H1, Ex H H1 → sp (args ++ dvs) H1 (fun x H2 => tAsg (tLc (iList K (tC x)) g tt te vs) (gName i) D σ H2) E) :
    tAsg (tLc (iList K (tCall sp dvs E ta)) g tt te vs) (gName i) D σ H := h H (Ex.refl H) _ fun H1 e => k H1 e
theorem q_asgLC {sp : Sp} {dvs args : List V} {E : XK} {ta : TA} {g : TG} {tt : TT} {D : Ends} {i : Nat} {tz : TS} (h : EvA ta σ H args) (k : ∀ H1, Ex H H1 → sp (args ++ dvs) H1 (fun x H2 => tSeq (tAsg (tLc (iList K (tC x)) g tt te vs) (gName i)) tz D σ H2) E) :
    tSeq (tAsg (tLc (iList K (tCall sp dvs E ta)) g tt te vs) (gName i)) tz D σ H := h H (Ex.refl H) _ fun H1 e => k H1 e
end

/-! ### calls with keywords, defaults -/
theorem kwAll1 {K : PySem.W.Frag} {D : Addr} {q : Str × V} (h : ∃ u, PySem.W.nsIn K D q.1 = some (some u) ∧ RelV q.2 u) : ∀ p ∈ [q], ∃ u, PySem.W.nsIn K D p.1 = some (some u) ∧ RelV p.2 u := fun p hp => by
  rcases List.mem_cons.mp hp with rfl | hp
  · exact h
  · cases hp
section
variable {K : PySem.W.Frag} {x qual : Str} {params : Arguments} {body : List Stmt} {scope : Scope} {dvs : List V} {kws : List (Str × V)} {f : Addr} {fd : FuncData} {ps : List Str}
/-- f(a, .., k = v, ..), nothing left to a default, no defaults of place -/
theorem fund_kb0 {g : List Value → List Value → List Value} {gV : List V → List V → List V} (F : FunD K x qual params body scope [] kws f fd) (n : Nat) (ks : List Str)
    (hrel : ∀ {vs : List V} {us : List Value} {zs : List V} {ws : List Value}, Vals vs us → Vals zs ws → Vals (gV vs zs) (g us ws))
    (h : ∀ (kV doc pm : Value) (an : Option Addr) (cdv ct : Value) (us ws : List Value), us.length = n → ws.length = ks.length → bindArgs (PySem.W.fnOf x qual params body scope .none kV doc pm an cdv ct) ⟨us, ks.zip ws⟩ = pure (ps.zip (g us ws))) :
    KBn K fd ps n ks g gV := by
  obtain ⟨oc, od, dV, kV, doc, pm, an, cdv, ct, osl, rfl, lk, hcd, hD, hK⟩ := F.ex
  rcases hD with ⟨_, rfl⟩ | ⟨e, _⟩
  · exact ⟨fun s us ws X l1 l2 => .of_eq (h kV doc pm an cdv ct us ws l1 l2), hrel⟩
  · exact absurd rfl e
/-- the same of a def with defaults of place -/
theorem fund_kb1 {g : List Value → List Value → List Value} {gV : List V → List V → List V} (F : FunD K x qual params body scope dvs kws f fd) (hd : dvs ≠ []) (n : Nat) (ks : List Str)
    (hrel : ∀ {vs : List V} {us : List Value} {zs : List V} {ws : List Value}, Vals vs us → Vals zs ws → Vals (gV vs zs) (g us ws))
    (h : ∀ (T : Addr) (kV doc pm : Value) (an : Option Addr) (cdv ct : Value) (us its ws : List Value), us.length = n → its.length = dvs.length → ws.length = ks.length →
      ∃ k, bindArgs (PySem.W.fnOf x qual params body scope (.ref T) kV doc pm an cdv ct) ⟨us, ks.zip ws⟩ = seqItems? (.ref T) >>= k ∧ k (some its.toArray) = pure (ps.zip (g us ws))) :
    KBn K fd ps n ks g gV := by
  obtain ⟨oc, od, dV, kV, doc, pm, an, cdv, ct, osl, rfl, lk, hcd, hD, hK⟩ := F.ex
  rcases hD with ⟨e, _⟩ | ⟨_, T, o, its, m, rfl, lT, oT, rT⟩
  · exact absurd e hd
  · refine ⟨fun s us ws X l1 l2 => ?_, hrel⟩
    obtain ⟨k, e1, e2⟩ := h T kV doc pm an cdv ct us its ws l1 rT.length.symm l2
    refine BindsTo.of_looks fun M => ?_
    rw [e1]
    exact looks_items X lT oT (.of_pure e2)
end

/-- what the top has left -/
structure TX (K : PySem.W.Frag) (mg : Str → Option Value) where
  a_write_number : Addr
  d_write_number : FuncData
  F_write_number : Fun K "write_number" "write_number" s_write_number a_write_number d_write_number
  b_write_number : Binds K d_write_number ["number"] []
  g_write_number : mg "write_number" = some (.ref a_write_number)
  a_read_number : Addr
  d_read_number : FuncData
  F_read_number : Fun K "read_number" "read_number" s_read_number a_read_number d_read_number
  b_read_number : Binds K d_read_number ["reader"] []
  g_read_number : mg "read_number" = some (.ref a_read_number)
  a_number_ahead : Addr
  d_number_ahead : FuncData
  F_number_ahead : Fun K "_number_ahead" "_number_ahead" s_number_ahead a_number_ahead d_number_ahead
  b_number_ahead : Binds K d_number_ahead ["reader"] []
  g_number_ahead : mg "_number_ahead" = some (.ref a_number_ahead)
  a_further_bits : Addr
  d_further_bits : FuncData
  F_further_bits : Fun K "_further_bits" "_further_bits" s_further_bits a_further_bits d_further_bits
  b_further_bits : Binds K d_further_bits ["reader"] []
  g_further_bits : mg "_further_bits" = some (.ref a_further_bits)
  a_bound : Addr
  d_bound : FuncData
  F_bound : Fun K "_bound" "_bound" s_bound a_bound d_bound
  b_bound : Binds K d_bound ["count"] []
  g_bound : mg "_bound" = some (.ref a_bound)
  a_least_first : Addr
  d_least_first : FuncData
  F_least_first : Fun K "_least_first" "_least_first" s_least_first a_least_first d_least_first
  b_least_first : Binds K d_least_first ["count"] []
  g_least_first : mg "_least_first" = some (.ref a_least_first)
  a_count_told : Addr
  d_count_told : FuncData
  F_count_told : Fun K "_count_told" "_count_told" s_count_told a_count_told d_count_told
  b_count_told : Binds K d_count_told ["first"] []
  g_count_told : mg "_count_told" = some (.ref a_count_told)
  a_BitReader_init : Addr
  d_BitReader_init : FuncData
  F_BitReader_init : FunD K "__init__" "BitReader.__init__" (defArgs s_BitReader_init) (defBody s_BitReader_init) (defScope s_BitReader_init) [V.int 0] [] a_BitReader_init d_BitReader_init
  e3_BitReader_init : List Value
  v3_BitReader_init : Vals [] e3_BitReader_init
  b3_BitReader_init : Binds K d_BitReader_init ["self", "data", "at"] e3_BitReader_init
  a_BitReader_read : Addr
  d_BitReader_read : FuncData
  F_BitReader_read : Fun K "read" "BitReader.read" s_BitReader_read a_BitReader_read d_BitReader_read
  b_BitReader_read : Binds K d_BitReader_read ["self", "width"] []
  a_BitReader_move_to : Addr
  d_BitReader_move_to : FuncData
  F_BitReader_move_to : Fun K "move_to" "BitReader.move_to" s_BitReader_move_to a_BitReader_move_to d_BitReader_move_to
  b_BitReader_move_to : Binds K d_BitReader_move_to ["self", "bit_place"] []
  a_BitReader_byte_place : Addr
  d_BitReader_byte_place : FuncData
  F_BitReader_byte_place : Fun K "byte_place" "BitReader.byte_place" s_BitReader_byte_place a_BitReader_byte_place d_BitReader_byte_place
  b_BitReader_byte_place : Binds K d_BitReader_byte_place ["self"] []
  a_BitReader_bit_place : Addr
  d_BitReader_bit_place : FuncData
  F_BitReader_bit_place : Fun K "bit_place" "BitReader.bit_place" s_BitReader_bit_place a_BitReader_bit_place d_BitReader_bit_place
  b_BitReader_bit_place : Binds K d_BitReader_bit_place ["self"] []
  a_law_draw : Addr
  d_law_draw : FuncData
  F_law_draw : Fun K "_law_draw" "_law_draw" s_law_draw a_law_draw d_law_draw
  b_law_draw : Binds K d_law_draw ["cell", "many", "bound"] []
  g_law_draw : mg "_law_draw" = some (.ref a_law_draw)
  a_law_is_integer : Addr
  d_law_is_integer : FuncData
  F_law_is_integer : Fun K "_law_is_integer" "_law_is_integer" s_law_is_integer a_law_is_integer d_law_is_integer
  b_law_is_integer : Binds K d_law_is_integer ["actual"] []
  g_law_is_integer : mg "_law_is_integer" = some (.ref a_law_is_integer)
  a_law_same : Addr
  d_law_same : FuncData
  F_law_same : Fun K "_law_same" "_law_same" s_law_same a_law_same d_law_same
  b_law_same : Binds K d_law_same ["actual", "expected"] []
  g_law_same : mg "_law_same" = some (.ref a_law_same)
  a_law_number : Addr
  d_law_number : FuncData
  F_law_number : Fun K "_law_number" "_law_number" s_law_number a_law_number d_law_number
  b_law_number : Binds K d_law_number ["cell"] []
  g_law_number : mg "_law_number" = some (.ref a_law_number)
  a_law_form : Addr
  d_law_form : FuncData
  F_law_form : Fun K "_law_form" "_law_form" s_law_form a_law_form d_law_form
  b_law_form : Binds K d_law_form ["number"] []
  g_law_form : mg "_law_form" = some (.ref a_law_form)
  a_law : Addr
  d_law : FuncData
  F_law : Fun K "law" "law" s_law a_law d_law
  b_law : Binds K d_law ["script"] []
  g_law : mg "law" = some (.ref a_law)
  C_BitReader : Addr
  cl_BitReader : Cls K C_BitReader
  g_BitReader : mg "BitReader" = some (.ref C_BitReader)
  M_BitReader : Mk K C_BitReader a_BitReader_init
  me_BitReader_read : Meth K C_BitReader "read" a_BitReader_read
  me_BitReader_move_to : Meth K C_BitReader "move_to" a_BitReader_move_to
  me_BitReader_byte_place : Meth K C_BitReader "byte_place" a_BitReader_byte_place
  me_BitReader_bit_place : Meth K C_BitReader "bit_place" a_BitReader_bit_place
  n_BitReader_data : NoAttr K C_BitReader "_data"
  n_BitReader_position : NoAttr K C_BitReader "_position"
  C_MonochordError : Addr
  g_MonochordError : mg "MonochordError" = some (.ref C_MonochordError)
  m_range : mg "range" = none
  m_len : mg "len" = none
  m_int : mg "int" = none
  m_isinstance : mg "isinstance" = none
  m_bool : mg "bool" = none
  m_list : mg "list" = none
section
variable {P : Program} {w : World} {K : PySem.W.Frag} {mg : Str → Option Value} {base : Heap}
/-! ### int(x), bits of a number -/
theorem Ev.is {σ : L2.St} {H : Hp} {te : TE} {x y : V} (h : Ev te σ H x) (e : x = y) : Ev te σ H y := e ▸ h
theorem ev_int1 {σ : L2.St} {H : Hp} {te : TE} {i : Int} (h : Ev te σ H (.int i)) : Ev (tCB (fun xs H Q => (∃ i, xs = [V.int i] ∧ Q (V.int i) H) ∨ ∃ k, xs = [V.bl k] ∧ Q (V.int (if k = true then 1 else 0)) H) (tCons te tNil)) σ H (.int i) :=
  ev_cb (ea_cons h ea_nil) fun H1 _ Q q => .inl ⟨i, rfl, q H1 (Ex.refl H1)⟩
theorem q_augR {σ : L2.St} {H : Hp} {te : TE} {D : Ends} {tz : TS} {i : Nat} {g : Int → Int → V} {a b : Int} (h1 : σ[i]? = some (some (.int a))) (h : Ev te σ H (.int b)) (k : ∀ H1, Ex H H1 → tz D (σ.set i (some (g a b))) H1) : tSeq (tAug i te (rI0 g)) tz D σ H :=
  ⟨_, h1, h H (Ex.refl H) _ fun H1 e => ⟨a, b, rfl, rfl, k H1 e⟩⟩
theorem s_augR {σ : L2.St} {H : Hp} {te : TE} {D : Ends} {i : Nat} {g : Int → Int → V} {a b : Int} (h1 : σ[i]? = some (some (.int a))) (h : Ev te σ H (.int b)) (k : ∀ H1, Ex H H1 → D.nx (σ.set i (some (g a b))) H1) : tAug i te (rI0 g) D σ H :=
  ⟨_, h1, h H (Ex.refl H) _ fun H1 e => ⟨a, b, rfl, rfl, k H1 e⟩⟩
theorem ev_atT {K : PySem.W.Frag} {σ : L2.St} {H : Hp} {tl ti : TE} {t : Addr} {xs : List V} {n : Int} {v : V} (h : Ev tl σ H (.ref t)) (hT : SqT K H t xs) (hi : Ev ti σ H (.int n)) (ha : atI xs n = some v) : Ev (tOp (rIxT K) tl ti) σ H v := fun H1 e Q q =>
  h H1 e _ fun H2 e2 => hi H2 (e.trans e2) _ fun H3 e3 => ⟨t, xs, n, v, rfl, rfl, ex_t ((e.trans e2).trans e3) hT, ha, q H3 (e2.trans e3)⟩
local macro_rules | `(tactic| walk_at "side") => `(tactic| first
  | omega
  | (show CDivW _ _; exact ⟨by omega, by decide⟩)
  | (show CDivW _ _; exact wide_div (b := 80) (by omega) (by omega) (by decide) (by decide)))
local macro_rules | `(tactic| walk_at "evown") => `(tactic| (refine' ev_int1 ?h1; (case h1 => walk_at "ev")))
/-- numbers from 0 on, as such -/
def cs (ds : List Nat) : List Int := ds.map fun d : Nat => (d : Int)
theorem cs_of {ns : List Int} {b : Int} (h : ∀ n ∈ ns, 0 ≤ n ∧ n < b) : ∃ ds : List Nat, ns = cs ds ∧ ds.length = ns.length ∧ ∀ d ∈ ds, (d : Int) < b := by
  refine ⟨ns.map Int.toNat, ?_, List.length_map .., fun d hd => ?_⟩
  · unfold cs
    rw [List.map_map]
    conv => lhs; rw [← List.map_id ns]
    refine List.map_congr_left fun n hn => ?_
    have := (h n hn).1
    show n = ((n.toNat : Nat) : Int)
    omega
  · obtain ⟨n, hn, rfl⟩ := List.mem_map.mp hd
    have := h n hn
    omega
theorem cs_len (ds : List Nat) : (cs ds).length = ds.length := List.length_map ..
theorem cs_at {ds : List Nat} {i : Nat} {d : Nat} (h : ds[i]? = some d) : (cs ds)[i]? = some (d : Int) := by unfold cs; rw [List.getElem?_map, h]; rfl
theorem cs_take (ds : List Nat) (i : Nat) : (cs ds).take i = cs (ds.take i) := by unfold cs; rw [List.map_take]
theorem cs_drop (ds : List Nat) (i : Nat) : (cs ds).drop i = cs (ds.drop i) := by unfold cs; rw [List.map_drop]
theorem cs_append (ds es : List Nat) : cs (ds ++ es) = cs ds ++ cs es := List.map_append ..

/-- numbers of the law -/
def sp_draw : Sp := fun vs H Q _ => ∃ c m b : Int, vs = [.int c, .int m, .int b] ∧ 0 ≤ m ∧ m ≤ 5000 ∧ 0 < b ∧ b ≤ 2 ^ 64 ∧ ∀ p (ns : List Int) H', H p = none → Ex H H' → H' p = some (.lst (ns.map V.int)) → (ns.length : Int) = m → (∀ n ∈ ns, 0 ≤ n ∧ n < b) → Q (.ref p) H'
theorem ok_law_draw (T : TX K mg) : FnOk P w K mg base CX0 1 T.a_law_draw T.d_law_draw ["cell", "many", "bound"] sp_draw := by
  refine T.F_law_draw.ok sc_law_draw (fun vs H Q E h => by obtain ⟨c, m, b, rfl, _⟩ := h; rfl) (fun cdv A outer s H vs Q E hr h => ?_)
  obtain ⟨c, m, b, rfl, hm0, hm, hb0, hb, k⟩ := h
  have hb' : b ≤ 18446744073709551616 := hb
  refine ⟨_, (pss_cons (ps_set (i := 3) sc_law_draw.nd rfl (Or.inl rfl) (pe_lst pa_nil))
      (pss_cons (ps_if (pt_cmpR op_ge (pv 0) (pe_op op_pow pe_int pe_int) (nomark _)) (pss_cons (ps_for PassesOwn.never rfl (pi_range1 (by rfl) T.m_range (pa_cons (pv 1) pa_nil)) (pg_name (i := 4) sc_law_draw.nd rfl (Or.inl rfl)) (pss_cons (ps_expr (pe_bm PySem.F.plainAttrs_list PySem.F.slot_list_append PySem.F.type_list_append mt_append (pv 3) (pa_cons (pe_op op_mod (pe_callTy call_int1 (by rfl) T.m_int PyProof.Rows.boot_int (pa_cons (pv 0) pa_nil)) (pv 2)) pa_nil)))
          (pss_one (ps_set (i := 0) sc_law_draw.nd rfl (Or.inl rfl) (pe_op op_fdivW (pv 0) (pv 2))))))
        (pss_one (ps_ret (pv 3)))) pss_nil)
      (pss_cons (ps_set (i := 5) sc_law_draw.nd rfl (Or.inl rfl) (pe_op op_mod (pe_callTy call_int1 (by rfl) T.m_int PyProof.Rows.boot_int (pa_cons (pv 0) pa_nil)) pe_int))
      (pss_cons (ps_for PassesOwn.never rfl (pi_range1 (by rfl) T.m_range (pa_cons (pv 1) pa_nil)) (pg_name (i := 4) sc_law_draw.nd rfl (Or.inl rfl)) (pss_cons (ps_set (i := 5) sc_law_draw.nd rfl (Or.inl rfl) (pe_op op_mod (pe_callTy call_int1 (by rfl) T.m_int PyProof.Rows.boot_int (pa_cons (pe_op op_add (pe_op op_add (pe_op op_mul (pv 5) pe_int) pe_int) (pv 4)) pa_nil)) pe_int))
        (pss_cons (ps_set (i := 6) sc_law_draw.nd rfl (Or.inl rfl) (pe_op op_mod (pe_callTy call_int1 (by rfl) T.m_int PyProof.Rows.boot_int (pa_cons (pe_op op_add (pe_op op_mul (pv 5) pe_int) (pe_op op_mul pe_int (pv 4))) pa_nil)) pe_int))
        (pss_one (ps_expr (pe_bm PySem.F.plainAttrs_list PySem.F.slot_list_append PySem.F.type_list_append mt_append (pv 3) (pa_cons (pe_op op_mod (pe_callTy call_int1 (by rfl) T.m_int PyProof.Rows.boot_int (pa_cons (pe_op op_fdivW (pv 6) pe_int) pa_nil)) (pv 2)) pa_nil)))))))
      (pss_one (ps_ret (pv 3))))))), ?_⟩
  refine q_asgL (xs := []) (el_lst ea_nil (by decide)) fun p H1 hp e1 h1 => ?_
  refine' q_when (et_test (ev_I0 ?h1 ?h2)) ?_ ?_
  case h1 => walk_at "ev"
  case h2 => exact ev_I (ev_c) (ev_c) ⟨by decide, by decide, by decide⟩
  · intro _ H2 e2
    refine q_forR1 (n := m) (ea_cons (ev_var rfl) ea_nil) ⟨hm0, by omega⟩ (fun i σ' H' => ∃ (c' : Int) (k' : Option V) (ns : List Int), σ' = [some (.int c'), some (.int m), some (.int b), some (.ref p), k', none, none] ∧ Ex H H' ∧ H' p = some (.lst (ns.map V.int)) ∧ ns.length = i ∧ ∀ n ∈ ns, 0 ≤ n ∧ n < b)
      (fun H3 e3 => ⟨c, none, [], rfl, (e1.trans e2).trans e3, e3 _ _ (e2 _ _ h1), rfl, fun n hn => by cases hn⟩) ?_ ?_
    · rintro i σ' H' hi ⟨c', k', ns, rfl, ex, hl, hn, hns⟩
      refine q_app (v := .int (c' % b)) hl (ev_var rfl) (ev_I (ev_int1 (ev_var rfl)) (ev_var rfl) hb0) (by rw [List.length_map]; omega) fun H3 e3 => ?_
      refine s_asg (v := .int (c' / b)) (ev_I (ev_var rfl) (ev_var rfl) (by walk_at "side")) fun H4 e4 => ?_
      refine ⟨c' / b, some (.int i), ns ++ [c' % b], rfl, (Ex.mut (ex.trans e3) hp).trans e4, e4 _ _ (by rw [upd_same, List.map_append]; rfl), by rw [List.length_append, hn]; rfl, fun n hn => ?_⟩
      rcases List.mem_append.mp hn with h | h
      · exact hns n h
      · cases List.mem_singleton.mp h
        exact ⟨Int.emod_nonneg _ (by omega), Int.emod_lt_of_pos _ hb0⟩
    · rintro σ' H' ⟨c', k', ns, rfl, ex, hl, hn, hns⟩
      walk_at "ret"
      intro H3 e3
      exact k p ns H3 hp (ex.trans e3) (e3 _ _ hl) (by omega) hns
  · intro _ H2 e2
    refine q_asg (v := .int (c % 2147483647)) (ev_I (ev_int1 (ev_var rfl)) ev_c (by decide)) fun H3 e3 => ?_
    refine q_forR1 (n := m) (ea_cons (ev_var rfl) ea_nil) ⟨hm0, by omega⟩ (fun i σ' H' => ∃ (k' x : Option V) (sd : Int) (ns : List Int), σ' = [some (.int c), some (.int m), some (.int b), some (.ref p), k', some (.int sd), x] ∧ Ex H H' ∧ H' p = some (.lst (ns.map V.int)) ∧ ns.length = i ∧ ∀ n ∈ ns, 0 ≤ n ∧ n < b)
      (fun H4 e4 => ⟨none, none, _, [], rfl, ((e1.trans e2).trans e3).trans e4, e4 _ _ (e3 _ _ (e2 _ _ h1)), rfl, fun n hn => by cases hn⟩) ?_ ?_
    · rintro i σ' H' hi ⟨k', x, sd, ns, rfl, ex, hl, hn, hns⟩
      refine q_asg (v := .int ((sd * 48271 + 12345 + (i : Int)) % 2147483647)) (ev_I (ev_int1 (ev_I0 (ev_I0 (ev_I (ev_var rfl) ev_c (.inr (by decide))) ev_c) (ev_var rfl))) ev_c (by decide)) fun H4 e4 => ?_
      generalize (sd * 48271 + 12345 + (i : Int)) % 2147483647 = sd2
      refine q_asg (v := .int ((sd2 * 69621 + 977 * (i : Int)) % 2147483629)) (ev_I (ev_int1 (ev_I0 (ev_I (ev_var rfl) ev_c (.inr (by decide))) (ev_I ev_c (ev_var rfl) (.inl (by decide))))) ev_c (by decide)) fun H5 e5 => ?_
      generalize (sd2 * 69621 + 977 * (i : Int)) % 2147483629 = mx
      refine s_app (v := .int (mx / 3 % b)) (e5 _ _ (e4 _ _ hl)) (ev_var rfl) (ev_I (ev_int1 (ev_I (ev_var rfl) ev_c ⟨by decide, by decide⟩)) (ev_var rfl) hb0) (by rw [List.length_map]; omega) fun H6 e6 => ?_
      refine ⟨_, _, sd2, ns ++ [mx / 3 % b], rfl, Ex.mut (((ex.trans e4).trans e5).trans e6) hp, by rw [upd_same, List.map_append]; rfl, by rw [List.length_append, hn]; rfl, fun n hn => ?_⟩
      rcases List.mem_append.mp hn with h | h
      · exact hns n h
      · cases List.mem_singleton.mp h
        exact ⟨Int.emod_nonneg _ (by omega), Int.emod_lt_of_pos _ hb0⟩
    · rintro σ' H' ⟨k', x, sd, ns, rfl, ex, hl, hn, hns⟩
      walk_at "ret"
      intro H4 e4
      exact k p ns H4 hp (ex.trans e4) (e4 _ _ hl) (by omega) hns

/-! ### objects: fields, methods, making -/
section
variable {K : PySem.W.Frag} {σ : L2.St} {H : Hp} {to te tv : TE} {a C : Addr} {dx : Addr} {fs : List (Str × V)} {f m : Str} {v : V} {D : Ends} {tz : TS} {sp : Sp} {dvs vs : List V} {E : XK} {t : TA}
theorem ev_fld (c : Cls K C) (hn : NoAttr K C f) (h : Ev to σ H (.ref a)) (hx : H a = some (.ins C dx fs)) (hl : fs.lookup f = some v) : Ev (tFld K to f) σ H v := fun H1 e Q q => h H1 e _ fun H2 e2 => ⟨a, C, dx, fs, v, rfl, (e.trans e2) _ _ hx, c, hn, hl, q H2 e2⟩
theorem q_fld (c : Cls K C) (hn : NoAttr K C f) (hv : Ev tv σ H v) (h : Ev to σ H (.ref a)) (hx : H a = some (.ins C dx fs)) (hl : fs.length < 1000) (k : ∀ H1, Ex H H1 → tz D σ (upd H1 a (.ins C dx (putF f v fs)))) : tSeq (sFld K to tv f) tz D σ H :=
  hv H (Ex.refl H) _ fun H1 e1 => h H1 e1 _ fun H2 e2 => ⟨a, C, dx, fs, rfl, (e1.trans e2) _ _ hx, c, hn, hl, k H2 (e1.trans e2)⟩
theorem s_fld (c : Cls K C) (hn : NoAttr K C f) (hv : Ev tv σ H v) (h : Ev to σ H (.ref a)) (hx : H a = some (.ins C dx fs)) (hl : fs.length < 1000) (k : ∀ H1, Ex H H1 → D.nx σ (upd H1 a (.ins C dx (putF f v fs)))) : sFld K to tv f D σ H :=
  hv H (Ex.refl H) _ fun H1 e1 => h H1 e1 _ fun H2 e2 => ⟨a, C, dx, fs, rfl, (e1.trans e2) _ _ hx, c, hn, hl, k H2 (e1.trans e2)⟩
theorem q_fldL {xs : List V} (c : Cls K C) (hn : NoAttr K C f) (hv : EvL tv σ H xs) (h : ∀ H1, Ex H H1 → Ev to σ H1 (.ref a)) (hx : H a = some (.ins C dx fs)) (hl : fs.length < 1000) (k : ∀ p H1, H p = none → Ex H H1 → H1 p = some (.lst xs) → tz D σ (upd H1 a (.ins C dx (putF f (.ref p) fs)))) : tSeq (sFld K to tv f) tz D σ H :=
  hv H (Ex.refl H) _ fun p H1 hp e1 g1 => h H1 e1 H1 (Ex.refl H1) _ fun H2 e2 => ⟨a, C, dx, fs, rfl, (e1.trans e2) _ _ hx, c, hn, hl, k p H2 hp (e1.trans e2) (e2 _ _ g1)⟩
/-- o.m(..), whatever m promises -/
theorem mth (h : Ev to σ H (.ref a)) (hx : H a = some (.ins C dx fs)) (hm : fs.lookup m = none) (ha : EvA t σ H vs) {Q : VK} (k : ∀ H1, Ex H H1 → sp (.ref a :: (vs ++ dvs)) H1 Q E) : tMeth C m sp dvs E to t σ H Q :=
  h H (Ex.refl H) _ fun H1 e1 => ⟨a, dx, fs, rfl, e1 _ _ hx, hm, ha H1 e1 _ fun H2 e2 => k H2 (e1.trans e2)⟩
theorem q_dropM (h : Ev to σ H (.ref a)) (hx : H a = some (.ins C dx fs)) (hm : fs.lookup m = none) (ha : EvA t σ H vs) (k : ∀ H1, Ex H H1 → sp (.ref a :: (vs ++ dvs)) H1 (fun _ H2 => tz D σ H2) E) : tSeq (tDrop (tMeth C m sp dvs E to t)) tz D σ H := mth h hx hm ha k
theorem s_dropM (h : Ev to σ H (.ref a)) (hx : H a = some (.ins C dx fs)) (hm : fs.lookup m = none) (ha : EvA t σ H vs) (k : ∀ H1, Ex H H1 → sp (.ref a :: (vs ++ dvs)) H1 (fun _ H2 => D.nx σ H2) E) : tDrop (tMeth C m sp dvs E to t) D σ H := mth h hx hm ha k
theorem q_asgM {i : Nat} (h : Ev to σ H (.ref a)) (hx : H a = some (.ins C dx fs)) (hm : fs.lookup m = none) (ha : EvA t σ H vs) (k : ∀ H1, Ex H H1 → sp (.ref a :: (vs ++ dvs)) H1 (fun x H2 => tz D (σ.set i (some x)) H2) E) : tSeq (tAsg (tMeth C m sp dvs E to t) (gName i)) tz D σ H := mth h hx hm ha k
theorem s_retM (h : Ev to σ H (.ref a)) (hx : H a = some (.ins C dx fs)) (hm : fs.lookup m = none) (ha : EvA t σ H vs) (k : ∀ H1, Ex H H1 → sp (.ref a :: (vs ++ dvs)) H1 D.rt E) : tRet (tMeth C m sp dvs E to t) D σ H := mth h hx hm ha k
/-- a method that changes nothing and gives a value -/
theorem ev_mth (h : Ev to σ H (.ref a)) (hx : H a = some (.ins C dx fs)) (hm : fs.lookup m = none) (ha : EvA t σ H vs) (k : SpV sp (.ref a :: (vs ++ dvs)) H v) : Ev (tMeth C m sp dvs E to t) σ H v := fun H1 e Q q =>
  h H1 e _ fun H2 e2 => ⟨a, dx, fs, rfl, (e.trans e2) _ _ hx, hm, ha H2 (e.trans e2) _ fun H3 e3 => k H3 ((e.trans e2).trans e3) Q (fun H4 e4 => q H4 ((e2.trans e3).trans e4)) E⟩
end
theorem fresh_ne {H : Hp} {p q : Addr} {o : HO} (hp : H p = none) (hq : H q = some o) : q ≠ p := ne_of_none hq hp
theorem bitNot_eq (x : Int) : Builtin.bitNot x = -x - 1 := rfl
theorem bitAnd_maskZ (x : Int) (k : Nat) : Builtin.bitAnd x (2 ^ k - 1) = x % 2 ^ k := by
  by_cases h : 0 ≤ x
  · exact _root_.Bits.bitAnd_mask k h
  · have hp : (1 : Int) ≤ 2 ^ k := by
      have : 0 < 2 ^ k := Nat.two_pow_pos k
      have h2 : ((2 : Int) ^ k) = ((2 ^ k : Nat) : Int) := by rw [Int.natCast_pow]; rfl
      omega
    rw [PyProof.Rows.bitAnd_np h (by omega), Nat.and_comm]
    have h2 : ((2 : Int) ^ k) = ((2 ^ k : Nat) : Int) := by rw [Int.natCast_pow]; rfl
    have h3 : ((2 : Int) ^ k - 1).toNat = 2 ^ k - 1 := by omega
    rw [h3, Nat.and_two_pow_sub_one_eq_mod, bitNot_eq]
    have h4 : ((-x - 1).toNat : Int) = -x - 1 := by omega
    rw [h2, Int.natCast_emod, h4]
    generalize 2 ^ k = m at *
    have hm : (0 : Int) < (m : Int) := by omega
    have e1 := Int.emod_add_mul_ediv x m
    have e2 := Int.emod_add_mul_ediv (-x - 1) m
    have a1 := Int.emod_nonneg x (by omega : (m : Int) ≠ 0)
    have a2 := Int.emod_lt_of_pos x hm
    have b1 := Int.emod_nonneg (-x - 1) (by omega : (m : Int) ≠ 0)
    have b2 := Int.emod_lt_of_pos (-x - 1) hm
    generalize x % (m : Int) = r at *
    generalize (-x - 1) % (m : Int) = s at *
    generalize x / (m : Int) = p at *
    generalize (-x - 1) / (m : Int) = q at *
    -- r + s + 1 is a multiple of m between 1 and 2m - 1
    have e3 : r + s + 1 = m * (-(p + q)) := by
      rw [Int.mul_neg, Int.mul_add]
      omega
    have h5 : -(p + q) = 1 := by
      have c1 : 0 < (m : Int) * (-(p + q)) := by omega
      have c2 : (m : Int) * (-(p + q)) < m * 2 := by omega
      have c3 := Int.pos_of_mul_pos_right (a := (m : Int)) (b := -(p + q)) (by exact c1) hm
      have c4 : -(p + q) < 2 := Int.lt_of_mul_lt_mul_left c2 (by omega)
      omega
    rw [h5, Int.mul_one] at e3
    omega

def bits8 (b : Nat) : List Bool := (List.range 8).map fun k => b.testBit (7 - k)
/-! ### fields of bits -/
def bitsN (n v : Nat) : List Bool := (List.range n).map fun k => v.testBit (n - 1 - k)
theorem bitsN_len (n v : Nat) : (bitsN n v).length = n := by unfold bitsN; rw [List.length_map, List.length_range]
theorem bitsN_at {n v i : Nat} (h : i < n) : (bitsN n v)[i]? = some (v.testBit (n - 1 - i)) := by
  unfold bitsN
  rw [List.getElem?_map, List.getElem?_range h]
  rfl
theorem bitsN_congr {n v u : Nat} (h : ∀ i, i < n → v.testBit i = u.testBit i) : bitsN n v = bitsN n u := by
  unfold bitsN
  exact List.map_congr_left fun k hk => h _ (by have := List.mem_range.mp hk; omega)
theorem bitsN_mod (n v : Nat) : bitsN n (v % 2 ^ n) = bitsN n v := bitsN_congr fun i hi => by rw [Nat.testBit_mod_two_pow, decide_eq_true hi, Bool.true_and]
theorem bitsN_add (n w x : Nat) : bitsN (n + w) x = bitsN n (x / 2 ^ w) ++ bitsN w x := by
  refine List.ext_getElem? fun i => ?_
  by_cases h : i < n
  · rw [List.getElem?_append_left (by rw [bitsN_len]; exact h), bitsN_at h, bitsN_at (by omega), Nat.testBit_div_two_pow, show n - 1 - i + w = n + w - 1 - i by omega]
  · rw [List.getElem?_append_right (by rw [bitsN_len]; omega), bitsN_len]
    by_cases h2 : i - n < w
    · rw [bitsN_at h2, bitsN_at (by omega), show w - 1 - (i - n) = n + w - 1 - i by omega]
    · rw [List.getElem?_eq_none (by rw [bitsN_len]; omega), List.getElem?_eq_none (by rw [bitsN_len]; omega)]
theorem bitsN_cat {n w h v : Nat} (hv : v < 2 ^ w) : bitsN (n + w) (h * 2 ^ w + v) = bitsN n h ++ bitsN w v := by
  rw [bitsN_add]
  congr 1
  · rw [Nat.add_comm, Nat.add_mul_div_right _ _ (Nat.two_pow_pos w), Nat.div_eq_of_lt hv, Nat.zero_add]
  · rw [← bitsN_mod, Nat.add_comm, Nat.add_mul_mod_self_right, bitsN_mod]
theorem bits8_N (b : Nat) : bits8 b = bitsN 8 b := rfl
theorem bitsN_zero (n : Nat) : bitsN n 0 = List.replicate n false := by
  unfold bitsN
  refine List.ext_getElem? fun i => ?_
  rw [List.getElem?_map]
  by_cases h : i < n
  · rw [List.getElem?_range h, List.getElem?_replicate, if_pos h]
    show some (Nat.testBit 0 _) = _
    rw [Nat.zero_testBit]
  · rw [List.getElem?_eq_none (by rw [List.length_range]; omega), List.getElem?_eq_none (by rw [List.length_replicate]; omega)]
    rfl
theorem bits_flat_len (ws : List Nat) : (ws.flatMap bits8).length = 8 * ws.length := by
  induction ws with
  | nil => rfl
  | cons d r ih =>
    rw [List.flatMap_cons, List.length_append, ih, List.length_cons]
    show 8 + _ = _
    omega

/-! ### lists of bits, as numbers -/
def b2 (b : Bool) : Int := if b then 1 else 0
theorem b2_bit (n i : Nat) : Builtin.bitAnd ((n : Int) / 2 ^ i) 1 = b2 (n.testBit i) := by
  have h1 : ((n : Int) / 2 ^ i) = ((n / 2 ^ i : Nat) : Int) := by
    rw [Int.natCast_ediv, Int.natCast_pow]
    rfl
  rw [h1, PyProof.Rows.bitAnd_m1, Nat.testBit_eq_decide_div_mod_eq]
  unfold b2
  by_cases h : n / 2 ^ i % 2 = 1
  · rw [decide_eq_true h, if_pos rfl]
    omega
  · rw [decide_eq_false h, if_neg (by decide)]
    omega
def bI (ms : List Bool) : List Int := ms.map b2
theorem bI_len (ms : List Bool) : (bI ms).length = ms.length := List.length_map ..
theorem bI_append (ms ns : List Bool) : bI (ms ++ ns) = bI ms ++ bI ns := List.map_append ..
theorem bI_at {ms : List Bool} {i : Nat} {b : Bool} (h : ms[i]? = some b) : (bI ms)[i]? = some (b2 b) := by unfold bI; rw [List.getElem?_map, h]; rfl
theorem bI_false (n : Nat) : bI (List.replicate n false) = List.replicate n 0 := by unfold bI; rw [List.map_replicate]; rfl
theorem ev_bit {σ : L2.St} {H : Hp} {t1 t2 : TE} {n i : Nat} {j : Int} (h1 : Ev t1 σ H (.int (n : Int))) (h2 : Ev t2 σ H (.int j)) (hj : j = (i : Int)) : Ev (tOp (rI0 fun i j => .int (Builtin.bitAnd i j)) (tOp (rI (fun _ j => 0 ≤ j) fun i j => .int (i / 2 ^ j.toNat)) t1 t2) (tC (.int 1))) σ H (.int (b2 (n.testBit i))) := by
  subst hj
  exact Ev.is (ev_I0 (ev_I h1 h2 (by show (0 : Int) ≤ _; omega)) ev_c) (congrArg V.int (by rw [Int.toNat_natCast]; exact b2_bit n i))
def valL (ms : List Bool) : Nat := ms.foldl (fun a b => 2 * a + b.toNat) 0
theorem valL_snoc (ms : List Bool) (b : Bool) : valL (ms ++ [b]) = 2 * valL ms + b.toNat := by unfold valL; rw [List.foldl_append]; rfl
theorem valL_8 : ∀ d, d < 256 → valL (bits8 d) = d := by decide +kernel
def padN (n : Nat) : Nat := (8 - n % 8) % 8
theorem b2_nat (b : Bool) : b2 b = (b.toNat : Int) := by cases b <;> rfl
/-- _law_is_integer, _law_same -/
def sp_isint : Sp := fun vs H Q _ => ∃ n : Int, vs = [.int n] ∧ RetV (.bl true) H Q
theorem ok_law_is_integer (T : TX K mg) : FnOk P w K mg base CX0 1 T.a_law_is_integer T.d_law_is_integer ["actual"] sp_isint := by
  refine T.F_law_is_integer.ok sc_law_is_integer (fun vs H Q E h => by obtain ⟨n, rfl, _⟩ := h; rfl) (fun cdv A outer s H vs Q E hr h => ?_)
  obtain ⟨n, rfl, k⟩ := h
  refine ⟨_, (pss_one (ps_ret (pe_and (pe_callB (r := rIsi K) call_isi (by rfl) T.m_isinstance PyProof.Rows.boot_isinstance (pa_cons (pv 0) (pa_cons (pe_bltn (v := V.ty "int") (by rfl) T.m_int PyProof.Rows.boot_int rfl) pa_nil))) (pe_one (pe_not (pe_callB (r := rIsi K) call_isi (by rfl) T.m_isinstance PyProof.Rows.boot_isinstance (pa_cons (pv 0) (pa_cons (pe_bltn (v := V.ty "bool") (by rfl) T.m_bool PyProof.Rows.boot_bool rfl) pa_nil)))))))), ?_⟩
  walk_at "ret"
  intro H2 e2
  exact ret_eq k e2 rfl
theorem ev_isint {σ : L2.St} {H : Hp} {te : TE} {E : XK} {n : Int} (h : Ev te σ H (.int n)) : Ev (tCall sp_isint [] E (tCons te tNil)) σ H (.bl true) := ev_call (ea_cons h ea_nil) fun H1 _ Q q _ => ⟨n, rfl, q⟩

def sp_same : Sp := fun vs H Q _ => ∃ (a b : Addr) (ns : List Int), vs = [.ref a, .ref b] ∧ H a = some (.lst (ns.map V.int)) ∧ H b = some (.lst (ns.map V.int)) ∧ ns.length ≤ 100000 ∧ RetV (.bl true) H Q
theorem ok_law_same (T : TX K mg) : FnOk P w K mg base CX0 2 T.a_law_same T.d_law_same ["actual", "expected"] sp_same := by
  refine T.F_law_same.ok sc_law_same (fun vs H Q E h => by obtain ⟨a, b, ns, rfl, _⟩ := h; rfl) (fun cdv A outer s H vs Q E hr h => ?_)
  obtain ⟨a, b, ns, rfl, ha, hb, hlen, k⟩ := h
  refine ⟨_, (pss_cons (ps_if (PW.pt (pw_or (pt_not (pt_val (pe_callB (r := rIsi K) call_isi (by rfl) T.m_isinstance PyProof.Rows.boot_isinstance (pa_cons (pv 0) (pa_cons (pe_bltn (v := V.ty "list") (by rfl) T.m_list PyProof.Rows.boot_list rfl) pa_nil))))) (pw_or1 (pt_cmpR op_ne (pe_callB (r := rLenS K) call_len_seq (by rfl) T.m_len PySem.boot_len (pa_cons (pv 0) pa_nil)) (pe_callB (r := rLenS K) call_len_seq (by rfl) T.m_len PySem.boot_len (pa_cons (pv 1) pa_nil)) (nomark _))))) (pss_one (ps_ret pe_bl)) pss_nil)
      (pss_cons (ps_for PassesOwn.never rfl (pi_range1 (by rfl) T.m_range (pa_cons (pe_callB (r := rLenS K) call_len_seq (by rfl) T.m_len PySem.boot_len (pa_cons (pv 1) pa_nil)) pa_nil)) (pg_name (i := 2) sc_law_same.nd rfl (Or.inl rfl)) (pss_one (ps_if (PW.pt (pw_or (pt_not (pt_val (pe_call (ok_law_is_integer T) (hr.mono (by decide)) (by rfl) T.g_law_is_integer T.F_law_is_integer.kp T.b_law_is_integer .nil pass0 (pa_cons (pe_ix (r := rIxL K) ix_list (pv 0) (pv 2) (fun _ _ => rfl)) pa_nil)))) (pw_or1 (pt_cmpR op_ne (pe_ix (r := rIxL K) ix_list (pv 0) (pv 2) (fun _ _ => rfl)) (pe_ix (r := rIxL K) ix_list (pv 1) (pv 2) (fun _ _ => rfl)) (nomark _))))) (pss_one (ps_ret pe_bl)) pss_nil)))
      (pss_one (ps_ret pe_bl)))), ?_⟩
  have hl : ∀ {σ : L2.St} {H1 : Hp} {te : TE} {c : Addr}, Ev te σ H1 (.ref c) → H1 c = some (.lst (ns.map V.int)) → Ev (tCB (rLenS K) (tCons te tNil)) σ H1 (.int (ns.length : Int)) := fun h1 h2 => Ev.is (ev_lenS (Ev.s h1 (sq_of h2))) (by rw [List.length_map])
  refine q_when (b := false) (et_or (a := !true) (b := false) (et_not (et_test (ev_isiL (ev_var rfl) ha))) fun _ => et_test (Ev.is (ev_ne (hl (ev_var rfl) ha) (hl (ev_var rfl) hb) rfl) (by rw [decide_eq_true rfl]; rfl))) (fun hb => by cases hb) fun _ H1 e1 => ?_
  refine q_forR1 (n := (ns.length : Int)) (ea_cons (hl (ev_var rfl) (e1 _ _ hb)) ea_nil) (by omega) (fun i σ' H' => ∃ z, σ' = [some (.ref a), some (.ref b), z] ∧ Ex H H') (fun H2 e2 => ⟨none, rfl, e1.trans e2⟩) ?_ ?_
  · rintro i σ' H' hi ⟨z, rfl, ex⟩
    have hi : i < ns.length := by omega
    have hat : ∀ {σ : L2.St} {H1 : Hp} {tl ti : TE} {c : Addr}, Ev tl σ H1 (.ref c) → H1 c = some (.lst (ns.map V.int)) → Ev ti σ H1 (.int (i : Int)) → Ev (tOp (rIxL K) tl ti) σ H1 (.int (ns.getD i 0)) := fun h1 h2 h3 => ev_at (Ev.s h1 (sq_of h2)) h3 (at_of rfl (at_int (gl_get hi)))
    refine s_when (b := false) (et_or (a := !true) (b := false) (et_not (et_B (ev_isint (hat (ev_var rfl) (ex _ _ ha) (ev_var rfl))))) fun _ => et_test (Ev.is (ev_ne (hat (ev_var rfl) (ex _ _ ha) (ev_var rfl)) (hat (ev_var rfl) (ex _ _ hb) (ev_var rfl)) rfl) (by rw [decide_eq_true rfl]; rfl))) (fun hb => by cases hb) fun _ H2 e2 => ?_
    exact ⟨_, rfl, ex.trans e2⟩
  · rintro σ' H' ⟨z, rfl, ex⟩
    walk_at "ret"
    intro H2 e2
    exact k _ (ex.trans e2)

theorem pow_cast (k : Nat) : ((2 : Int) ^ k) = ((2 ^ k : Nat) : Int) := by rw [Int.natCast_pow]; rfl
/-! ### BitReader -/
theorem flat_drop : ∀ (ds : List Nat) (a : Nat), (ds.flatMap bits8).drop (8 * a) = (ds.drop a).flatMap bits8
  | [], a => by rw [List.flatMap_nil, List.drop_nil, List.drop_nil, List.flatMap_nil]
  | d :: r, 0 => rfl
  | d :: r, a + 1 => by
    rw [List.flatMap_cons, show 8 * (a + 1) = (bits8 d).length + 8 * a by show _ = 8 + 8 * a; omega, List.drop_append, List.drop_of_length_le (by omega), List.nil_append, show (bits8 d).length + 8 * a - (bits8 d).length = 8 * a by omega]
    exact flat_drop r a
theorem flat_take : ∀ (ds : List Nat) (m : Nat), (ds.flatMap bits8).take (8 * m) = (ds.take m).flatMap bits8
  | [], m => by rw [List.flatMap_nil, List.take_nil, List.take_nil, List.flatMap_nil]
  | d :: r, 0 => rfl
  | d :: r, m + 1 => by
    rw [List.flatMap_cons, show 8 * (m + 1) = (bits8 d).length + 8 * m by show _ = 8 + 8 * m; omega, List.take_append, List.take_of_length_le (by omega), show (bits8 d).length + 8 * m - (bits8 d).length = 8 * m by omega, flat_take r m]
    rfl
def numB (bs : List Nat) : Nat := bs.foldl (fun a b => a * 2 ^ 8 + b) 0
theorem numB_snoc (bs : List Nat) (b : Nat) : numB (bs ++ [b]) = numB bs * 2 ^ 8 + b := by unfold numB; rw [List.foldl_append]; rfl
theorem numB_bits (bs : List Nat) (h : ∀ b ∈ bs, b < 256) : ∀ k, k ≤ bs.length → bitsN (8 * k) (numB (bs.take k)) = (bs.take k).flatMap bits8 ∧ numB (bs.take k) < 2 ^ (8 * k)
  | 0, _ => ⟨rfl, by rw [List.take_zero]; decide⟩
  | k + 1, hk => by
    obtain ⟨h1, h2⟩ := numB_bits bs h k (by omega)
    have hb : bs[k]? = some bs[k] := List.getElem?_eq_getElem (by omega)
    have hlt : bs[k] < 2 ^ 8 := h _ (List.getElem_mem (by omega))
    rw [show bs.take (k + 1) = bs.take k ++ [bs[k]] from by rw [List.take_add_one, hb]; rfl, numB_snoc, show 8 * (k + 1) = 8 * k + 8 by omega, bitsN_cat hlt, h1, List.flatMap_append, List.flatMap_cons, List.flatMap_nil, List.append_nil]
    refine ⟨rfl, ?_⟩
    rw [Nat.pow_add]
    have : (numB (bs.take k) + 1) * 2 ^ 8 ≤ 2 ^ (8 * k) * 2 ^ 8 := Nat.mul_le_mul_right _ h2
    rw [Nat.add_mul, Nat.one_mul] at this
    omega
theorem valL_bitsN : ∀ (w v : Nat), valL (bitsN w v) = v % 2 ^ w
  | 0, v => by rw [Nat.pow_zero, Nat.mod_one]; rfl
  | w + 1, v => by
    rw [bitsN_add w 1 v]
    show valL (bitsN w (v / 2 ^ 1) ++ [v.testBit 0]) = _
    have e : v % 2 ^ (w + 1) = v % 2 + 2 * (v / 2 % 2 ^ w) := by rw [Nat.pow_succ, Nat.mul_comm, Nat.mod_mul]
    rw [valL_snoc, valL_bitsN w (v / 2 ^ 1), Nat.pow_one, e, Nat.testBit_zero]
    have := Nat.mod_two_eq_zero_or_one v
    rcases this with h | h
    · rw [h]
      show _ + 0 = _
      omega
    · rw [h]
      show _ + 1 = _
      omega
theorem slice_bits {ds : List Nat} (hd : ∀ d ∈ ds, d < 256) {pos w : Nat} (h : pos + w ≤ 8 * ds.length) : valL (((ds.flatMap bits8).drop pos).take w) = numB ((ds.drop (pos / 8)).take ((pos + w + 7) / 8 - pos / 8)) / 2 ^ (8 * ((pos + w + 7) / 8) - (pos + w)) % 2 ^ w := by
  generalize hm : (pos + w + 7) / 8 - pos / 8 = m
  generalize hk : 8 * ((pos + w + 7) / 8) - (pos + w) = k
  have hsl : ((ds.drop (pos / 8)).take m).length = m := by rw [List.length_take, List.length_drop]; omega
  have hb := (numB_bits ((ds.drop (pos / 8)).take m) (fun b hb => hd b (List.mem_of_mem_drop (List.mem_of_mem_take hb))) m (by omega)).1
  rw [List.take_of_length_le (by omega)] at hb
  rw [← flat_take, ← flat_drop] at hb
  generalize numB ((ds.drop (pos / 8)).take m) = x at *
  have h8 : 8 * m = pos % 8 + (w + k) := by omega
  have hdrop : ((ds.flatMap bits8).drop pos).take w = ((((ds.flatMap bits8).drop (8 * (pos / 8))).take (8 * m)).drop (pos % 8)).take w := by
    rw [List.drop_take, List.take_take, List.drop_drop, show 8 * (pos / 8) + pos % 8 = pos by omega, Nat.min_eq_left (by omega)]
  rw [hdrop, ← hb, h8, bitsN_add, bitsN_add, List.drop_left' (bitsN_len _ _), List.take_left' (bitsN_len _ _), valL_bitsN]
def rF (d : Addr) (pos : Nat) : List (Str × V) := [("_data", .ref d), ("_position", .int (pos : Int))]
def RdAt (C : Addr) (H : Hp) (a d : Addr) (pos : Nat) : Prop := ∃ dx, H a = some (.ins C dx (rF d pos))
def FrA (a : Addr) (H H' : Hp) : Prop := ∀ b o, b ≠ a → H b = some o → H' b = some o
theorem FrA.ex {a : Addr} {H H1 : Hp} (h : Ex H H1) : FrA a H H1 := fun b o _ e => h b o e
theorem FrA.trans {a : Addr} {H H1 H2 : Hp} (h : FrA a H H1) (g : FrA a H1 H2) : FrA a H H2 := fun b o n e => g b o n (h b o n e)
theorem FrA.upd {a : Addr} {H H1 : Hp} {o : HO} (h : FrA a H H1) : FrA a H (upd H1 a o) := fun b p n e => by rw [upd_ne n]; exact h b p n e
theorem RdAt.ex {C a d : Addr} {H H1 : Hp} {pos : Nat} (e : Ex H H1) (h : RdAt C H a d pos) : RdAt C H1 a d pos := by
  obtain ⟨dx, h⟩ := h
  exact ⟨dx, e _ _ h⟩
theorem RdAt.ne {C a d : Addr} {H : Hp} {pos : Nat} {p : Addr} {xs : List V} (h : RdAt C H a d pos) (hp : H p = some (.lst xs)) : p ≠ a := by
  obtain ⟨dx, h⟩ := h
  intro e
  rw [e, h] at hp
  cases hp
def sp_rinit (C : Addr) : Sp := fun vs H Q _ => ∃ (a dx d : Addr) (at_ : Nat), vs = [.ref a, .ref d, .int (at_ : Int)] ∧ H a = some (.ins C dx []) ∧ at_ ≤ 1000000 ∧ ∀ H', FrA a H H' → RdAt C H' a d (8 * at_) → Q .non H'
theorem ok_BitReader_init (T : TX K mg) : FnOk P w K mg base CX0 1 T.a_BitReader_init T.d_BitReader_init ["self", "data", "at"] (sp_rinit T.C_BitReader) := by
  refine T.F_BitReader_init.ok sc_BitReader_init (fun vs H Q E h => by obtain ⟨a, dx, d, t, rfl, _⟩ := h; rfl) (fun cdv A outer s H vs Q E hr h => ?_)
  obtain ⟨a, dx, d, t, rfl, ha, ht, k⟩ := h
  refine ⟨_, PSs.nox (pss_cons (ps_fld (pv 0) (pv 1) rfl)
      (pss_one (ps_fld (pv 0) (pe_op op_mul (pv 2) pe_int) rfl))), ?_⟩
  refine q_fld T.cl_BitReader T.n_BitReader_data (v := .ref d) (ev_var rfl) (ev_var rfl) ha (by decide) fun H1 e1 => ?_
  refine s_fld T.cl_BitReader T.n_BitReader_position (v := .int ((8 * t : Nat) : Int)) (Ev.is (ev_I (ev_var rfl) ev_c (.inr (by decide))) (congrArg V.int (by omega))) (ev_var rfl) upd_same (Nat.le_of_ble_eq_true rfl) fun H2 e2 => ?_
  exact k _ ((FrA.ex e1).upd.trans (FrA.ex e2)).upd ⟨dx, upd_same⟩
def sp_read (C : Addr) : Sp := fun vs H Q _ => ∃ (a d : Addr) (ds : List Nat) (pos wd : Nat), vs = [.ref a, .int (wd : Int)] ∧ RdAt C H a d pos ∧ H d = some (.lst ((cs ds).map V.int)) ∧ (∀ b ∈ ds, b < 256) ∧ wd ≤ 64 ∧ pos + wd ≤ 8 * ds.length ∧ ds.length ≤ 100000 ∧ ∀ H', FrA a H H' → RdAt C H' a d (pos + wd) → Q (.int ((valL (((ds.flatMap bits8).drop pos).take wd) : Nat) : Int)) H'
theorem q_forSr {σ : L2.St} {H : Hp} {D : Ends} {tu tz : TS} {tl : TE} {g : TG} {xs : List V} (h : EvS K tl σ H xs) (k : ∀ p H1, Ex H H1 → SqL K H1 p xs → tSeq (tFor (iList K (tC (.ref p))) g tu) tz D σ H1) : tSeq (tFor (iList K tl) g tu) tz D σ H := h H (Ex.refl H) _ fun p H1 e hp => k p H1 e hp
theorem ok_BitReader_read (T : TX K mg) : FnOk P w K mg base CX0 1 T.a_BitReader_read T.d_BitReader_read ["self", "width"] (sp_read T.C_BitReader) := by
  refine T.F_BitReader_read.ok sc_BitReader_read (fun vs H Q E h => by obtain ⟨a, d, ds, pos, wd, rfl, _⟩ := h; rfl) (fun cdv A outer s H vs Q E hr h => ?_)
  obtain ⟨a, d, ds, pos, wd, rfl, ⟨dx, ha⟩, hd, hds, hw, hp, hlen, k⟩ := h
  refine ⟨_, (pss_cons (ps_set (i := 2) sc_BitReader_read.nd rfl (Or.inl rfl) (pe_fld (pv 0) rfl))
      (pss_cons (ps_set (i := 3) sc_BitReader_read.nd rfl (Or.inl rfl) (pe_fld (pv 0) rfl))
      (pss_cons (ps_set (i := 4) sc_BitReader_read.nd rfl (Or.inl rfl) (pe_op op_add (pv 3) (pv 1)))
      (pss_cons (ps_if (pt_cmpR op_gt (pv 4) (pe_op op_mul (pe_callB (r := rLenS K) call_len_seq (by rfl) T.m_len PySem.boot_len (pa_cons (pv 2) pa_nil)) pe_int) (nomark _)) (pss_one ps_never) pss_nil)
      (pss_cons (ps_set (i := 5) sc_BitReader_read.nd rfl (Or.inl rfl) (pe_op op_fdiv (pe_op op_add (pv 4) pe_int) pe_int))
      (pss_cons (ps_set (i := 6) sc_BitReader_read.nd rfl (Or.inl rfl) pe_int)
      (pss_cons (ps_for PassesOwn.never rfl (pi_list (pe_slice (r := rSlL K) sl_list (pv 2) (po_some (pe_op op_fdiv (pv 3) pe_int)) (po_some (pv 5)))) (pg_name (i := 7) sc_BitReader_read.nd rfl (Or.inl rfl)) (pss_one (ps_set (i := 6) sc_BitReader_read.nd rfl (Or.inl rfl) (pe_op op_or (pe_op op_shl (pv 6) pe_int) (pv 7)))))
      (pss_cons (ps_fld (pv 0) (pv 4) rfl)
      (pss_one (ps_ret (pe_op op_and (pe_op op_shr (pv 6) (pe_op op_sub (pe_op op_mul (pv 5) pe_int) (pv 4))) (pe_op op_sub (pe_op op_shl pe_int (pv 1)) pe_int)))))))))))), ?_⟩
  refine q_asg (ev_fld T.cl_BitReader T.n_BitReader_data (v := .ref d) (ev_var rfl) ha rfl) fun H1 e1 => ?_
  refine q_asg (ev_fld T.cl_BitReader T.n_BitReader_position (v := .int (pos : Int)) (ev_var rfl) (e1 _ _ ha) rfl) fun H2 e2 => ?_
  refine q_asg (v := .int ((pos + wd : Nat) : Int)) (Ev.is (ev_I0 (ev_var rfl) (ev_var rfl)) (congrArg V.int (by omega))) fun H3 e3 => ?_
  have ex3 := (e1.trans e2).trans e3
  refine q_when (b := false) (et_test (Ev.is (ev_I0 (ev_var rfl) (ev_I (ev_lenS (Ev.s (ev_var rfl) (sq_of (ex3 _ _ hd)))) ev_c (.inr (by decide)))) (congrArg V.bl (decide_eq_false (by rw [List.length_map, cs_len]; omega))))) (fun hb => by cases hb) fun _ H4 e4 => ?_
  refine q_asg (v := .int (((pos + wd + 7) / 8 : Nat) : Int)) (Ev.is (ev_I (ev_I0 (ev_var rfl) ev_c) ev_c ⟨by decide, by decide⟩) (congrArg V.int (by omega))) fun H5 e5 => ?_
  walk_at "asg"
  intro H6 e6
  have ex6 := ((ex3.trans e4).trans e5).trans e6
  have hsb := slice_bits hds hp
  generalize hbs : (ds.drop (pos / 8)).take ((pos + wd + 7) / 8 - pos / 8) = bs at *
  have hbl : bs.length ≤ 9 := by rw [← hbs, List.length_take]; omega
  have hb256 : ∀ b ∈ bs, b < 256 := fun b hb => hds b (by rw [← hbs] at hb; exact List.mem_of_mem_drop (List.mem_of_mem_take hb))
  refine q_forSr (xs := (cs bs).map V.int) (EvR.s (EvL.r (EvL.is (el_mid (ns := cs ds) (i := pos / 8) (j := (pos + wd + 7) / 8) (Ev.s (ev_var rfl) (sq_of (ex6 _ _ hd))) (Ev.is (ev_I (ev_var rfl) ev_c ⟨by decide, by decide⟩) (congrArg V.int (by omega))) (ev_var rfl)) (by rw [cs_drop, cs_take, hbs])))) fun p H7 e7 hq => ?_
  refine q_forLn (a := p) ev_c hq (fun i σ' H' => ∃ c, σ' = [some (.ref a), some (.int (wd : Int)), some (.ref d), some (.int (pos : Int)), some (.int ((pos + wd : Nat) : Int)), some (.int (((pos + wd + 7) / 8 : Nat) : Int)), some (.int ((numB (bs.take i) : Nat) : Int)), c] ∧ Ex H7 H')
    (fun H8 e8 => ⟨none, rfl, e8⟩) (fun i σ' H' _ h => by obtain ⟨_, _, e⟩ := h; exact ex_l e hq) ?_ ?_
  · rintro i x σ' H8 hx ⟨c, rfl, e8⟩
    obtain ⟨n, hn, hi, rfl⟩ := int_at hx
    rw [cs_len] at hi
    have hbi : bs[i]? = some bs[i] := List.getElem?_eq_getElem hi
    have hn2 := cs_at hbi
    rw [hn] at hn2
    have hn2 := Option.some.inj hn2
    have hlt : bs[i] < 256 := hb256 _ (List.getElem_mem hi)
    have hx64 := (numB_bits bs hb256 i (by omega)).2
    rw [show bs.take (i + 1) = bs.take i ++ [bs[i]] from by rw [List.take_add_one, hbi]; rfl, numB_snoc]
    generalize bs[i] = b at *
    subst hn2
    have hx64 : numB (bs.take i) < 2 ^ 64 := Nat.lt_of_lt_of_le hx64 (Nat.pow_le_pow_right (by decide) (by omega))
    generalize numB (bs.take i) = x at *
    refine s_asg (Ev.is (ev_I0 (ev_I (ev_var rfl) ev_c (show CPow (x : Int) 8 from ⟨by decide, by decide, by rw [Int.natAbs_natCast]; exact hx64⟩)) (ev_var rfl)) (congrArg V.int (a₂ := ((x * 2 ^ 8 + b : Nat) : Int)) ?_)) fun H9 e9 => ⟨_, rfl, e8.trans e9⟩
    show Builtin.bitOr ((x : Int) * 2 ^ 8) (b : Int) = _
    rw [_root_.Bits.bitOr_join' (by omega) (by show (b : Int) < 256; omega) (by omega)]
    show (b : Int) + (x : Int) * 256 = ((x * 256 + b : Nat) : Int)
    omega
  · rintro σ' H8 ⟨c, rfl, e8⟩
    rw [List.length_map, cs_len, List.take_length]
    have ex8 := (ex6.trans e7).trans e8
    refine q_fld T.cl_BitReader T.n_BitReader_position (v := .int ((pos + wd : Nat) : Int)) (ev_var rfl) (ev_var rfl) (ex8 _ _ ha) (Nat.le_of_ble_eq_true rfl) fun H9 e9 => ?_
    refine s_ret (v := .int ((valL (((ds.flatMap bits8).drop pos).take wd) : Nat) : Int)) (Ev.is (ev_I0 (ev_I (j := ((8 * ((pos + wd + 7) / 8) - (pos + wd) : Nat) : Int)) (ev_var rfl) (Ev.is (ev_I0 (ev_I (ev_var rfl) ev_c (.inr (by decide))) (ev_var rfl)) (congrArg V.int (by omega))) (by show (0 : Int) ≤ _; omega)) (ev_I0 (ev_I ev_c (ev_var rfl) (show CPow 1 (wd : Int) from ⟨by omega, by omega, by decide⟩)) ev_c)) (congrArg V.int ?_)) fun H10 e10 => ?_
    · rw [Int.toNat_natCast, Int.toNat_natCast, Int.one_mul, bitAnd_maskZ, pow_cast, pow_cast, hsb, Int.natCast_emod, Int.natCast_ediv]
    · exact k H10 (((FrA.ex ex8).trans (FrA.ex e9)).upd.trans (FrA.ex e10)) (RdAt.ex e10 ⟨dx, upd_same⟩)
def sp_place (C : Addr) (f : Nat → Int) : Sp := fun vs H Q _ => ∃ (a d : Addr) (pos : Nat), vs = [.ref a] ∧ RdAt C H a d pos ∧ RetV (.int (f pos)) H Q
theorem ok_BitReader_byte_place (T : TX K mg) : FnOk P w K mg base CX0 1 T.a_BitReader_byte_place T.d_BitReader_byte_place ["self"] (sp_place T.C_BitReader fun pos => (pos / 8 : Nat)) := by
  refine T.F_BitReader_byte_place.ok sc_BitReader_byte_place (fun vs H Q E h => by obtain ⟨a, d, pos, rfl, _⟩ := h; rfl) (fun cdv A outer s H vs Q E hr h => ?_)
  obtain ⟨a, d, pos, rfl, ⟨dx, ha⟩, k⟩ := h
  refine ⟨_, (pss_one (ps_ret (pe_op op_fdiv (pe_fld (pv 0) rfl) pe_int))), ?_⟩
  exact s_ret (Ev.is (ev_I (ev_fld T.cl_BitReader T.n_BitReader_position (v := .int (pos : Int)) (ev_var rfl) ha rfl) ev_c ⟨by decide, by decide⟩) (congrArg V.int (by show _ = ((pos / 8 : Nat) : Int); omega))) fun H1 e1 => k H1 e1
theorem ok_BitReader_bit_place (T : TX K mg) : FnOk P w K mg base CX0 1 T.a_BitReader_bit_place T.d_BitReader_bit_place ["self"] (sp_place T.C_BitReader fun pos => (pos : Nat)) := by
  refine T.F_BitReader_bit_place.ok sc_BitReader_bit_place (fun vs H Q E h => by obtain ⟨a, d, pos, rfl, _⟩ := h; rfl) (fun cdv A outer s H vs Q E hr h => ?_)
  obtain ⟨a, d, pos, rfl, ⟨dx, ha⟩, k⟩ := h
  refine ⟨_, (pss_one (ps_ret (pe_fld (pv 0) rfl))), ?_⟩
  exact s_ret (ev_fld T.cl_BitReader T.n_BitReader_position (v := .int (pos : Int)) (ev_var rfl) ha rfl) fun H1 e1 => k H1 e1
theorem ev_place {σ : L2.St} {H : Hp} {to : TE} {E : XK} {C a d : Addr} {pos : Nat} {m : Str} {f : Nat → Int} (h : Ev to σ H (.ref a)) (hR : RdAt C H a d pos) (hm : (rF d pos).lookup m = none) : Ev (tMeth C m (sp_place C f) [] E to tNil) σ H (.int (f pos)) := by
  obtain ⟨dx, ha⟩ := id hR
  exact ev_mth h ha hm ea_nil fun H1 e Q q _ => ⟨a, d, pos, rfl, hR.ex e, q⟩

theorem q_forRC {σ : L2.St} {H : Hp} {D : Ends} {tu tz : TS} {ta : TA} {j n : Nat} {a b c : Int} (h : EvA ta σ H [.int a, .int b, .int c]) (hr : RgC a b c n) (Pv : Nat → L2.St → Hp → Prop) (h0 : ∀ H1, Ex H H1 → Pv 0 σ H1)
    (hs : ∀ i σ' H', i < n → Pv i σ' H' → tu { nx := Pv (i + 1), rt := D.rt, bk := tz D, ct := Pv (i + 1) } (σ'.set j (some (.int (a + (i : Nat) * c)))) H') (hd : ∀ σ' H', Pv n σ' H' → tz D σ' H') : tSeq (tFor (iRng3 ta) (gName j) tu) tz D σ H :=
  h H (Ex.refl H) _ fun H1 e1 => ⟨a, b, c, n, rfl, hr, for_rangeC Pv (h0 H1 e1) hs hd⟩

/-! ### coded numbers -/
def sz (n : Nat) : Nat := if n < 128 then 0 else if n < 2048 then 1 else if n < 65536 then 2 else if n < 2097152 then 3 else if n < 67108864 then 4 else if n < 2147483648 then 5 else 6
def hdn (s : Nat) : Nat := [0, 192, 224, 240, 248, 252, 254].getD s 0
def lim (s : Nat) : Nat := [7, 11, 16, 21, 26, 31, 36].getD s 0
def rest (n s : Nat) : List Nat := (List.range s).map fun k => 128 + n / 2 ^ (6 * (s - 1 - k)) % 64
def form (n : Nat) : List Nat := (hdn (sz n) + n / 2 ^ (6 * sz n)) :: rest n (sz n)
theorem rest_len (n s : Nat) : (rest n s).length = s := by unfold rest; rw [List.length_map, List.length_range]
theorem form_len (n : Nat) : (form n).length = sz n + 1 := by unfold form; rw [List.length_cons, rest_len]
theorem sz_le (n : Nat) : sz n ≤ 6 := by
  unfold sz
  repeat' split
  all_goals omega
theorem sz_lim {n : Nat} (h : n < 2 ^ 36) {s : Nat} (hs : s ≤ 6) : n < 2 ^ lim s ↔ sz n ≤ s := by
  have h : n < 68719476736 := h
  unfold sz
  match s, hs with
  | 0, _ => show n < 128 ↔ _; repeat' split
            all_goals omega
  | 1, _ => show n < 2048 ↔ _; repeat' split
            all_goals omega
  | 2, _ => show n < 65536 ↔ _; repeat' split
            all_goals omega
  | 3, _ => show n < 2097152 ↔ _; repeat' split
            all_goals omega
  | 4, _ => show n < 67108864 ↔ _; repeat' split
            all_goals omega
  | 5, _ => show n < 2147483648 ↔ _; repeat' split
            all_goals omega
  | 6, _ => show n < 68719476736 ↔ _; repeat' split
            all_goals omega
theorem lim_eq {s : Nat} (h1 : 1 ≤ s) (h2 : s ≤ 6) : lim s = 5 * s + 6 := by
  match s, h1, h2 with
  | 1, _, _ => rfl
  | 2, _, _ => rfl
  | 3, _, _ => rfl
  | 4, _, _ => rfl
  | 5, _, _ => rfl
  | 6, _, _ => rfl
theorem hdn_eq {s : Nat} (h1 : 1 ≤ s) (h2 : s ≤ 6) : hdn s = 256 - 2 ^ (7 - s) := by
  match s, h1, h2 with
  | 1, _, _ => rfl
  | 2, _, _ => rfl
  | 3, _, _ => rfl
  | 4, _, _ => rfl
  | 5, _, _ => rfl
  | 6, _, _ => rfl
theorem head_lt {n : Nat} (h : n < 2 ^ 36) (h1 : 1 ≤ sz n) : n / 2 ^ (6 * sz n) < 2 ^ (6 - sz n) := by
  have h2 := (sz_lim h (sz_le n)).mpr (Nat.le_refl _)
  have h3 := sz_le n
  rw [lim_eq h1 h3, show 5 * sz n + 6 = 6 * sz n + (6 - sz n) by omega, Nat.pow_add] at h2
  exact Nat.div_lt_of_lt_mul h2
def sp_bound : Sp := fun vs H Q _ => ∃ c : Nat, vs = [.int (c : Int)] ∧ 1 ≤ c ∧ c ≤ 7 ∧ RetV (.int ((2 ^ (if c = 1 then 7 else 5 * c + 1) : Nat) : Int)) H Q
theorem ok_bound (T : TX K mg) : FnOk P w K mg base CX0 1 T.a_bound T.d_bound ["count"] sp_bound := by
  refine T.F_bound.ok sc_bound (fun vs H Q E h => by obtain ⟨c, rfl, _⟩ := h; rfl) (fun cdv A outer s H vs Q E hr h => ?_)
  obtain ⟨c, rfl, h1, h7, k⟩ := h
  refine ⟨_, (pss_cons (ps_if (pt_cmpR op_eq (pv 0) pe_int (nomark _)) (pss_one (ps_ret pe_int)) pss_nil)
      (pss_one (ps_ret (pe_op op_shl pe_int (pe_op op_add (pe_op op_mul pe_int (pv 0)) pe_int))))), ?_⟩
  refine q_when (b := decide (c = 1)) (et_test (Ev.is (ev_eq (ev_var rfl) ev_c rfl) (congrArg V.bl (decide_eq_decide.mpr ⟨fun h => by have := V.int.inj h; omega, fun h => by rw [h]; rfl⟩)))) (fun hb H1 e1 => ?_) (fun hb H1 e1 => ?_)
  · have hc : c = 1 := of_decide_eq_true hb
    subst hc
    exact s_ret (Ev.is ev_c rfl) fun H2 e2 => k H2 (e1.trans e2)
  · have hc : ¬ c = 1 := of_decide_eq_false hb
    rw [if_neg hc] at k
    exact s_ret (Ev.is (ev_I (j := ((5 * c + 1 : Nat) : Int)) ev_c (Ev.is (ev_I0 (ev_I ev_c (ev_var rfl) (.inl (by decide))) ev_c) (congrArg V.int (by omega))) (show CPow 1 ((5 * c + 1 : Nat) : Int) from ⟨by omega, by omega, by decide⟩)) (congrArg V.int (by rw [Int.toNat_natCast, Int.one_mul, pow_cast]))) fun H2 e2 => k H2 (e1.trans e2)
theorem ev_bound {σ : L2.St} {H : Hp} {te : TE} {E : XK} {c : Nat} {x : Int} (h : Ev te σ H (.int x)) (hx : x = (c : Int)) (h1 : 1 ≤ c) (h7 : c ≤ 7) : Ev (tCall sp_bound [] E (tCons te tNil)) σ H (.int ((2 ^ (if c = 1 then 7 else 5 * c + 1) : Nat) : Int)) := by
  subst hx
  exact ev_call (ea_cons h ea_nil) fun H1 _ Q q _ => ⟨c, rfl, h1, h7, q⟩
def sp_least : Sp := fun vs H Q _ => ∃ c : Nat, vs = [.int (c : Int)] ∧ 2 ≤ c ∧ c ≤ 8 ∧ RetV (.int ((256 - 2 ^ (8 - c) : Nat) : Int)) H Q
theorem ok_least_first (T : TX K mg) : FnOk P w K mg base CX0 1 T.a_least_first T.d_least_first ["count"] sp_least := by
  refine T.F_least_first.ok sc_least_first (fun vs H Q E h => by obtain ⟨c, rfl, _⟩ := h; rfl) (fun cdv A outer s H vs Q E hr h => ?_)
  obtain ⟨c, rfl, h1, h7, k⟩ := h
  refine ⟨_, (pss_one (ps_ret (pe_op op_sub pe_int (pe_op op_shl pe_int (pe_op op_sub pe_int (pv 0)))))), ?_⟩
  have h3 : 2 ^ (8 - c) ≤ 2 ^ 6 := Nat.pow_le_pow_right (by decide) (by omega)
  exact s_ret (Ev.is (ev_I0 ev_c (ev_I (j := ((8 - c : Nat) : Int)) ev_c (Ev.is (ev_I0 ev_c (ev_var rfl)) (congrArg V.int (by omega))) (show CPow 1 ((8 - c : Nat) : Int) from ⟨by omega, by omega, by decide⟩))) (congrArg V.int (by rw [Int.toNat_natCast, Int.one_mul, pow_cast]; omega))) fun H2 e2 => k H2 e2
theorem ev_least {σ : L2.St} {H : Hp} {te : TE} {E : XK} {c : Nat} {x : Int} (h : Ev te σ H (.int x)) (hx : x = (c : Int)) (h1 : 2 ≤ c) (h7 : c ≤ 8) : Ev (tCall sp_least [] E (tCons te tNil)) σ H (.int ((256 - 2 ^ (8 - c) : Nat) : Int)) := by
  subst hx
  exact ev_call (ea_cons h ea_nil) fun H1 _ Q q _ => ⟨c, rfl, h1, h7, q⟩
theorem ev_six {σ : L2.St} {H : Hp} {t1 t2 : TE} {n m : Nat} {j : Int} (h1 : Ev t1 σ H (.int (n : Int))) (h2 : Ev t2 σ H (.int j)) (hj : j = (m : Int)) : Ev (tOp (rI0 fun i j => .int (Builtin.bitAnd i j)) (tOp (rI (fun _ j => 0 ≤ j) fun i j => .int (i / 2 ^ j.toNat)) t1 t2) (tC (.int 63))) σ H (.int ((n / 2 ^ m % 64 : Nat) : Int)) := by
  subst hj
  exact Ev.is (ev_I0 (ev_I h1 h2 (by show (0 : Int) ≤ _; omega)) ev_c) (congrArg V.int (by rw [Int.toNat_natCast, PyProof.Rows.bitAnd_m6, pow_cast, Int.natCast_emod, Int.natCast_ediv]; rfl))
theorem ev_shr {σ : L2.St} {H : Hp} {t1 t2 : TE} {n m : Nat} {j : Int} (h1 : Ev t1 σ H (.int (n : Int))) (h2 : Ev t2 σ H (.int j)) (hj : j = (m : Int)) : Ev (tOp (rI (fun _ j => 0 ≤ j) fun i j => .int (i / 2 ^ j.toNat)) t1 t2) σ H (.int ((n / 2 ^ m : Nat) : Int)) := by
  subst hj
  exact Ev.is (ev_I h1 h2 (by show (0 : Int) ≤ _; omega)) (congrArg V.int (by rw [Int.toNat_natCast, pow_cast, Int.natCast_ediv]))
def sp_wnum : Sp := fun vs H Q _ => ∃ n : Nat, vs = [.int (n : Int)] ∧ n < 2 ^ 36 ∧ ∀ p H', H p = none → Ex H H' → H' p = some (.lst ((cs (form n)).map V.int)) → Q (.ref p) H'
theorem ok_write_number (T : TX K mg) : FnOk P w K mg base CX0 2 T.a_write_number T.d_write_number ["number"] sp_wnum := by
  refine T.F_write_number.ok sc_write_number (fun vs H Q E h => by obtain ⟨n, rfl, _⟩ := h; rfl) (fun cdv A outer s H vs Q E hr h => ?_)
  obtain ⟨n, rfl, hn, k⟩ := h
  refine ⟨_, (pss_cons (ps_if (pt_cmpR op_lt (pv 0) pe_int (nomark _)) (pss_one (ps_ret (pe_lst (pa_cons (pv 0) pa_nil)))) pss_nil)
      (pss_cons (ps_set (i := 1) sc_write_number.nd rfl (Or.inl rfl) pe_int)
      (pss_cons (ps_while PassesOwn.never (PW.pt (pw_and (pt_cmpR op_lt (pv 1) pe_int (nomark _)) (pw_and1 (pt_cmpR op_ge (pv 0) (pe_call (ok_bound T) (hr.mono (by decide)) (by rfl) T.g_bound T.F_bound.kp T.b_bound .nil pass0 (pa_cons (pv 1) pa_nil)) (nomark _))))) (pss_one (ps_aug (i := 1) sc_write_number.nd rfl (Or.inl rfl) pe_int ip_add)))
      (pss_cons (ps_set (i := 2) sc_write_number.nd rfl (Or.inl rfl) (pe_lst (pa_cons (pe_op op_add (pe_call (ok_least_first T) (hr.mono (by decide)) (by rfl) T.g_least_first T.F_least_first.kp T.b_least_first .nil pass0 (pa_cons (pv 1) pa_nil)) (pe_op op_shr (pv 0) (pe_op op_mul pe_int (pe_op op_sub (pv 1) pe_int)))) pa_nil)))
      (pss_cons (ps_for PassesOwn.never rfl (pi_range3 (by rfl) T.m_range (pa_cons (pe_op op_sub (pv 1) pe_int) (pa_cons (pe_un un_neg pe_int) (pa_cons (pe_un un_neg pe_int) pa_nil)))) (pg_name (i := 3) sc_write_number.nd rfl (Or.inl rfl)) (pss_one (ps_expr (pe_bm PySem.F.plainAttrs_list PySem.F.slot_list_append PySem.F.type_list_append mt_append (pv 2) (pa_cons (pe_op op_add pe_int (pe_op op_and (pe_op op_shr (pv 0) (pe_op op_mul pe_int (pv 3))) pe_int)) pa_nil)))))
      (pss_one (ps_ret (pv 2)))))))), ?_⟩
  have h6 := sz_le n
  refine q_when (b := decide (sz n = 0)) (et_test (Ev.is (ev_I0 (ev_var rfl) ev_c) (congrArg V.bl (decide_eq_decide.mpr (by
    have h0 := sz_lim hn (s := 0) (by decide)
    have h0 : n < 128 ↔ sz n ≤ 0 := h0
    show (n : Int) < 128 ↔ _
    omega))))) (fun hb H1 e1 => ?_) (fun hb H1 e1 => ?_)
  · have h0 : sz n = 0 := of_decide_eq_true hb
    refine s_retL (el_lst (ea_cons (ev_var rfl) ea_nil) (Nat.le_of_ble_eq_true rfl)) fun p H2 hp e2 g2 => ?_
    refine k p H2 (by cases h : H p with | none => rfl | some o => rw [e1 _ _ h] at hp; cases hp) (e1.trans e2) ?_
    unfold form
    rw [h0, Nat.mul_zero, Nat.pow_zero, Nat.div_one, show hdn 0 = 0 from rfl, Nat.zero_add]
    exact g2
  · have h1 : 1 ≤ sz n := by have := of_decide_eq_false hb; omega
    walk_at "asg"
    intro H2 e2
    refine q_while (fun m σ' H' => ∃ c : Nat, m = 7 - c ∧ 2 ≤ c ∧ c ≤ sz n + 1 ∧ σ' = [some (.int (n : Int)), some (.int (c : Int)), none, none] ∧ Ex H H') 5 ⟨2, rfl, Nat.le_refl _, by omega, rfl, e1.trans e2⟩ ?_
    rintro m _ H3 ⟨c, rfl, hc2, hc, rfl, ex⟩
    have hlast : c < 7 → (((2 ^ (if c = 1 then 7 else 5 * c + 1) : Nat) : Int) ≤ (n : Int) ↔ c ≤ sz n) := fun h7 => by
      have h0 := sz_lim hn (s := c - 1) (by omega)
      rw [lim_eq (by omega) (by omega), show 5 * (c - 1) + 6 = 5 * c + 1 by omega] at h0
      rw [if_neg (by omega)]
      omega
    refine ⟨decide (c < 7) && decide (c ≤ sz n), et_and (et_test (Ev.is (ev_I0 (ev_var rfl) ev_c) (congrArg V.bl (decide_eq_decide.mpr (by show (c : Int) < 7 ↔ _; omega))))) (fun hc7 => et_test (Ev.is (ev_I0 (ev_var rfl) (ev_bound (c := c) (ev_var rfl) rfl (by omega) (by omega))) (congrArg V.bl (decide_eq_decide.mpr (hlast (of_decide_eq_true hc7)))))), fun hb H4 e4 => ?_, fun hb H4 e4 => ?_⟩
    · rw [Bool.and_eq_true] at hb
      have hcs : c ≤ sz n := of_decide_eq_true hb.2
      refine ⟨fun σ2 H2 => ∃ m', m' < 7 - c ∧ _, fun σ2 H2 h => h, ?_⟩
      refine s_aug (b := 1) rfl ev_c fun H5 e5 => ?_
      exact ⟨7 - (c + 1), by omega, c + 1, rfl, by omega, by omega, rfl, ex.trans (e4.trans e5)⟩
    · have hcc : c = sz n + 1 := by
        by_cases h : c ≤ sz n
        · rw [decide_eq_true h, decide_eq_true (by omega)] at hb
          cases hb
        · omega
      subst hcc
      have ex4 := ex.trans e4
      refine q_asgL (xs := (cs [hdn (sz n) + n / 2 ^ (6 * sz n)]).map V.int) (el_lst (vs := [.int ((hdn (sz n) + n / 2 ^ (6 * sz n) : Nat) : Int)]) (ea_cons (Ev.is (ev_I0 (ev_least (c := sz n + 1) (ev_var rfl) rfl (by omega) (by omega)) (ev_shr (m := 6 * sz n) (ev_var rfl) (ev_I ev_c (ev_I0 (ev_var rfl) ev_c) (.inl (by decide))) (by omega))) (congrArg V.int (by rw [hdn_eq h1 h6, show 8 - (sz n + 1) = 7 - sz n by omega]; omega))) ea_nil) (Nat.le_of_ble_eq_true rfl)) fun p H5 hp e5 g5 => ?_
      have hp0 : H p = none := by cases h : H p with | none => rfl | some o => rw [ex4 _ _ h] at hp; cases hp
      refine q_forRC (n := sz n) (a := (sz n : Int) - 1) (b := -1) (c := -1) (ea_cons (Ev.is (ev_I0 (ev_var rfl) ev_c) (congrArg V.int (by omega))) (ea_cons (ev_negI ev_c) (ea_cons (ev_negI ev_c) ea_nil))) (by have h := RgC.neg (i := (sz n : Int) - 1) (j := -1) (by omega) (by omega) (by omega) (by omega); rwa [show ((sz n : Int) - 1 - -1).toNat = sz n by omega] at h) (fun i σ' H' => ∃ z, σ' = [some (.int (n : Int)), some (.int ((sz n + 1 : Nat) : Int)), some (.ref p), z] ∧ Ex H H' ∧ H' p = some (.lst ((cs ((hdn (sz n) + n / 2 ^ (6 * sz n)) :: (rest n (sz n)).take i)).map V.int))) (fun H6 e6 => ⟨none, rfl, ex4.trans (e5.trans e6), e6 _ _ g5⟩) ?_ ?_
      · rintro i σ' H6 hi ⟨z, rfl, ex6, g6⟩
        have hat : (rest n (sz n))[i]? = some (128 + n / 2 ^ (6 * (sz n - 1 - i)) % 64) := by
          unfold rest
          rw [List.getElem?_map, List.getElem?_range hi]
          rfl
        refine s_app (v := .int ((128 + n / 2 ^ (6 * (sz n - 1 - i)) % 64 : Nat) : Int)) g6 (ev_var rfl) (Ev.is (ev_I0 ev_c (ev_six (m := 6 * (sz n - 1 - i)) (ev_var rfl) (ev_I ev_c (ev_var rfl) (.inl (by decide))) (by omega))) (congrArg V.int (by omega))) (by rw [List.length_map, cs_len, List.length_cons, List.length_take, rest_len]; omega) fun H7 e7 => ?_
        refine ⟨_, rfl, Ex.mut (ex6.trans e7) hp0, ?_⟩
        rw [upd_same, List.take_add_one, hat]
        show _ = some (HO.lst ((cs ((hdn (sz n) + n / 2 ^ (6 * sz n)) :: ((rest n (sz n)).take i ++ [128 + n / 2 ^ (6 * (sz n - 1 - i)) % 64]))).map V.int))
        rw [← List.cons_append, cs_append, List.map_append]
        rfl
      · rintro σ' H6 ⟨z, rfl, ex6, g6⟩
        rw [List.take_of_length_le (by rw [rest_len]; exact Nat.le_refl _)] at g6
        walk_at "ret"
        intro H7 e7
        exact k p H7 hp0 (ex6.trans e7) (e7 _ _ g6)
/-- the law's form -/
theorem ok_law_form (T : TX K mg) : FnOk P w K mg base CX0 1 T.a_law_form T.d_law_form ["number"] sp_wnum := by
  refine T.F_law_form.ok sc_law_form (fun vs H Q E h => by obtain ⟨n, rfl, _⟩ := h; rfl) (fun cdv A outer s H vs Q E hr h => ?_)
  obtain ⟨n, rfl, hn, k⟩ := h
  refine ⟨_, (pss_cons (ps_set (i := 1) sc_law_form.nd rfl (Or.inl rfl) (pe_lst (pa_cons pe_int (pa_cons pe_int (pa_cons pe_int (pa_cons pe_int (pa_cons pe_int (pa_cons pe_int (pa_cons pe_int pa_nil)))))))))
      (pss_cons (ps_set (i := 2) sc_law_form.nd rfl (Or.inl rfl) (pe_lst (pa_cons pe_int (pa_cons pe_int (pa_cons pe_int (pa_cons pe_int (pa_cons pe_int (pa_cons pe_int (pa_cons pe_int pa_nil)))))))))
      (pss_cons (ps_set (i := 3) sc_law_form.nd rfl (Or.inr rfl) pe_int)
      (pss_cons (ps_for PassesOwn.never rfl (pi_range1 (by rfl) T.m_range (pa_cons pe_int pa_nil)) (pg_name (i := 4) sc_law_form.nd rfl (Or.inl rfl)) (pss_one (ps_if (pt_cmpR op_eq (pe_op op_shr (pv 0) (pe_ix (r := rIxL K) ix_list (pv 1) (pe_op op_sub pe_int (pv 4)) (fun _ _ => rfl))) pe_int (nomark _)) (pss_one (ps_set (i := 3) sc_law_form.nd rfl (Or.inr rfl) (pe_op op_sub pe_int (pv 4)))) pss_nil)))
      (pss_cons (ps_setLc (i := 5) (own := [("k", 4)]) (g := gName 4) (tt := tYes) rfl sc_law_form.nd rfl rfl (sw_true rfl rfl rfl (by decide +kernel)) (pi_range1 (by rfl) T.m_range (pa_cons (pv 3) pa_nil)) (blkOk_by (N := ["number", "limits", "heads", "size", "k", "rest"]) (sc := defScope s_law_form) (by decide +kernel)) (fun _ _ _ _ _ => pg_name (i := 4) sc_law_form.nd rfl (Or.inl rfl)) (fun _ _ _ _ _ => pts_nil) (fun _ _ _ _ _ => (pe_op op_add pe_int (pe_op op_and (pe_op op_shr (pv 0) (pe_op op_mul pe_int (pe_op op_sub (pe_op op_sub (pv 3) pe_int) (pv 4)))) pe_int))))
      (pss_one (ps_ret (pe_op op_cat (pe_lst (pa_cons (pe_op op_add (pe_ix (r := rIxL K) ix_list (pv 2) (pv 3) (fun _ _ => rfl)) (pe_op op_shr (pv 0) (pe_op op_mul pe_int (pv 3)))) pa_nil)) (pv 5))))))))), ?_⟩
  have h6 := sz_le n
  refine q_asgL (xs := (cs [7, 11, 16, 21, 26, 31, 36]).map V.int) (el_lst (by walk_at "ea") (by decide)) fun p1 H1 hp1 e1 g1 => ?_
  refine q_asgL (xs := (cs [0, 192, 224, 240, 248, 252, 254]).map V.int) (el_lst (by walk_at "ea") (by decide)) fun p2 H2 hp2 e2 g2 => ?_
  walk_at "asg"
  intro H3 e3
  have ex3 := (e1.trans e2).trans e3
  have gl1 := e3 _ _ (e2 _ _ g1)
  have gl2 := e3 _ _ g2
  refine q_forR1 (n := 7) (by walk_at "ea") (by omega) (fun i σ' H' => ∃ (s : Nat) (z4 : Option V), σ' = [some (.int (n : Int)), some (.ref p1), some (.ref p2), some (.int (s : Int)), z4, none] ∧ Ex H3 H' ∧ s = if i = 0 then 0 else max (sz n) (7 - i)) (fun H4 e4 => ⟨0, none, rfl, e4, rfl⟩) ?_ ?_
  · rintro i σ' H4 hi ⟨s, z4, rfl, ex, hs⟩
    have hi : i < 7 := by omega
    have hat : ([7, 11, 16, 21, 26, 31, 36] : List Nat)[6 - i]? = some (lim (6 - i)) := by
      match i, hi with
      | 0, _ => rfl
      | 1, _ => rfl
      | 2, _ => rfl
      | 3, _ => rfl
      | 4, _ => rfl
      | 5, _ => rfl
      | 6, _ => rfl
    have hl := sz_lim hn (s := 6 - i) (by omega)
    have hz : n / 2 ^ lim (6 - i) = 0 ↔ sz n ≤ 6 - i := by
      rw [← hl]
      constructor
      · intro h
        have := (Nat.div_eq_zero_iff (b := 2 ^ lim (6 - i))).mp h
        have := Nat.two_pow_pos (lim (6 - i))
        omega
      · exact fun h => Nat.div_eq_of_lt h
    refine s_when (b := decide (sz n ≤ 6 - i)) (et_test (Ev.is (ev_eq (ev_shr (m := lim (6 - i)) (ev_var rfl) (ev_at (Ev.s (ev_var rfl) (sq_of (ex _ _ gl1))) (Ev.is (ev_I0 ev_c (ev_var rfl)) (congrArg V.int (a₂ := ((6 - i : Nat) : Int)) (by omega))) (at_of rfl (at_int (cs_at hat)))) rfl) ev_c rfl) (congrArg V.bl (decide_eq_decide.mpr (by
      rw [← hz]
      exact ⟨fun h => by have := V.int.inj h; omega, fun h => by rw [h]; rfl⟩))))) (fun hb H5 e5 => ?_) (fun hb H5 e5 => ?_)
    · have hb : sz n ≤ 6 - i := of_decide_eq_true hb
      refine s_asg (v := .int ((6 - i : Nat) : Int)) (Ev.is (ev_I0 ev_c (ev_var rfl)) (congrArg V.int (by omega))) fun H6 e6 => ⟨6 - i, _, rfl, (ex.trans e5).trans e6, ?_⟩
      rw [if_neg (by omega)]
      omega
    · have hb : ¬ sz n ≤ 6 - i := of_decide_eq_false hb
      refine ⟨s, _, rfl, ex.trans e5, ?_⟩
      rw [hs, if_neg (by omega : ¬ i + 1 = 0)]
      split <;> omega
  · rintro σ' H4 ⟨s, z4, rfl, ex, hs⟩
    have hs : s = sz n := by
      rw [hs]
      show (if (7 : Nat) = 0 then 0 else max (sz n) (7 - 7)) = sz n
      rw [if_neg (by decide)]
      omega
    subst hs
    refine q_asgL (xs := (cs (rest n (sz n))).map V.int) (el_lcR (n := (sz n : Int)) _ (ea_cons (ev_var rfl) ea_nil) (by omega) (by rw [List.length_map, cs_len, rest_len]; omega) (by rw [List.length_map, cs_len, rest_len]; omega) (fun _ => rfl) fun i H5 e5 hi => ?_) fun p3 H5 hp3 e5 g5 => ?_
    · rw [List.length_map, cs_len, rest_len] at hi
      have hat : (rest n (sz n))[i]? = some (128 + n / 2 ^ (6 * (sz n - 1 - i)) % 64) := by
        unfold rest
        rw [List.getElem?_map, List.getElem?_range hi]
        rfl
      exact ⟨_, at_int (cs_at hat), Ev.is (ev_I0 ev_c (ev_six (m := 6 * (sz n - 1 - i)) (ev_var rfl) (ev_I ev_c (ev_I0 (ev_I0 (ev_var rfl) ev_c) (ev_var rfl)) (.inl (by decide))) (by omega))) (congrArg V.int (by omega))⟩
    have hat2 : ([0, 192, 224, 240, 248, 252, 254] : List Nat)[sz n]? = some (hdn (sz n)) := by
      unfold hdn
      rw [List.getD_eq_getElem?_getD, List.getElem?_eq_getElem (by show sz n < 7; omega)]
      rfl
    refine s_retL (xs := (cs (form n)).map V.int) (EvL.is (el_cat (EvL.r (el_lst (vs := [.int ((hdn (sz n) + n / 2 ^ (6 * sz n) : Nat) : Int)]) (ea_cons (Ev.is (ev_I0 (ev_at (Ev.s (ev_var rfl) (sq_of (e5 _ _ (ex _ _ gl2)))) (ev_var rfl) (at_of rfl (at_int (cs_at hat2)))) (ev_shr (m := 6 * sz n) (ev_var rfl) (ev_I ev_c (ev_var rfl) (.inl (by decide))) (by omega))) (congrArg V.int (by omega))) ea_nil) (Nat.le_of_ble_eq_true rfl))) (Ev.r (ev_var rfl) g5) (by rw [List.length_map, cs_len, rest_len]; show 1 + _ ≤ _; omega)) ?_) fun p H6 hp e6 g6 => ?_
    · unfold form
      rfl
    · have ex6 := (ex3.trans ex).trans e5
      exact k p H6 (by cases h : H p with | none => rfl | some o => rw [ex6 _ _ h] at hp; cases hp) (ex6.trans e6) g6

theorem el_form {σ : L2.St} {H : Hp} {te : TE} {E : XK} {n : Nat} (hn : n < 2 ^ 36) (h : Ev te σ H (.int (n : Int))) : EvL (tCall sp_wnum [] E (tCons te tNil)) σ H ((cs (form n)).map V.int) := el_call (ea_cons h ea_nil) fun H1 _ Q q _ => ⟨n, rfl, hn, q⟩
/-! ### reading -/
def sp_told : Sp := fun vs H Q _ => ∃ (f s : Nat), vs = [.int (f : Int)] ∧ 1 ≤ s ∧ s ≤ 6 ∧ hdn s ≤ f ∧ f < hdn s + 2 ^ (6 - s) ∧ RetV (.int ((s + 1 : Nat) : Int)) H Q
theorem ok_count_told (T : TX K mg) : FnOk P w K mg base CX0 2 T.a_count_told T.d_count_told ["first"] sp_told := by
  refine T.F_count_told.ok sc_count_told (fun vs H Q E h => by obtain ⟨f, s, rfl, _⟩ := h; rfl) (fun cdv A outer s H vs Q E hr h => ?_)
  obtain ⟨f, s, rfl, h1, h6, hlo, hhi, k⟩ := h
  refine ⟨_, (pss_cons (ps_set (i := 1) sc_count_told.nd rfl (Or.inl rfl) pe_int)
      (pss_cons (ps_while PassesOwn.never (pt_cmpR op_ge (pv 0) (pe_call (ok_least_first T) (hr.mono (by decide)) (by rfl) T.g_least_first T.F_least_first.kp T.b_least_first .nil pass0 (pa_cons (pe_op op_add (pv 1) pe_int) pa_nil)) (nomark _)) (pss_one (ps_aug (i := 1) sc_count_told.nd rfl (Or.inl rfl) pe_int ip_add)))
      (pss_one (ps_ret (pv 1))))), ?_⟩
  walk_at "asg"
  intro H1 e1
  refine q_while (fun m σ' H' => ∃ c : Nat, m = 7 - c ∧ 2 ≤ c ∧ c ≤ s + 1 ∧ σ' = [some (.int (f : Int)), some (.int (c : Int))] ∧ Ex H H') 5 ⟨2, rfl, Nat.le_refl _, by omega, rfl, e1⟩ ?_
  rintro m _ H3 ⟨c, rfl, hc2, hc, rfl, ex⟩
  have hlast : (256 - 2 ^ (8 - (c + 1))) ≤ f ↔ c ≤ s := by
    rw [hdn_eq h1 h6] at hlo hhi
    have hp : 2 ^ (7 - s) = 2 * 2 ^ (6 - s) := by rw [show 7 - s = (6 - s) + 1 by omega, Nat.pow_succ, Nat.mul_comm]
    have h64 : 2 ^ (6 - s) ≤ 2 ^ 5 := Nat.pow_le_pow_right (by decide) (by omega)
    constructor
    · intro h
      by_cases hcs : c ≤ s
      · exact hcs
      · have : c = s + 1 := by omega
        rw [this, show 8 - (s + 1 + 1) = 6 - s by omega] at h
        omega
    · intro h
      have h3 : 2 ^ (7 - s) ≤ 2 ^ (8 - (c + 1)) := Nat.pow_le_pow_right (by decide) (by omega)
      omega
  refine ⟨decide (c ≤ s), et_test (Ev.is (ev_I0 (ev_var rfl) (ev_least (c := c + 1) (ev_I0 (ev_var rfl) ev_c) (by omega) (by omega) (by omega))) (congrArg V.bl (decide_eq_decide.mpr (by rw [← hlast]; show ((256 - 2 ^ (8 - (c + 1)) : Nat) : Int) ≤ (f : Int) ↔ _; omega)))), fun hb H4 e4 => ?_, fun hb H4 e4 => ?_⟩
  · have hcs : c ≤ s := of_decide_eq_true hb
    refine ⟨fun σ2 H2 => ∃ m', m' < 7 - c ∧ _, fun σ2 H2 h => h, ?_⟩
    refine s_aug (b := 1) rfl ev_c fun H5 e5 => ?_
    exact ⟨7 - (c + 1), by omega, c + 1, rfl, by omega, by omega, rfl, ex.trans (e4.trans e5)⟩
  · have hcc : c = s + 1 := by have := of_decide_eq_false hb; omega
    subst hcc
    walk_at "ret"
    intro H5 e5
    exact k H5 ((ex.trans e4).trans e5)
/-- a byte that is read -/
theorem byte_at {ds : List Nat} {i b : Nat} (hb : ds[i]? = some b) (h : b < 256) : valL (((ds.flatMap bits8).drop (8 * i)).take 8) = b := by
  have hi : i < ds.length := (List.getElem?_eq_some_iff.mp hb).1
  rw [flat_drop, show (8 : Nat) = 8 * 1 from rfl, flat_take, List.drop_eq_getElem_cons hi, List.take_succ_cons, List.take_zero, List.flatMap_cons, List.flatMap_nil, List.append_nil]
  have : ds[i] = b := by
    have h2 := List.getElem?_eq_getElem hi
    rw [hb] at h2
    exact (Option.some.inj h2).symm
  rw [this, valL_8 b h]
theorem q_read8 {σ : L2.St} {H : Hp} {D : Ends} {tz : TS} {to : TE} {E : XK} {C a d : Addr} {ds : List Nat} {i b j : Nat} (h : Ev to σ H (.ref a)) (hR : RdAt C H a d (8 * i)) (hd : H d = some (.lst ((cs ds).map V.int))) (hds : ∀ b ∈ ds, b < 256) (hl : ds.length ≤ 100000) (hb : ds[i]? = some b)
    (k : ∀ H1, FrA a H H1 → RdAt C H1 a d (8 * (i + 1)) → H1 d = some (.lst ((cs ds).map V.int)) → tz D (σ.set j (some (.int (b : Int)))) H1) : tSeq (tAsg (tMeth C "read" (sp_read C) [] E to (tCons (tC (.int 8)) tNil)) (gName j)) tz D σ H := by
  obtain ⟨dx, ha⟩ := id hR
  have hi : i < ds.length := (List.getElem?_eq_some_iff.mp hb).1
  refine q_asgM (vs := [.int 8]) h ha rfl (ea_cons ev_c ea_nil) fun H1 e1 => ⟨a, d, ds, 8 * i, 8, rfl, hR.ex e1, e1 _ _ hd, hds, by decide, by omega, hl, fun H2 hF hR2 => ?_⟩
  rw [byte_at hb (hds b (List.mem_of_getElem? hb))]
  exact k H2 ((FrA.ex e1).trans hF) hR2 (hF _ _ (hR.ne hd) (e1 _ _ hd))
def sp_further (C : Addr) : Sp := fun vs H Q _ => ∃ (a d : Addr) (ds : List Nat) (i x : Nat), vs = [.ref a] ∧ RdAt C H a d (8 * i) ∧ H d = some (.lst ((cs ds).map V.int)) ∧ (∀ b ∈ ds, b < 256) ∧ ds.length ≤ 100000 ∧ x < 64 ∧ ds[i]? = some (128 + x) ∧ ∀ H', FrA a H H' → RdAt C H' a d (8 * (i + 1)) → H' d = some (.lst ((cs ds).map V.int)) → Q (.int (x : Int)) H'
theorem ok_further_bits (T : TX K mg) : FnOk P w K mg base CX0 2 T.a_further_bits T.d_further_bits ["reader"] (sp_further T.C_BitReader) := by
  refine T.F_further_bits.ok sc_further_bits (fun vs H Q E h => by obtain ⟨a, d, ds, i, x, rfl, _⟩ := h; rfl) (fun cdv A outer s H vs Q E hr h => ?_)
  obtain ⟨a, d, ds, i, x, rfl, hR, hd, hds, hl, hx, hb, k⟩ := h
  refine ⟨_, (pss_cons (ps_set (i := 1) sc_further_bits.nd rfl (Or.inl rfl) (pe_meth0 (pv 0) T.cl_BitReader T.me_BitReader_byte_place (ok_BitReader_byte_place T) (hr.mono (by decide)) T.b_BitReader_byte_place .nil pass0))
      (pss_cons (ps_set (i := 2) sc_further_bits.nd rfl (Or.inl rfl) (pe_meth (pv 0) T.cl_BitReader T.me_BitReader_read (ok_BitReader_read T) (hr.mono (by decide)) T.b_BitReader_read .nil pass0 (pa_cons pe_int pa_nil)))
      (pss_cons (ps_if (PW.pt (pw_or (pt_cmpR op_lt (pv 2) pe_int (nomark _)) (pw_or1 (pt_cmpR op_gt (pv 2) pe_int (nomark _))))) (pss_one ps_never) pss_nil)
      (pss_one (ps_ret (pe_op op_sub (pv 2) pe_int)))))), ?_⟩
  refine q_asg (ev_place (f := fun pos => (pos / 8 : Nat)) (ev_var rfl) hR rfl) fun H1 e1 => ?_
  refine q_read8 (ev_var rfl) (hR.ex e1) (e1 _ _ hd) hds hl hb fun H2 hF hR2 hd2 => ?_
  refine q_when (b := false) (et_or (a := false) (b := false) (et_test (Ev.is (ev_I0 (ev_var rfl) ev_c) (congrArg V.bl (decide_eq_false (by omega))))) fun _ => et_test (Ev.is (ev_I0 (ev_var rfl) ev_c) (congrArg V.bl (decide_eq_false (by show ¬ _; omega))))) (fun hb => by cases hb) fun _ H3 e3 => ?_
  exact s_ret (v := .int (x : Int)) (Ev.is (ev_I0 (ev_var rfl) ev_c) (congrArg V.int (by omega))) fun H4 e4 => k H4 (((FrA.ex e1).trans hF).trans (FrA.ex (e3.trans e4))) (hR2.ex (e3.trans e4)) ((e3.trans e4) _ _ hd2)
theorem s_asgRd {σ : L2.St} {H : Hp} {D : Ends} {t1 t2 : TE} {E : XK} {C a d : Addr} {ds : List Nat} {i x y k : Nat} (hx : x < 2 ^ 64) (h1 : Ev t1 σ H (.int (x : Int))) (h2 : Ev t2 σ H (.ref a)) (hR : RdAt C H a d (8 * i)) (hd : H d = some (.lst ((cs ds).map V.int))) (hds : ∀ b ∈ ds, b < 256) (hl : ds.length ≤ 100000) (hy : y < 64) (hb : ds[i]? = some (128 + y))
    (kk : ∀ H1, FrA a H H1 → RdAt C H1 a d (8 * (i + 1)) → H1 d = some (.lst ((cs ds).map V.int)) → D.nx (σ.set k (some (.int ((x * 64 + y : Nat) : Int)))) H1) :
    tAsg (tOp (rI0 fun i j => .int (Builtin.bitOr i j)) (tOp (rI CPow fun i j => .int (i * 2 ^ j.toNat)) t1 (tC (.int 6))) (tCall (sp_further C) [] E (tCons t2 tNil))) (gName k) D σ H :=
  h1 H (Ex.refl H) _ fun H1 e1 => ⟨(x : Int), 6, rfl, rfl, ⟨by decide, by decide, by rw [Int.natAbs_natCast]; exact hx⟩, h2 H1 e1 _ fun H2 e2 => ⟨a, d, ds, i, y, rfl, hR.ex (e1.trans e2), (e1.trans e2) _ _ hd, hds, hl, hy, hb, fun H3 hF hR3 hd3 => ⟨_, _, rfl, rfl, by
    have e : Builtin.bitOr ((x : Int) * 2 ^ (6 : Int).toNat) (y : Int) = ((x * 64 + y : Nat) : Int) := by
      show Builtin.bitOr ((x : Int) * 2 ^ 6) (y : Int) = _
      rw [_root_.Bits.bitOr_join' (by omega) (by show (y : Int) < 64; omega) (by omega)]
      show (y : Int) + (x : Int) * 64 = _
      omega
    show D.nx (σ.set k (some (.int (Builtin.bitOr ((x : Int) * 2 ^ (6 : Int).toNat) (y : Int))))) H3
    rw [e]
    exact kk H3 ((FrA.ex (e1.trans e2)).trans hF) hR3 hd3⟩⟩⟩
def sp_rnum (C : Addr) : Sp := fun vs H Q _ => ∃ (a d : Addr) (ds : List Nat) (i n : Nat), vs = [.ref a] ∧ RdAt C H a d (8 * i) ∧ H d = some (.lst ((cs ds).map V.int)) ∧ (∀ b ∈ ds, b < 256) ∧ ds.length ≤ 100000 ∧ n < 2 ^ 36 ∧ (∀ j x, (form n)[j]? = some x → ds[i + j]? = some x) ∧ ∀ H', FrA a H H' → RdAt C H' a d (8 * (i + (sz n + 1))) → H' d = some (.lst ((cs ds).map V.int)) → Q (.int (n : Int)) H'
theorem ok_number_ahead (T : TX K mg) : FnOk P w K mg base CX0 3 T.a_number_ahead T.d_number_ahead ["reader"] (sp_rnum T.C_BitReader) := by
  refine T.F_number_ahead.ok sc_number_ahead (fun vs H Q E h => by obtain ⟨a, d, ds, i, n, rfl, _⟩ := h; rfl) (fun cdv A outer s H vs Q E hr h => ?_)
  obtain ⟨a, d, ds, i, n, rfl, hR, hd, hds, hl, hn, hf, k⟩ := h
  refine ⟨_, (pss_cons (ps_set (i := 1) sc_number_ahead.nd rfl (Or.inl rfl) (pe_meth0 (pv 0) T.cl_BitReader T.me_BitReader_byte_place (ok_BitReader_byte_place T) (hr.mono (by decide)) T.b_BitReader_byte_place .nil pass0))
      (pss_cons (ps_set (i := 2) sc_number_ahead.nd rfl (Or.inl rfl) (pe_meth (pv 0) T.cl_BitReader T.me_BitReader_read (ok_BitReader_read T) (hr.mono (by decide)) T.b_BitReader_read .nil pass0 (pa_cons pe_int pa_nil)))
      (pss_cons (ps_if (pt_cmpR op_lt (pv 2) pe_int (nomark _)) (pss_one (ps_ret (pv 2))) pss_nil)
      (pss_cons (ps_if (PW.pt (pw_or (pt_cmpR op_lt (pv 2) pe_int (nomark _)) (pw_or1 (pt_cmpR op_eq (pv 2) pe_int (nomark _))))) (pss_one ps_never) pss_nil)
      (pss_cons (ps_set (i := 3) sc_number_ahead.nd rfl (Or.inl rfl) (pe_call (ok_count_told T) (hr.mono (by decide)) (by rfl) T.g_count_told T.F_count_told.kp T.b_count_told .nil pass0 (pa_cons (pv 2) pa_nil)))
      (pss_cons (ps_set (i := 4) sc_number_ahead.nd rfl (Or.inl rfl) (pe_op op_sub (pv 2) (pe_call (ok_least_first T) (hr.mono (by decide)) (by rfl) T.g_least_first T.F_least_first.kp T.b_least_first .nil pass0 (pa_cons (pv 3) pa_nil))))
      (pss_cons (ps_for PassesOwn.never rfl (pi_range1 (by rfl) T.m_range (pa_cons (pe_op op_sub (pv 3) pe_int) pa_nil)) (pg_name (i := 5) sc_number_ahead.nd rfl (Or.inl rfl)) (pss_one (ps_set (i := 4) sc_number_ahead.nd rfl (Or.inl rfl) (pe_op op_or (pe_op op_shl (pv 4) pe_int) (pe_call (ok_further_bits T) (hr.mono (by decide)) (by rfl) T.g_further_bits T.F_further_bits.kp T.b_further_bits .nil pass0 (pa_cons (pv 0) pa_nil))))))
      (pss_cons (ps_if (pt_cmpR op_lt (pv 4) (pe_call (ok_bound T) (hr.mono (by decide)) (by rfl) T.g_bound T.F_bound.kp T.b_bound .nil pass0 (pa_cons (pe_op op_sub (pv 3) pe_int) pa_nil)) (nomark _)) (pss_one ps_never) pss_nil)
      (pss_one (ps_ret (pv 4))))))))))), ?_⟩
  have h6 := sz_le n
  have hf0 : ds[i]? = some (hdn (sz n) + n / 2 ^ (6 * sz n)) := hf 0 _ rfl
  refine q_asg (ev_place (f := fun pos => (pos / 8 : Nat)) (ev_var rfl) hR rfl) fun H1 e1 => ?_
  refine q_read8 (ev_var rfl) (hR.ex e1) (e1 _ _ hd) hds hl hf0 fun H2 hF hR2 hd2 => ?_
  have hF2 := (FrA.ex e1).trans hF
  by_cases h0 : sz n = 0
  · have hn128 : n < 128 := (sz_lim hn (s := 0) (by decide)).mpr (by omega)
    rw [h0] at k ⊢
    rw [Nat.mul_zero, Nat.pow_zero, Nat.div_one, show hdn 0 = 0 from rfl, Nat.zero_add]
    refine q_when (b := true) (et_test (Ev.is (ev_I0 (ev_var rfl) ev_c) (congrArg V.bl (decide_eq_true (by omega))))) (fun _ H3 e3 => ?_) (fun hb => by cases hb)
    exact s_ret (ev_var rfl) fun H4 e4 => k H4 (hF2.trans (FrA.ex (e3.trans e4))) (hR2.ex (e3.trans e4)) ((e3.trans e4) _ _ hd2)
  have h1 : 1 ≤ sz n := by omega
  have hhead := head_lt hn h1
  have hhd := hdn_eq h1 h6
  have hp7 : 2 ^ (7 - sz n) = 2 * 2 ^ (6 - sz n) := by rw [show 7 - sz n = (6 - sz n) + 1 by omega, Nat.pow_succ, Nat.mul_comm]
  have hp6 : 2 ^ (6 - sz n) ≤ 2 ^ 5 := Nat.pow_le_pow_right (by decide) (by omega)
  have hp0 : 0 < 2 ^ (6 - sz n) := Nat.two_pow_pos _
  obtain ⟨q, hq⟩ : ∃ q, n / 2 ^ (6 * sz n) = q := ⟨_, rfl⟩
  rw [hq] at hf0 hhead
  rw [hq]
  have hfirst : 192 ≤ hdn (sz n) + q ∧ hdn (sz n) + q < 255 := by omega
  generalize hfv : hdn (sz n) + q = f at *
  refine q_when (b := false) (et_test (Ev.is (ev_I0 (ev_var rfl) ev_c) (congrArg V.bl (decide_eq_false (by omega))))) (fun hb => by cases hb) fun _ H3 e3 => ?_
  refine q_when (b := false) (et_or (a := false) (b := false) (et_test (Ev.is (ev_I0 (ev_var rfl) ev_c) (congrArg V.bl (decide_eq_false (by omega))))) fun _ => et_test (Ev.is (ev_eq (ev_var rfl) ev_c rfl) (congrArg V.bl (decide_eq_false fun h => by have := V.int.inj h; omega)))) (fun hb => by cases hb) fun _ H4 e4 => ?_
  refine q_asg (ev_call (z := .int ((sz n + 1 : Nat) : Int)) (vs := [.int (f : Int)]) (ea_cons (ev_var rfl) ea_nil) fun H5 _ Q q _ => ⟨f, sz n, rfl, h1, h6, by omega, by omega, q⟩) fun H5 e5 => ?_
  refine q_asg (v := .int (q : Int)) (Ev.is (ev_I0 (ev_var rfl) (ev_least (c := sz n + 1) (ev_var rfl) rfl (by omega) (by omega))) (congrArg V.int (by rw [show 8 - (sz n + 1) = 7 - sz n by omega]; omega))) fun H6 e6 => ?_
  have ex6 := (e3.trans e4).trans (e5.trans e6)
  refine q_forR1 (n := (sz n : Int)) (ea_cons (Ev.is (ev_I0 (ev_var rfl) ev_c) (congrArg V.int (by omega))) ea_nil) (by omega) (fun j σ' H' => ∃ z, σ' = [some (.ref a), some (.int ((fun pos => ((pos / 8 : Nat) : Int)) (8 * i))), some (.int (f : Int)), some (.int ((sz n + 1 : Nat) : Int)), some (.int ((n / 2 ^ (6 * (sz n - j)) : Nat) : Int)), z] ∧ FrA a H H' ∧ RdAt T.C_BitReader H' a d (8 * (i + 1 + j)) ∧ H' d = some (.lst ((cs ds).map V.int))) (fun H7 e7 => ⟨none, by rw [Nat.sub_zero, hq]; rfl, hF2.trans (FrA.ex (ex6.trans e7)), hR2.ex (ex6.trans e7), (ex6.trans e7) _ _ hd2⟩) ?_ ?_
  · rintro j σ' H7 hj ⟨z, rfl, hF7, hR7, hd7⟩
    have hj : j < sz n := by omega
    have hat : (form n)[j + 1]? = some (128 + n / 2 ^ (6 * (sz n - 1 - j)) % 64) := by
      show (rest n (sz n))[j]? = _
      unfold rest
      rw [List.getElem?_map, List.getElem?_range hj]
      rfl
    have hdj := hf _ _ hat
    have hx : n / 2 ^ (6 * (sz n - j)) < 2 ^ 36 := Nat.lt_of_le_of_lt (Nat.div_le_self _ _) hn
    have hstep : n / 2 ^ (6 * (sz n - (j + 1))) = n / 2 ^ (6 * (sz n - j)) * 64 + n / 2 ^ (6 * (sz n - 1 - j)) % 64 := by
      rw [show sz n - 1 - j = sz n - (j + 1) by omega, show 6 * (sz n - j) = 6 * (sz n - (j + 1)) + 6 by omega, Nat.pow_add, ← Nat.div_div_eq_div_mul]
      show _ = _ / 64 * 64 + _
      omega
    refine s_asgRd (x := n / 2 ^ (6 * (sz n - j))) (y := n / 2 ^ (6 * (sz n - 1 - j)) % 64) (by omega) (ev_var rfl) (ev_var rfl) hR7 hd7 hds hl (by omega) (by rw [← hdj]; congr 1; omega) fun H8 hF8 hR8 hd8 => ?_
    rw [hstep]
    exact ⟨_, rfl, hF7.trans hF8, hR8, hd8⟩
  · rintro σ' H7 ⟨z, rfl, hF7, hR7, hd7⟩
    rw [Int.toNat_natCast, Nat.sub_self, Nat.mul_zero, Nat.pow_zero, Nat.div_one]
    have hbd : ¬ n < 2 ^ (if sz n = 1 then 7 else 5 * sz n + 1) := by
      have h3 := sz_lim hn (s := sz n - 1) (by omega)
      by_cases h : sz n = 1
      · rw [if_pos h]
        rw [h] at h3
        have h3 : n < 2 ^ 7 ↔ sz n ≤ 0 := by rw [h]; exact h3
        omega
      · rw [if_neg h]
        rw [lim_eq (by omega) (by omega), show 5 * (sz n - 1) + 6 = 5 * sz n + 1 by omega] at h3
        omega
    refine q_when (b := false) (et_test (Ev.is (ev_I0 (ev_var rfl) (ev_bound (c := sz n) (ev_I0 (ev_var rfl) ev_c) (by omega) h1 (by omega))) (congrArg V.bl (decide_eq_false (by omega))))) (fun hb => by cases hb) fun _ H8 e8 => ?_
    refine s_ret (ev_var rfl) fun H9 e9 => k H9 (hF7.trans (FrA.ex (e8.trans e9))) ?_ ((e8.trans e9) _ _ hd7)
    have := hR7.ex (e8.trans e9)
    rwa [Int.toNat_natCast, show i + 1 + sz n = i + (sz n + 1) by omega] at this

theorem ok_read_number (T : TX K mg) : FnOk P w K mg base CX0 4 T.a_read_number T.d_read_number ["reader"] (sp_rnum T.C_BitReader) := by
  refine T.F_read_number.ok sc_read_number (fun vs H Q E h => by obtain ⟨a, d, ds, i, n, rfl, _⟩ := h; rfl) (fun cdv A outer s H vs Q E hr h => ?_)
  obtain ⟨a, d, ds, i, n, rfl, hR, hd, hds, hl, hn, hf, k⟩ := h
  refine ⟨_, (pss_cons (ps_set (i := 1) sc_read_number.nd rfl (Or.inl rfl) (pe_meth0 (pv 0) T.cl_BitReader T.me_BitReader_bit_place (ok_BitReader_bit_place T) (hr.mono (by decide)) T.b_BitReader_bit_place .nil pass0))
      (pss_one (ps_try_only rfl rfl ⟨rfl, by decide, .inl T.g_MonochordError⟩ takes0 (fun W pn xe tk _ => (pss_one (ps_ret (pe_call (ok_number_ahead T) (hr.mono (by decide)) (by rfl) T.g_number_ahead T.F_number_ahead.kp T.b_number_ahead .nil pass0 (pa_cons (pv 0) pa_nil))))) (fun a oe cls d pn _ _ => pss_never)))), ?_⟩
  refine q_asg (ev_place (f := fun pos => (pos : Nat)) (ev_var rfl) hR rfl) fun H1 e1 => ?_
  exact s_retC (vs := [.ref a]) (ea_cons (ev_var rfl) ea_nil) fun H2 e2 => ⟨a, d, ds, i, n, rfl, hR.ex (e1.trans e2), (e1.trans e2) _ _ hd, hds, hl, hn, hf, fun H3 hF hR3 hd3 => k H3 ((FrA.ex (e1.trans e2)).trans hF) hR3 hd3⟩
def sp_num : Sp := fun vs H Q _ => ∃ c : Int, vs = [.int c] ∧ ∀ (n : Nat) H', Ex H H' → n < 2 ^ 36 → Q (.int (n : Int)) H'
theorem ok_law_number (T : TX K mg) : FnOk P w K mg base CX0 2 T.a_law_number T.d_law_number ["cell"] sp_num := by
  refine T.F_law_number.ok sc_law_number (fun vs H Q E h => by obtain ⟨c, rfl, _⟩ := h; rfl) (fun cdv A outer s H vs Q E hr h => ?_)
  obtain ⟨c, rfl, k⟩ := h
  refine ⟨_, (pss_cons (ps_set (i := 1) sc_law_number.nd rfl (Or.inl rfl) (pe_call (ok_law_draw T) (hr.mono (by decide)) (by rfl) T.g_law_draw T.F_law_draw.kp T.b_law_draw .nil pass0 (pa_cons (pv 0) (pa_cons pe_int (pa_cons (pe_op op_shl pe_int pe_int) pa_nil)))))
      (pss_cons (ps_set (i := 2) sc_law_number.nd rfl (Or.inl rfl) (pe_op op_add (pe_ix (r := rIxL K) ix_list (pv 1) pe_int (fun _ _ => rfl)) (pe_op op_shl (pe_ix (r := rIxL K) ix_list (pv 1) pe_int (fun _ _ => rfl)) pe_int)))
      (pss_cons (ps_if (pt_cmpR op_eq (pe_op op_mod (pe_ix (r := rIxL K) ix_list (pv 1) pe_int (fun _ _ => rfl)) pe_int) pe_int (nomark _)) (pss_one (ps_set (i := 2) sc_law_number.nd rfl (Or.inl rfl) (pe_op op_sub (pe_op op_add (pe_op op_shl pe_int (pe_op op_mod (pe_op op_fdiv (pe_ix (r := rIxL K) ix_list (pv 1) pe_int (fun _ _ => rfl)) pe_int) pe_int)) (pe_op op_mod (pe_op op_fdiv (pe_ix (r := rIxL K) ix_list (pv 1) pe_int (fun _ _ => rfl)) pe_int) pe_int)) pe_int))) pss_nil)
      (pss_one (ps_ret (pe_op op_mod (pe_callTy call_int1 (by rfl) T.m_int PyProof.Rows.boot_int (pa_cons (pv 2) pa_nil)) (pe_op op_shl pe_int pe_int))))))), ?_⟩
  refine q_asgC (vs := [.int c, .int 4, .int (1 * 2 ^ (20 : Int).toNat)]) (ea_cons (ev_var rfl) (ea_cons ev_c (ea_cons (ev_I ev_c ev_c ⟨by decide, by decide, by decide⟩) ea_nil))) fun H1 e1 => ⟨c, 4, _, rfl, by decide, by decide, by decide, by decide, fun p ns H2 hp e2 hl hn hns => ?_⟩
  obtain ⟨n0, n1, n2, n3, rfl⟩ : ∃ n0 n1 n2 n3, ns = [n0, n1, n2, n3] := by
    match ns, hn with
    | [a, b, c, d], _ => exact ⟨a, b, c, d, rfl⟩
  have b0 := hns n0 (by simp)
  have b2 := hns n2 (by simp)
  have hb0 : 0 ≤ n0 ∧ n0 < 1048576 := b0
  have hb2 : 0 ≤ n2 ∧ n2 < 1048576 := b2
  have ex2 := e1.trans e2
  have g0 : ∀ {σ : L2.St} {H1 : Hp} {te : TE}, Ex H2 H1 → Ev te σ H1 (.ref p) → Ev (tOp (rIxL K) te (tC (.int 0))) σ H1 (.int n0) := fun e h => ev_at (xs := [.int n0, .int n1, .int n2, .int n3]) (Ev.s h (sq_of (e _ _ hl))) ev_c rfl
  refine q_asg (ev_I0 (ev_at (xs := [.int n0, .int n1, .int n2, .int n3]) (v := .int n1) (Ev.s (ev_var rfl) (sq_of hl)) ev_c rfl) (ev_I (ev_at (xs := [.int n0, .int n1, .int n2, .int n3]) (v := .int n2) (Ev.s (ev_var rfl) (sq_of hl)) ev_c rfl) ev_c (show CPow n2 20 from ⟨by decide, by decide, by omega⟩))) fun H3 e3 => ?_
  generalize n1 + n2 * 2 ^ (20 : Int).toNat = v0
  generalize hv1 : (if decide (V.int (n0 % 2) = V.int 0) = true then 1 * 2 ^ (n0 / 2 % 37).toNat + n0 / 74 % 3 - 1 else v0) = v1
  refine q_ifAsg (b := decide (V.int (n0 % 2) = V.int 0)) (v := V.int v1) (et_test (ev_eq (ev_I (g0 e3 (ev_var rfl)) ev_c (by decide)) ev_c rfl)) (fun hb => Ev.is (ev_I0 (ev_I0 (ev_I ev_c (ev_I (ev_I (g0 e3 (ev_var rfl)) ev_c ⟨by decide, by decide⟩) ev_c (by decide)) (show CPow 1 (n0 / 2 % 37) from ⟨by omega, by omega, by decide⟩)) (ev_I (ev_I (g0 e3 (ev_var rfl)) ev_c ⟨by decide, by decide⟩) ev_c (by decide))) ev_c) (by rw [← hv1, if_pos hb])) (fun hb => by rw [← hv1, if_neg (by rw [hb]; decide)]; rfl) fun H4 e4 => ?_
  exact s_ret (v := .int ((v1 % 68719476736).toNat : Nat)) (Ev.is (ev_I (ev_int1 (ev_var rfl)) (ev_I ev_c ev_c (show CPow 1 36 from ⟨by decide, by decide, by decide⟩)) (by decide)) (congrArg V.int (by show v1 % 68719476736 = _; omega))) fun H5 e5 => k _ H5 ((ex2.trans e3).trans (e4.trans e5)) (by show _ < 68719476736; omega)
theorem q_forL' {σ : L2.St} {H : Hp} {D : Ends} {tu tz : TS} {tl : TE} {g : TG} {xs : List V} (h : EvL tl σ H xs) (k : ∀ p H1, H p = none → Ex H H1 → H1 p = some (.lst xs) → tSeq (tFor (iList K (tC (.ref p))) g tu) tz D σ H1) : tSeq (tFor (iList K tl) g tu) tz D σ H := h H (Ex.refl H) _ fun p H1 hp e g => k p H1 hp e g
theorem q_asgCF {σ : L2.St} {H : Hp} {D : Ends} {tz : TS} {sp : Sp} {dvs vs xs : List V} {E : XK} {tA : TA} {i : Nat} (h : EvL (tCall sp dvs E tA) σ H xs) (k : ∀ p H1, H p = none → Ex H H1 → H1 p = some (.lst xs) → tz D (σ.set i (some (.ref p))) H1) : tSeq (tAsg (tCall sp dvs E tA) (gName i)) tz D σ H := h H (Ex.refl H) _ fun p H1 hp e g => k p H1 hp e g
theorem ev_same {σ : L2.St} {H : Hp} {t1 t2 : TE} {E : XK} {ns : List Int} (h1 : EvR t1 σ H (ns.map V.int)) (h2 : EvR t2 σ H (ns.map V.int)) (hl : ns.length ≤ 100000) : Ev (tCall sp_same [] E (tCons t1 (tCons t2 tNil))) σ H (.bl true) := fun H1 e Q q =>
  h1 H1 e _ fun p H2 e2 g2 => h2 H2 (e.trans e2) _ fun r H3 e3 g3 => ⟨p, r, ns, rfl, e3 _ _ g2, g3, hl, fun H4 e4 => q H4 ((e2.trans e3).trans e4)⟩
theorem mk_r {C : Addr} {E : XK} {σ : L2.St} {H : Hp} {Q : VK} {t1 t2 : TE} {xs : List V} {n : Nat} (h1 : EvL t1 σ H xs) (h2 : Ev t2 σ H (.int (n : Int))) (hn : n ≤ 1000000) (k : ∀ a d H', H a = none → a ≠ d → H d = none → Ex H H' → H' d = some (.lst xs) → RdAt C H' a d (8 * n) → Q (.ref a) H') : tMake C (sp_rinit C) [] E (tCons t1 (tCons t2 tNil)) σ H Q :=
  h1 H (Ex.refl H) _ fun d H1 hd e1 g1 => h2 H1 e1 _ fun H2 e2 => fun x dx hx hdx hne => by
    have e12 := e1.trans e2
    have hxd : d ≠ x := fresh_ne hx (e2 _ _ g1)
    have hex : ∀ b o, H2 b = some o → upd (upd H2 dx (HO.own x)) x (HO.ins C dx []) b = some o := fun b o hb => by
      rw [upd_ne (fresh_ne hx hb), upd_ne (fresh_ne hdx hb)]
      exact hb
    refine ⟨x, dx, d, n, rfl, upd_same, hn, fun H' hF hR => ⟨rfl, k x d H' ?_ hxd.symm hd (fun b o hb => hF b o (fresh_ne hx (e12 _ _ hb)) (hex b o (e12 _ _ hb))) (hF d _ hxd (hex d _ (e2 _ _ g1))) hR⟩⟩
    cases h : H x with
    | none => rfl
    | some o => rw [e12 _ _ h] at hx; cases hx
theorem q_mk_r {C : Addr} {E : XK} {σ : L2.St} {H : Hp} {D : Ends} {tz : TS} {i : Nat} {t1 t2 : TE} {xs : List V} {n : Nat} (h1 : EvL t1 σ H xs) (h2 : Ev t2 σ H (.int (n : Int))) (hn : n ≤ 1000000) (k : ∀ a d H', H a = none → a ≠ d → H d = none → Ex H H' → H' d = some (.lst xs) → RdAt C H' a d (8 * n) → tz D (σ.set i (some (.ref a))) H') : tSeq (tAsg (tMake C (sp_rinit C) [] E (tCons t1 (tCons t2 tNil))) (gName i)) tz D σ H := mk_r (Q := fun x H' => tz D (σ.set i (some x)) H') h1 h2 hn k
theorem form_lt {n : Nat} (h : n < 2 ^ 36) : ∀ b ∈ form n, b < 256 := fun b hb => by
  unfold form at hb
  rcases List.mem_cons.mp hb with rfl | hb
  · by_cases h0 : sz n = 0
    · have hn128 : n < 128 := (sz_lim h (s := 0) (by decide)).mpr (by omega)
      rw [h0, Nat.mul_zero, Nat.pow_zero, Nat.div_one, show hdn 0 = 0 from rfl]
      omega
    · have h6 := sz_le n
      have hhead := head_lt h (by omega)
      have hhd := hdn_eq (s := sz n) (by omega) h6
      have hp7 : 2 ^ (7 - sz n) = 2 * 2 ^ (6 - sz n) := by rw [show 7 - sz n = (6 - sz n) + 1 by omega, Nat.pow_succ, Nat.mul_comm]
      have hp6 : 2 ^ (6 - sz n) ≤ 2 ^ 5 := Nat.pow_le_pow_right (by decide) (by omega)
      generalize n / 2 ^ (6 * sz n) = q at *
      omega
  · unfold rest at hb
    obtain ⟨j, _, rfl⟩ := List.mem_map.mp hb
    omega
/-- the numbers' forms one behind the other -/
def fl (us : List Nat) : List Nat := us.flatMap form
theorem fl_snoc (us : List Nat) (n : Nat) : fl (us ++ [n]) = fl us ++ form n := by
  unfold fl
  rw [List.flatMap_append, List.flatMap_cons, List.flatMap_nil, List.append_nil]
theorem fl_len : ∀ us : List Nat, (fl us).length ≤ 7 * us.length
  | [] => Nat.le_refl _
  | u :: r => by
    have := fl_len r
    unfold fl at *
    rw [List.flatMap_cons, List.length_append, List.length_cons, form_len]
    have := sz_le u
    omega
theorem fl_split (us : List Nat) {k n : Nat} (h : us[k]? = some n) : fl us = fl (us.take k) ++ (form n ++ fl (us.drop (k + 1))) := by
  unfold fl
  obtain ⟨hk, e⟩ := List.getElem?_eq_some_iff.mp h
  conv => lhs; rw [← List.take_append_drop k us, List.flatMap_append, List.drop_eq_getElem_cons hk, List.flatMap_cons, e]
def places (us : List Nat) : List Nat := (List.range us.length).map fun k => (fl (us.take (k + 1))).length
theorem places_snoc (us : List Nat) (n : Nat) : places (us ++ [n]) = places us ++ [(fl (us ++ [n])).length] := by
  unfold places
  rw [List.length_append, List.length_singleton, List.range_succ, List.map_append]
  congr 1
  · refine List.map_congr_left fun k hk => ?_
    have := List.mem_range.mp hk
    rw [List.take_append_of_le_length (by omega)]
  · show [(fl ((us ++ [n]).take (us.length + 1))).length] = _
    rw [List.take_of_length_le (by simp)]
def sp_law (K : PySem.W.Frag) : Sp := fun vs H Q _ => ∃ (a : Addr) (ns : List Int), vs = [.ref a] ∧ SqL K H a (ns.map V.int) ∧ ns.length ≤ 63 ∧ ∀ H', Q (.bl true) H'
theorem ok_law (T : TX K mg) : FnOk P w K mg base CX0 5 T.a_law T.d_law ["script"] (sp_law K) := by
  refine T.F_law.ok sc_law (fun vs H Q E h => by obtain ⟨a, ns, rfl, _⟩ := h; rfl) (fun cdv A outer s H vs Q E hr h => ?_)
  obtain ⟨a, ns, rfl, hS, hlen, k⟩ := h
  refine ⟨_, (pss_cons (ps_set (i := 1) sc_law.nd rfl (Or.inl rfl) (pe_lst pa_nil))
      (pss_cons (ps_set (i := 2) sc_law.nd rfl (Or.inl rfl) (pe_lst pa_nil))
      (pss_cons (ps_set (i := 3) sc_law.nd rfl (Or.inl rfl) (pe_lst pa_nil))
      (pss_cons (ps_for PassesOwn.never rfl (pi_list (pe_slice (r := rSlL K) sl_list (pv 0) po_none (po_some pe_int))) (pg_name (i := 4) sc_law.nd rfl (Or.inl rfl)) (pss_cons (ps_set (i := 5) sc_law.nd rfl (Or.inl rfl) (pe_call (ok_law_number T) (hr.mono (by decide)) (by rfl) T.g_law_number T.F_law_number.kp T.b_law_number .nil pass0 (pa_cons (pv 4) pa_nil)))
        (pss_cons (ps_set (i := 6) sc_law.nd rfl (Or.inl rfl) (pe_call (ok_write_number T) (hr.mono (by decide)) (by rfl) T.g_write_number T.F_write_number.kp T.b_write_number .nil pass0 (pa_cons (pv 5) pa_nil)))
        (pss_cons (ps_if (pt_not (pt_val (pe_call (ok_law_same T) (hr.mono (by decide)) (by rfl) T.g_law_same T.F_law_same.kp T.b_law_same .nil pass0 (pa_cons (pv 6) (pa_cons (pe_call (ok_law_form T) (hr.mono (by decide)) (by rfl) T.g_law_form T.F_law_form.kp T.b_law_form .nil pass0 (pa_cons (pv 5) pa_nil)) pa_nil))))) (pss_one (ps_ret pe_bl)) pss_nil)
        (pss_cons (ps_expr (pe_bm PySem.F.plainAttrs_list PySem.F.slot_list_append PySem.F.type_list_append mt_append (pv 2) (pa_cons (pv 5) pa_nil)))
        (pss_cons (ps_set (i := 1) sc_law.nd rfl (Or.inl rfl) (pe_op op_cat (pv 1) (pv 6)))
        (pss_one (ps_expr (pe_bm PySem.F.plainAttrs_list PySem.F.slot_list_append PySem.F.type_list_append mt_append (pv 3) (pa_cons (pe_callB (r := rLenS K) call_len_seq (by rfl) T.m_len PySem.boot_len (pa_cons (pv 1) pa_nil)) pa_nil))))))))))
      (pss_cons (ps_setLc (i := 7) (own := [("cell", 4)]) (g := gName 4) (tt := tYes) rfl sc_law.nd rfl rfl (sw_true rfl rfl rfl (by decide +kernel)) (pi_list (pe_slice (r := rSlL K) sl_list (pv 0) po_none (po_some pe_int))) (blkOk_by (N := ["script", "data", "numbers", "places", "cell", "number", "form", "front", "reader", "k", "told"]) (sc := defScope s_law) (by decide +kernel)) (fun _ _ _ _ _ => pg_name (i := 4) sc_law.nd rfl (Or.inl rfl)) (fun _ _ _ _ _ => pts_nil) (fun _ _ _ _ _ => (pe_op op_mod (pe_callTy call_int1 (by rfl) T.m_int PyProof.Rows.boot_int (pa_cons (pv 4) pa_nil)) pe_int)))
      (pss_cons (ps_set (i := 8) sc_law.nd rfl (Or.inl rfl) (pe_make T.M_BitReader (ok_BitReader_init T) (hr.mono (by decide)) (by rfl) T.g_BitReader T.b3_BitReader_init T.v3_BitReader_init pass0 (pa_cons (pe_op op_cat (pe_op op_cat (pv 7) (pv 1)) (pe_lst (pa_cons pe_int (pa_cons pe_int pa_nil)))) (pa_cons (pe_callB (r := rLenS K) call_len_seq (by rfl) T.m_len PySem.boot_len (pa_cons (pv 7) pa_nil)) pa_nil))))
      (pss_cons (ps_for PassesOwn.never rfl (pi_range1 (by rfl) T.m_range (pa_cons (pe_callB (r := rLenS K) call_len_seq (by rfl) T.m_len PySem.boot_len (pa_cons (pv 2) pa_nil)) pa_nil)) (pg_name (i := 9) sc_law.nd rfl (Or.inl rfl)) (pss_cons (ps_set (i := 10) sc_law.nd rfl (Or.inl rfl) (pe_call (ok_read_number T) (hr.mono (by decide)) (by rfl) T.g_read_number T.F_read_number.kp T.b_read_number .nil pass0 (pa_cons (pv 8) pa_nil)))
        (pss_cons (ps_if (PW.pt (pw_or (pt_not (pt_val (pe_callB (r := rIsi K) call_isi (by rfl) T.m_isinstance PyProof.Rows.boot_isinstance (pa_cons (pv 10) (pa_cons (pe_bltn (v := V.ty "int") (by rfl) T.m_int PyProof.Rows.boot_int rfl) pa_nil))))) (pw_or (pt_val (pe_callB (r := rIsi K) call_isi (by rfl) T.m_isinstance PyProof.Rows.boot_isinstance (pa_cons (pv 10) (pa_cons (pe_bltn (v := V.ty "bool") (by rfl) T.m_bool PyProof.Rows.boot_bool rfl) pa_nil)))) (pw_or1 (pt_cmpR op_ne (pv 10) (pe_ix (r := rIxL K) ix_list (pv 2) (pv 9) (fun _ _ => rfl)) (nomark _)))))) (pss_one (ps_ret pe_bl)) pss_nil)
        (pss_one (ps_if (pt_cmpR op_ne (pe_meth0 (pv 8) T.cl_BitReader T.me_BitReader_bit_place (ok_BitReader_bit_place T) (hr.mono (by decide)) T.b_BitReader_bit_place .nil pass0) (pe_op op_mul pe_int (pe_op op_add (pe_callB (r := rLenS K) call_len_seq (by rfl) T.m_len PySem.boot_len (pa_cons (pv 7) pa_nil)) (pe_ix (r := rIxL K) ix_list (pv 3) (pv 9) (fun _ _ => rfl)))) (nomark _)) (pss_one (ps_ret pe_bl)) pss_nil)))))
      (pss_one (ps_ret pe_bl))))))))), ?_⟩
  refine q_asgL (xs := []) (el_lst ea_nil (by decide)) fun pd H1 hpd e1 g1 => ?_
  refine q_asgL (xs := []) (el_lst ea_nil (by decide)) fun pn H2 hpn e2 g2 => ?_
  refine q_asgL (xs := []) (el_lst ea_nil (by decide)) fun pp H3 hpp e3 g3 => ?_
  have ex3 := (e1.trans e2).trans e3
  have npp : pn ≠ pp := fresh_ne hpp g2
  have hpn0 : H pn = none := by cases h : H pn with | none => rfl | some o => rw [e1 _ _ h] at hpn; cases hpn
  have hpp0 : H pp = none := by cases h : H pp with | none => rfl | some o => rw [(e1.trans e2) _ _ h] at hpp; cases hpp
  refine q_forL' (xs := (ns.take 63).map V.int) (el_to (i := 63) (Ev.s (ev_var rfl) (ex_l ex3 hS)) ev_c) fun s H4 hs e4 hs4 => ?_
  have nsn : pn ≠ s := fresh_ne hs (e3 _ _ g2)
  have nsp : pp ≠ s := fresh_ne hs g3
  refine q_forLn (K := K) (a := s) ev_c (sq_of hs4) (fun i σ' H' => ∃ (us : List Nat) (qd : Addr) (z4 z5 z6 : Option V), σ' = [some (.ref a), some (.ref qd), some (.ref pn), some (.ref pp), z4, z5, z6, none, none, none, none] ∧ us.length = i ∧ (∀ u ∈ us, u < 2 ^ 36) ∧ Ex H H' ∧ H' s = some (.lst ((ns.take 63).map V.int)) ∧ H' pn = some (.lst ((cs us).map V.int)) ∧ H' pp = some (.lst ((cs (places us)).map V.int)) ∧ H' qd = some (.lst ((cs (fl us)).map V.int)) ∧ qd ≠ pn ∧ qd ≠ pp)
    (fun H5 e5 => ⟨[], pd, none, none, none, rfl, rfl, (fun u hu => by cases hu), ex3.trans (e4.trans e5), e5 _ _ hs4, e5 _ _ (e4 _ _ (e3 _ _ g2)), e5 _ _ (e4 _ _ g3), e5 _ _ (e4 _ _ (e3 _ _ (e2 _ _ g1))), fresh_ne hpn g1, fresh_ne hpp (e2 _ _ g1)⟩) (fun i σ' H' _ h => by obtain ⟨_, _, _, _, _, _, _, _, _, hs', _⟩ := h; exact sq_of hs') ?_ ?_
  · rintro i x σ' H5 hx ⟨us, qd, z4, z5, z6, rfl, hul, hub, ex5, hs5, gn5, gp5, gd5, nqn, nqp⟩
    obtain ⟨cell, hcell, hi, rfl⟩ := int_at hx
    rw [List.length_take] at hi
    have hfl := fl_len us
    refine q_asgC (vs := [.int cell]) (ea_cons (ev_var rfl) ea_nil) fun H6 e6 => ⟨cell, rfl, fun n H7 e7 hn => ?_⟩
    have ex7 := e6.trans e7
    have hfl1 := form_len n
    have hsz := sz_le n
    refine q_asgL (el_form hn (ev_var rfl)) fun pf H8 hpf e8 g8 => ?_
    refine q_when (b := !true) (et_not (et_B (ev_same (Ev.r (ev_var rfl) g8) (EvL.r (el_form hn (ev_var rfl))) (by rw [cs_len]; omega)))) (fun hb => by cases hb) fun _ H9 e9 => ?_
    have ex9 := ex7.trans (e8.trans e9)
    refine q_app (v := .int (n : Int)) (ex9 _ _ gn5) (ev_var rfl) (ev_var rfl) (by rw [List.length_map, cs_len]; omega) fun H10 e10 => ?_
    have npf : pf ≠ pn := (fresh_ne hpf (ex7 _ _ gn5)).symm
    have ex10 := ex9.trans e10
    have hd10 : (upd H10 pn (.lst ((cs us).map V.int ++ [.int (n : Int)]))) qd = some (.lst ((cs (fl us)).map V.int)) := by rw [upd_ne nqn]; exact ex10 _ _ gd5
    have hf10 : (upd H10 pn (.lst ((cs us).map V.int ++ [.int (n : Int)]))) pf = some (.lst ((cs (form n)).map V.int)) := by rw [upd_ne npf]; exact e10 _ _ (e9 _ _ g8)
    have hp10 : (upd H10 pn (.lst ((cs us).map V.int ++ [.int (n : Int)]))) pp = some (.lst ((cs (places us)).map V.int)) := by rw [upd_ne npp.symm]; exact ex10 _ _ gp5
    have hs10 : (upd H10 pn (.lst ((cs us).map V.int ++ [.int (n : Int)]))) s = some (.lst ((ns.take 63).map V.int)) := by rw [upd_ne nsn.symm]; exact ex10 _ _ hs5
    have hn10 : (upd H10 pn (.lst ((cs us).map V.int ++ [.int (n : Int)]))) pn = some (.lst ((cs (us ++ [n])).map V.int)) := by rw [upd_same, cs_append, List.map_append]; rfl
    have exH : Ex H (upd H10 pn (.lst ((cs us).map V.int ++ [.int (n : Int)]))) := Ex.mut (ex5.trans ex10) hpn0
    generalize (upd H10 pn (.lst ((cs us).map V.int ++ [.int (n : Int)]))) = H11 at *
    refine q_asgL (xs := (cs (fl (us ++ [n]))).map V.int) (EvL.is (el_cat (Ev.r (ev_var rfl) hd10) (Ev.r (ev_var rfl) hf10) (by rw [List.length_map, List.length_map, cs_len, cs_len, form_len]; omega)) (by rw [fl_snoc, cs_append, List.map_append])) fun q2 H12 hq2 e12 g12 => ?_
    refine s_app (v := .int (((fl (us ++ [n])).length : Nat) : Int)) (e12 _ _ hp10) (ev_var rfl) (Ev.is (ev_lenS (Ev.s (ev_var rfl) (sq_of g12))) (by rw [List.length_map, cs_len])) (by rw [List.length_map, cs_len]; unfold places; rw [List.length_map, List.length_range]; omega) fun H13 e13 => ?_
    have n2p : q2 ≠ pp := (fresh_ne hq2 hp10).symm
    refine ⟨us ++ [n], q2, _, _, _, rfl, by rw [List.length_append, hul]; rfl, fun u hu => ?_, Ex.mut (exH.trans (e12.trans e13)) hpp0, ?_, ?_, ?_, ?_, (fresh_ne hq2 hn10).symm, n2p⟩
    · rcases List.mem_append.mp hu with h | h
      · exact hub u h
      · cases List.mem_singleton.mp h
        exact hn
    · rw [upd_ne nsp.symm]
      exact e13 _ _ (e12 _ _ hs10)
    · rw [upd_ne npp]
      exact e13 _ _ (e12 _ _ hn10)
    · rw [upd_same, places_snoc, cs_append, List.map_append]
      rfl
    · rw [upd_ne n2p]
      exact e13 _ _ g12
  · rintro σ' H5 ⟨us, qd, z4, z5, z6, rfl, hul, hub, ex5, hs5, gn5, gp5, gd5, nqn, nqp⟩
    rw [List.length_map, List.length_take] at hul
    have hfl := fl_len us
    generalize hfr : ((ns.take 3).map fun c => (c % 256).toNat) = fr
    have hfrl : fr.length ≤ 3 := by rw [← hfr, List.length_map, List.length_take]; omega
    have hfrb : ∀ b ∈ fr, b < 256 := fun b hb => by
      rw [← hfr] at hb
      obtain ⟨j, _, rfl⟩ := List.mem_map.mp hb
      omega
    refine q_asgL (xs := (cs fr).map V.int) (el_lcS (K := K) (xs := (ns.take 3).map V.int) _ (EvR.s (EvL.r (el_to (i := 3) (Ev.s (ev_var rfl) (ex_l ex5 hS)) ev_c))) (by rw [List.length_map, cs_len, ← hfr, List.length_map, List.length_map]) (by rw [List.length_map, cs_len]; omega) (fun _ => rfl) ?_) fun pf H6 hpf e6 g6 => ?_
    · intro i x H6 e6 hx
      obtain ⟨c, hc, hi, rfl⟩ := int_at hx
      refine ⟨_, at_int (cs_at (d := (c % 256).toNat) ?_), Ev.is (ev_I (ev_int1 (ev_var rfl)) ev_c (by decide)) (congrArg V.int (by omega))⟩
      rw [← hfr, List.getElem?_map, hc]
      rfl
    have hdl : (fr ++ fl us ++ [255, 0]).length ≤ 1000 := by rw [List.length_append, List.length_append]; show _ + 2 ≤ _; omega
    refine q_mk_r (C := T.C_BitReader) (xs := (cs (fr ++ fl us ++ [255, 0])).map V.int) (n := fr.length) (EvL.is (el_cat (EvL.r (el_cat (Ev.r (ev_var rfl) g6) (Ev.r (ev_var rfl) (e6 _ _ gd5)) (by rw [List.length_map, List.length_map, cs_len, cs_len]; omega))) (EvL.r (el_lst (vs := [.int 255, .int 0]) (ea_cons ev_c (ea_cons ev_c ea_nil)) (by decide))) (by rw [List.length_append, List.length_map, List.length_map, cs_len, cs_len]; show _ + 2 ≤ _; omega)) (by rw [cs_append, cs_append, List.map_append, List.map_append]; rfl)) (Ev.is (ev_lenS (Ev.s (ev_var rfl) (sq_of g6))) (by rw [List.length_map, cs_len])) (by omega) fun ra d H7 hra nrd hd7 e7 g7 hR7 => ?_
    have hds : ∀ b ∈ fr ++ fl us ++ [255, 0], b < 256 := fun b hb => by
      rcases List.mem_append.mp hb with h | h
      · rcases List.mem_append.mp h with h | h
        · exact hfrb b h
        · obtain ⟨u, hu, hbu⟩ := List.mem_flatMap.mp h
          exact form_lt (hub u hu) b hbu
      · rcases List.mem_cons.mp h with h | h
        · omega
        · cases List.mem_singleton.mp h
          decide
    have gn7 := e7 _ _ (e6 _ _ gn5)
    have gp7 := e7 _ _ (e6 _ _ gp5)
    have gf7 := e7 _ _ g6
    refine q_forR1 (n := (us.length : Int)) (ea_cons (Ev.is (ev_lenS (Ev.s (ev_var rfl) (sq_of gn7))) (by rw [List.length_map, cs_len])) ea_nil) (by omega) (fun i σ' H' => ∃ z9 z10, σ' = [some (.ref a), some (.ref qd), some (.ref pn), some (.ref pp), z4, z5, z6, some (.ref pf), some (.ref ra), z9, z10] ∧ RdAt T.C_BitReader H' ra d (8 * (fr.length + (fl (us.take i)).length)) ∧ H' d = some (.lst ((cs (fr ++ fl us ++ [255, 0])).map V.int)) ∧ H' pn = some (.lst ((cs us).map V.int)) ∧ H' pp = some (.lst ((cs (places us)).map V.int)) ∧ H' pf = some (.lst ((cs fr).map V.int)))
      (fun H8 e8 => ⟨none, none, rfl, hR7.ex e8, e8 _ _ g7, e8 _ _ gn7, e8 _ _ gp7, e8 _ _ gf7⟩) ?_ ?_
    · rintro i σ' H8 hi ⟨z9, z10, rfl, hR8, gd8, gn8, gp8, gf8⟩
      have hi : i < us.length := by omega
      have hu : us[i]? = some us[i] := List.getElem?_eq_getElem hi
      have hub' := hub _ (List.getElem_mem hi)
      have hsp := fl_split us hu
      have htk : us.take (i + 1) = us.take i ++ [us[i]] := by rw [List.take_add_one, hu]; rfl
      have hpl : (places us)[i]? = some (fl (us.take i) ++ form us[i]).length := by
        unfold places
        rw [List.getElem?_map, List.getElem?_range hi]
        show some (fl (us.take (i + 1))).length = _
        rw [htk, fl_snoc]
      rw [htk, fl_snoc]
      generalize us[i] = n at *
      refine q_asgC (vs := [.ref ra]) (ea_cons (ev_var rfl) ea_nil) fun H9 e9 => ⟨ra, d, _, fr.length + (fl (us.take i)).length, n, rfl, hR8.ex e9, e9 _ _ gd8, hds, by omega, hub', fun j x hj => ?_, fun H10 hF hR10 hd10 => ?_⟩
      · have hjl : j < (form n).length := (List.getElem?_eq_some_iff.mp hj).1
        rw [hsp, List.append_assoc, List.getElem?_append_right (by omega), List.append_assoc, List.getElem?_append_right (by omega), show fr.length + (fl (us.take i)).length + j - fr.length - (fl (us.take i)).length = j by omega, List.append_assoc, List.getElem?_append_left hjl]
        exact hj
      have gn10 := hF _ _ (hR8.ne gn8) (e9 _ _ gn8)
      have gp10 := hF _ _ (hR8.ne gp8) (e9 _ _ gp8)
      have gf10 := hF _ _ (hR8.ne gf8) (e9 _ _ gf8)
      have hfn := form_len n
      refine q_when (b := false) (et_or (a := !true) (et_not (et_test (ev_isiI (ev_var rfl)))) fun _ => et_or (a := false) (b := false) (et_test (ev_isiB (ev_var rfl))) fun _ => et_test (Ev.is (ev_ne (ev_var rfl) (ev_at (Ev.s (ev_var rfl) (sq_of gn10)) (ev_var rfl) (at_of rfl (at_int (cs_at hu)))) rfl) (by rw [decide_eq_true rfl]; rfl))) (fun hb => by cases hb) fun _ H11 e11 => ?_
      refine s_when (b := false) (et_test (Ev.is (ev_ne (ev_place (f := fun pos => (pos : Nat)) (ev_var rfl) (hR10.ex e11) rfl) (ev_I ev_c (ev_I0 (ev_lenS (Ev.s (ev_var rfl) (sq_of (e11 _ _ gf10)))) (ev_at (Ev.s (ev_var rfl) (sq_of (e11 _ _ gp10))) (ev_var rfl) (at_of rfl (at_int (cs_at hpl))))) (.inl (by decide))) rfl) ?_)) (fun hb => by cases hb) fun _ H12 e12 => ?_
      · rw [List.length_map, cs_len, List.length_append, hfn, decide_eq_true (congrArg V.int (by omega))]
        rfl
      · refine ⟨_, _, rfl, ?_, (e11.trans e12) _ _ hd10, (e11.trans e12) _ _ gn10, (e11.trans e12) _ _ gp10, (e11.trans e12) _ _ gf10⟩
        rw [List.length_append, hfn, ← Nat.add_assoc]
        exact hR10.ex (e11.trans e12)
    · rintro σ' H8 ⟨z9, z10, rfl, _⟩
      walk_at "ret"
      intro H9 e9
      exact k _

end
theorem all_mk {l : PySem.W.OpenLaw} {w : World} {K : PySem.W.Frag} {h : Heap} {mg : Str → Option Value} {fa : Addr} {f1 f2 f3 f4 f5 f6 f7 f8 f9 f10 f11 f12 f13 f14 f15 f16 f17 f18 C_BitReader C_MonochordError : Addr} (X : K.In h) (G : h.Ns mainGlobals mg) (hfa : mg "law" = some (.ref fa))
    {od1 an1 : Option Addr} {sl1 : Array (Option Value)} {oc1 dc1 pm1 cd1 ct1 : Value} {kV1 : Value} {od2 an2 : Option Addr} {sl2 : Array (Option Value)} {oc2 dc2 pm2 cd2 ct2 : Value} {kV2 : Value} {od3 an3 : Option Addr} {sl3 : Array (Option Value)} {oc3 dc3 pm3 cd3 ct3 : Value} {kV3 : Value} {od4 an4 : Option Addr} {sl4 : Array (Option Value)} {oc4 dc4 pm4 cd4 ct4 : Value} {kV4 : Value} {od5 an5 : Option Addr} {sl5 : Array (Option Value)} {oc5 dc5 pm5 cd5 ct5 : Value} {kV5 : Value} {od6 an6 : Option Addr} {sl6 : Array (Option Value)} {oc6 dc6 pm6 cd6 ct6 : Value} {kV6 : Value} {od7 an7 : Option Addr} {sl7 : Array (Option Value)} {oc7 dc7 pm7 cd7 ct7 : Value} {kV7 : Value} {od8 an8 : Option Addr} {sl8 : Array (Option Value)} {oc8 dc8 pm8 cd8 ct8 : Value} {kV8 : Value} {DT8 : Addr} {du8_0 tc8 : Value} {td8 : Option Addr} {tn8 : Nat} {tsl8 : Array (Option Value)} {od9 an9 : Option Addr} {sl9 : Array (Option Value)} {oc9 dc9 pm9 cd9 ct9 : Value} {kV9 : Value} {od10 an10 : Option Addr} {sl10 : Array (Option Value)} {oc10 dc10 pm10 cd10 ct10 : Value} {kV10 : Value} {od11 an11 : Option Addr} {sl11 : Array (Option Value)} {oc11 dc11 pm11 cd11 ct11 : Value} {kV11 : Value} {od12 an12 : Option Addr} {sl12 : Array (Option Value)} {oc12 dc12 pm12 cd12 ct12 : Value} {kV12 : Value} {od13 an13 : Option Addr} {sl13 : Array (Option Value)} {oc13 dc13 pm13 cd13 ct13 : Value} {kV13 : Value} {od14 an14 : Option Addr} {sl14 : Array (Option Value)} {oc14 dc14 pm14 cd14 ct14 : Value} {kV14 : Value} {od15 an15 : Option Addr} {sl15 : Array (Option Value)} {oc15 dc15 pm15 cd15 ct15 : Value} {kV15 : Value} {od16 an16 : Option Addr} {sl16 : Array (Option Value)} {oc16 dc16 pm16 cd16 ct16 : Value} {kV16 : Value} {od17 an17 : Option Addr} {sl17 : Array (Option Value)} {oc17 dc17 pm17 cd17 ct17 : Value} {kV17 : Value} {od18 an18 : Option Addr} {sl18 : Array (Option Value)} {oc18 dc18 pm18 cd18 ct18 : Value} {kV18 : Value}
    (a1 : PySem.W.nsIn K mainGlobals "write_number" = some (some (.ref f1)))
    (l1 : K.lookup f1 = some ⟨oc1, od1, .func (PySem.W.fnOf "write_number" "write_number" (defArgs s_write_number) (defBody s_write_number) (defScope s_write_number) .none kV1 dc1 pm1 an1 cd1 ct1), sl1⟩) (c1 : PySem.W.codeIn K cd1 "write_number" = true) (k1 : PySem.W.keepIn K (.ref f1) = true)
    (a2 : PySem.W.nsIn K mainGlobals "read_number" = some (some (.ref f2)))
    (l2 : K.lookup f2 = some ⟨oc2, od2, .func (PySem.W.fnOf "read_number" "read_number" (defArgs s_read_number) (defBody s_read_number) (defScope s_read_number) .none kV2 dc2 pm2 an2 cd2 ct2), sl2⟩) (c2 : PySem.W.codeIn K cd2 "read_number" = true) (k2 : PySem.W.keepIn K (.ref f2) = true)
    (a3 : PySem.W.nsIn K mainGlobals "_number_ahead" = some (some (.ref f3)))
    (l3 : K.lookup f3 = some ⟨oc3, od3, .func (PySem.W.fnOf "_number_ahead" "_number_ahead" (defArgs s_number_ahead) (defBody s_number_ahead) (defScope s_number_ahead) .none kV3 dc3 pm3 an3 cd3 ct3), sl3⟩) (c3 : PySem.W.codeIn K cd3 "_number_ahead" = true) (k3 : PySem.W.keepIn K (.ref f3) = true)
    (a4 : PySem.W.nsIn K mainGlobals "_further_bits" = some (some (.ref f4)))
    (l4 : K.lookup f4 = some ⟨oc4, od4, .func (PySem.W.fnOf "_further_bits" "_further_bits" (defArgs s_further_bits) (defBody s_further_bits) (defScope s_further_bits) .none kV4 dc4 pm4 an4 cd4 ct4), sl4⟩) (c4 : PySem.W.codeIn K cd4 "_further_bits" = true) (k4 : PySem.W.keepIn K (.ref f4) = true)
    (a5 : PySem.W.nsIn K mainGlobals "_bound" = some (some (.ref f5)))
    (l5 : K.lookup f5 = some ⟨oc5, od5, .func (PySem.W.fnOf "_bound" "_bound" (defArgs s_bound) (defBody s_bound) (defScope s_bound) .none kV5 dc5 pm5 an5 cd5 ct5), sl5⟩) (c5 : PySem.W.codeIn K cd5 "_bound" = true) (k5 : PySem.W.keepIn K (.ref f5) = true)
    (a6 : PySem.W.nsIn K mainGlobals "_least_first" = some (some (.ref f6)))
    (l6 : K.lookup f6 = some ⟨oc6, od6, .func (PySem.W.fnOf "_least_first" "_least_first" (defArgs s_least_first) (defBody s_least_first) (defScope s_least_first) .none kV6 dc6 pm6 an6 cd6 ct6), sl6⟩) (c6 : PySem.W.codeIn K cd6 "_least_first" = true) (k6 : PySem.W.keepIn K (.ref f6) = true)
    (a7 : PySem.W.nsIn K mainGlobals "_count_told" = some (some (.ref f7)))
    (l7 : K.lookup f7 = some ⟨oc7, od7, .func (PySem.W.fnOf "_count_told" "_count_told" (defArgs s_count_told) (defBody s_count_told) (defScope s_count_told) .none kV7 dc7 pm7 an7 cd7 ct7), sl7⟩) (c7 : PySem.W.codeIn K cd7 "_count_told" = true) (k7 : PySem.W.keepIn K (.ref f7) = true)
    (a8 : PySem.W.findIn K (.ref C_BitReader) "__init__" = some (some (.ref f8))) (i8 : PySem.W.isFn K (.ref f8) = true)
    (l8 : K.lookup f8 = some ⟨oc8, od8, .func (PySem.W.fnOf "__init__" "BitReader.__init__" (defArgs s_BitReader_init) (defBody s_BitReader_init) (defScope s_BitReader_init) (.ref DT8) kV8 dc8 pm8 an8 cd8 ct8), sl8⟩) (c8 : PySem.W.codeIn K cd8 "BitReader.__init__" = true) (k8 : PySem.W.keepIn K (.ref f8) = true)
    (t8 : K.lookup DT8 = some ⟨tc8, td8, .seq (List.toArray [du8_0]) tn8, tsl8⟩)
    (rd8_0 : RelV (V.int 0) du8_0)
    (a9 : PySem.W.findIn K (.ref C_BitReader) "read" = some (some (.ref f9))) (i9 : PySem.W.isFn K (.ref f9) = true)
    (l9 : K.lookup f9 = some ⟨oc9, od9, .func (PySem.W.fnOf "read" "BitReader.read" (defArgs s_BitReader_read) (defBody s_BitReader_read) (defScope s_BitReader_read) .none kV9 dc9 pm9 an9 cd9 ct9), sl9⟩) (c9 : PySem.W.codeIn K cd9 "BitReader.read" = true) (k9 : PySem.W.keepIn K (.ref f9) = true)
    (a10 : PySem.W.findIn K (.ref C_BitReader) "move_to" = some (some (.ref f10))) (i10 : PySem.W.isFn K (.ref f10) = true)
    (l10 : K.lookup f10 = some ⟨oc10, od10, .func (PySem.W.fnOf "move_to" "BitReader.move_to" (defArgs s_BitReader_move_to) (defBody s_BitReader_move_to) (defScope s_BitReader_move_to) .none kV10 dc10 pm10 an10 cd10 ct10), sl10⟩) (c10 : PySem.W.codeIn K cd10 "BitReader.move_to" = true) (k10 : PySem.W.keepIn K (.ref f10) = true)
    (a11 : PySem.W.findIn K (.ref C_BitReader) "byte_place" = some (some (.ref f11))) (i11 : PySem.W.isFn K (.ref f11) = true)
    (l11 : K.lookup f11 = some ⟨oc11, od11, .func (PySem.W.fnOf "byte_place" "BitReader.byte_place" (defArgs s_BitReader_byte_place) (defBody s_BitReader_byte_place) (defScope s_BitReader_byte_place) .none kV11 dc11 pm11 an11 cd11 ct11), sl11⟩) (c11 : PySem.W.codeIn K cd11 "BitReader.byte_place" = true) (k11 : PySem.W.keepIn K (.ref f11) = true)
    (a12 : PySem.W.findIn K (.ref C_BitReader) "bit_place" = some (some (.ref f12))) (i12 : PySem.W.isFn K (.ref f12) = true)
    (l12 : K.lookup f12 = some ⟨oc12, od12, .func (PySem.W.fnOf "bit_place" "BitReader.bit_place" (defArgs s_BitReader_bit_place) (defBody s_BitReader_bit_place) (defScope s_BitReader_bit_place) .none kV12 dc12 pm12 an12 cd12 ct12), sl12⟩) (c12 : PySem.W.codeIn K cd12 "BitReader.bit_place" = true) (k12 : PySem.W.keepIn K (.ref f12) = true)
    (a13 : PySem.W.nsIn K mainGlobals "_law_draw" = some (some (.ref f13)))
    (l13 : K.lookup f13 = some ⟨oc13, od13, .func (PySem.W.fnOf "_law_draw" "_law_draw" (defArgs s_law_draw) (defBody s_law_draw) (defScope s_law_draw) .none kV13 dc13 pm13 an13 cd13 ct13), sl13⟩) (c13 : PySem.W.codeIn K cd13 "_law_draw" = true) (k13 : PySem.W.keepIn K (.ref f13) = true)
    (a14 : PySem.W.nsIn K mainGlobals "_law_is_integer" = some (some (.ref f14)))
    (l14 : K.lookup f14 = some ⟨oc14, od14, .func (PySem.W.fnOf "_law_is_integer" "_law_is_integer" (defArgs s_law_is_integer) (defBody s_law_is_integer) (defScope s_law_is_integer) .none kV14 dc14 pm14 an14 cd14 ct14), sl14⟩) (c14 : PySem.W.codeIn K cd14 "_law_is_integer" = true) (k14 : PySem.W.keepIn K (.ref f14) = true)
    (a15 : PySem.W.nsIn K mainGlobals "_law_same" = some (some (.ref f15)))
    (l15 : K.lookup f15 = some ⟨oc15, od15, .func (PySem.W.fnOf "_law_same" "_law_same" (defArgs s_law_same) (defBody s_law_same) (defScope s_law_same) .none kV15 dc15 pm15 an15 cd15 ct15), sl15⟩) (c15 : PySem.W.codeIn K cd15 "_law_same" = true) (k15 : PySem.W.keepIn K (.ref f15) = true)
    (a16 : PySem.W.nsIn K mainGlobals "_law_number" = some (some (.ref f16)))
    (l16 : K.lookup f16 = some ⟨oc16, od16, .func (PySem.W.fnOf "_law_number" "_law_number" (defArgs s_law_number) (defBody s_law_number) (defScope s_law_number) .none kV16 dc16 pm16 an16 cd16 ct16), sl16⟩) (c16 : PySem.W.codeIn K cd16 "_law_number" = true) (k16 : PySem.W.keepIn K (.ref f16) = true)
    (a17 : PySem.W.nsIn K mainGlobals "_law_form" = some (some (.ref f17)))
    (l17 : K.lookup f17 = some ⟨oc17, od17, .func (PySem.W.fnOf "_law_form" "_law_form" (defArgs s_law_form) (defBody s_law_form) (defScope s_law_form) .none kV17 dc17 pm17 an17 cd17 ct17), sl17⟩) (c17 : PySem.W.codeIn K cd17 "_law_form" = true) (k17 : PySem.W.keepIn K (.ref f17) = true)
    (a18 : PySem.W.nsIn K mainGlobals "law" = some (some (.ref f18)))
    (l18 : K.lookup f18 = some ⟨oc18, od18, .func (PySem.W.fnOf "law" "law" (defArgs s_law) (defBody s_law) (defScope s_law) .none kV18 dc18 pm18 an18 cd18 ct18), sl18⟩) (c18 : PySem.W.codeIn K cd18 "law" = true) (k18 : PySem.W.keepIn K (.ref f18) = true)
    (aC_BitReader : PySem.W.nsIn K mainGlobals "BitReader" = some (some (.ref C_BitReader)))
    (pg_BitReader : PySem.W.plainGet K C_BitReader Str.empty = true) (hd_BitReader : PySem.W.hasDictIn K C_BitReader = true) (po_BitReader : PySem.W.plainOver K C_BitReader = true) (sa_BitReader : PySem.W.findIn K (.ref C_BitReader) "__setattr__" = some (some (.builtin "object.__setattr__"))) (mk_BitReader : PySem.W.makesIn K C_BitReader = true) (kc_BitReader : PySem.W.keepIn K (.ref C_BitReader) = true)
    (n_BitReader_data : PySem.W.findIn K (.ref C_BitReader) "_data" = some none)
    (n_BitReader_position : PySem.W.findIn K (.ref C_BitReader) "_position" = some none)
    (aC_MonochordError : PySem.W.nsIn K mainGlobals "MonochordError" = some (some (.ref C_MonochordError)))
    (z_range : PySem.W.nsIn K mainGlobals "range" = some none)
    (z_len : PySem.W.nsIn K mainGlobals "len" = some none)
    (z_int : PySem.W.nsIn K mainGlobals "int" = some none)
    (z_isinstance : PySem.W.nsIn K mainGlobals "isinstance" = some none)
    (z_bool : PySem.W.nsIn K mainGlobals "bool" = some none)
    (z_list : PySem.W.nsIn K mainGlobals "list" = some none)
    : ∃ fd : FuncData, (∀ (s : Shared) (v : Value), BindsTo s fd ⟨[v], []⟩ [("script", v)]) ∧ ∀ base : Heap, K.In base → base.Ns mainGlobals mg → FnOk l.prog w K mg base CX0 5 fa fd ["script"] (sp_law K) := by
  have e := hfa.symm.trans (PySem.W.mg_of X G a18)
  cases e
  have F1 := fun_mk (st := s_write_number) l1 c1 k1
  have b1 := F1.binds (ps := ["number"]) fun _ _ _ _ _ _ us hl => match us, hl with | [_], _ => rfl
  have F2 := fun_mk (st := s_read_number) l2 c2 k2
  have b2 := F2.binds (ps := ["reader"]) fun _ _ _ _ _ _ us hl => match us, hl with | [_], _ => rfl
  have F3 := fun_mk (st := s_number_ahead) l3 c3 k3
  have b3 := F3.binds (ps := ["reader"]) fun _ _ _ _ _ _ us hl => match us, hl with | [_], _ => rfl
  have F4 := fun_mk (st := s_further_bits) l4 c4 k4
  have b4 := F4.binds (ps := ["reader"]) fun _ _ _ _ _ _ us hl => match us, hl with | [_], _ => rfl
  have F5 := fun_mk (st := s_bound) l5 c5 k5
  have b5 := F5.binds (ps := ["count"]) fun _ _ _ _ _ _ us hl => match us, hl with | [_], _ => rfl
  have F6 := fun_mk (st := s_least_first) l6 c6 k6
  have b6 := F6.binds (ps := ["count"]) fun _ _ _ _ _ _ us hl => match us, hl with | [_], _ => rfl
  have F7 := fun_mk (st := s_count_told) l7 c7 k7
  have b7 := F7.binds (ps := ["first"]) fun _ _ _ _ _ _ us hl => match us, hl with | [_], _ => rfl
  have F8 : FunD K "__init__" "BitReader.__init__" (defArgs s_BitReader_init) (defBody s_BitReader_init) (defScope s_BitReader_init) [V.int 0] [] _ _ := ⟨⟨_, _, _, _, _, _, _, _, _, _, rfl, l8, c8, (.inr ⟨by simp, DT8, _, [du8_0], tn8, rfl, t8, rfl, (.cons rd8_0 .nil)⟩), (.inl rfl)⟩, k8⟩
  obtain ⟨e3_8, v3_8, b3_8⟩ := F8.binds1 (ps := ["self", "data", "at"]) 3 1 (by simp) rfl fun T0 kV doc pm an cdv ct us its hu hi => match us, hu, its, hi with | [_, _, _], _, [_], _ => ⟨_, rfl, rfl⟩
  have F9 := fun_mk (st := s_BitReader_read) l9 c9 k9
  have b9 := F9.binds (ps := ["self", "width"]) fun _ _ _ _ _ _ us hl => match us, hl with | [_, _], _ => rfl
  have F10 := fun_mk (st := s_BitReader_move_to) l10 c10 k10
  have b10 := F10.binds (ps := ["self", "bit_place"]) fun _ _ _ _ _ _ us hl => match us, hl with | [_, _], _ => rfl
  have F11 := fun_mk (st := s_BitReader_byte_place) l11 c11 k11
  have b11 := F11.binds (ps := ["self"]) fun _ _ _ _ _ _ us hl => match us, hl with | [_], _ => rfl
  have F12 := fun_mk (st := s_BitReader_bit_place) l12 c12 k12
  have b12 := F12.binds (ps := ["self"]) fun _ _ _ _ _ _ us hl => match us, hl with | [_], _ => rfl
  have F13 := fun_mk (st := s_law_draw) l13 c13 k13
  have b13 := F13.binds (ps := ["cell", "many", "bound"]) fun _ _ _ _ _ _ us hl => match us, hl with | [_, _, _], _ => rfl
  have F14 := fun_mk (st := s_law_is_integer) l14 c14 k14
  have b14 := F14.binds (ps := ["actual"]) fun _ _ _ _ _ _ us hl => match us, hl with | [_], _ => rfl
  have F15 := fun_mk (st := s_law_same) l15 c15 k15
  have b15 := F15.binds (ps := ["actual", "expected"]) fun _ _ _ _ _ _ us hl => match us, hl with | [_, _], _ => rfl
  have F16 := fun_mk (st := s_law_number) l16 c16 k16
  have b16 := F16.binds (ps := ["cell"]) fun _ _ _ _ _ _ us hl => match us, hl with | [_], _ => rfl
  have F17 := fun_mk (st := s_law_form) l17 c17 k17
  have b17 := F17.binds (ps := ["number"]) fun _ _ _ _ _ _ us hl => match us, hl with | [_], _ => rfl
  have F18 := fun_mk (st := s_law) l18 c18 k18
  have b18 := F18.binds (ps := ["script"]) fun _ _ _ _ _ _ us hl => match us, hl with | [_], _ => rfl
  let T : TX K mg := ⟨f1, _, F1, b1, (PySem.W.mg_of X G a1), f2, _, F2, b2, (PySem.W.mg_of X G a2), f3, _, F3, b3, (PySem.W.mg_of X G a3), f4, _, F4, b4, (PySem.W.mg_of X G a4), f5, _, F5, b5, (PySem.W.mg_of X G a5), f6, _, F6, b6, (PySem.W.mg_of X G a6), f7, _, F7, b7, (PySem.W.mg_of X G a7), f8, _, F8, e3_8, v3_8, b3_8, f9, _, F9, b9, f10, _, F10, b10, f11, _, F11, b11, f12, _, F12, b12, f13, _, F13, b13, (PySem.W.mg_of X G a13), f14, _, F14, b14, (PySem.W.mg_of X G a14), f15, _, F15, b15, (PySem.W.mg_of X G a15), f16, _, F16, b16, (PySem.W.mg_of X G a16), f17, _, F17, b17, (PySem.W.mg_of X G a17), fa, _, F18, b18, (PySem.W.mg_of X G a18), C_BitReader, ⟨pg_BitReader, hd_BitReader, po_BitReader, sa_BitReader⟩, (PySem.W.mg_of X G aC_BitReader), ⟨mk_BitReader, a8, i8, kc_BitReader⟩, ⟨a9, i9, k9⟩, ⟨a10, i10, k10⟩, ⟨a11, i11, k11⟩, ⟨a12, i12, k12⟩, n_BitReader_data, n_BitReader_position, C_MonochordError, (PySem.W.mg_of X G aC_MonochordError), (PySem.W.mg_none_of X G z_range), (PySem.W.mg_none_of X G z_len), (PySem.W.mg_none_of X G z_int), (PySem.W.mg_none_of X G z_isinstance), (PySem.W.mg_none_of X G z_bool), (PySem.W.mg_none_of X G z_list)⟩
  exact ⟨_, fun s v => .of_eq rfl, fun base _ _ => ok_law T⟩
end K10
open PySem PySem.W PyProof.Rows
set_option maxRecDepth 100000 in
set_option maxHeartbeats 0 in
theorem PySem.Challenge.cw_monochord_k10_coded_numbers_holds : PySem.Challenge.rw_monochord_k10_coded_numbers.Holds := by
  w_on; o_law; k_head; (case hw => w_witness2)
  k_fill
  refine L2.walk_of (l := PySem.Challenge.rw_monochord_k10_coded_numbers) (n := 63) (k := 5) (x := "script") (CX := fun _ => L2.CX0) (sp := fun w => K10.sp_law _) rfl (by decide) rfl ⟨rfl, by decide, by decide⟩ (fun w h Y => PySem.W.kIn_of Y) ?F (fun _ _ a ns hl _ hS => ⟨a, ns, rfl, hS, hl, fun _ => rfl⟩) (fun _ _ _ _ _ h => h)
  case F =>
    intro w mg fa h KX G hmg
    refine' K10.all_mk KX G hmg ?a1 ?l1 ?c1 ?k1 ?a2 ?l2 ?c2 ?k2 ?a3 ?l3 ?c3 ?k3 ?a4 ?l4 ?c4 ?k4 ?a5 ?l5 ?c5 ?k5 ?a6 ?l6 ?c6 ?k6 ?a7 ?l7 ?c7 ?k7 ?a8 ?i8 ?l8 ?c8 ?k8 ?t8 ?rd8_0 ?a9 ?i9 ?l9 ?c9 ?k9 ?a10 ?i10 ?l10 ?c10 ?k10 ?a11 ?i11 ?l11 ?c11 ?k11 ?a12 ?i12 ?l12 ?c12 ?k12 ?a13 ?l13 ?c13 ?k13 ?a14 ?l14 ?c14 ?k14 ?a15 ?l15 ?c15 ?k15 ?a16 ?l16 ?c16 ?k16 ?a17 ?l17 ?c17 ?k17 ?a18 ?l18 ?c18 ?k18 ?aC_BitReader ?pg_BitReader ?hd_BitReader ?po_BitReader ?sa_BitReader ?mk_BitReader ?kc_BitReader ?n_BitReader_data ?n_BitReader_position ?aC_MonochordError ?z_range ?z_len ?z_int ?z_isinstance ?z_bool ?z_list
    (case aC_BitReader => k_is)
    (case aC_MonochordError => k_is)
    (case a1 => k_is)
    (case l1 => k_is)
    (case c1 => k_is)
    (case k1 => k_is)
    (case a2 => k_is)
    (case l2 => k_is)
    (case c2 => k_is)
    (case k2 => k_is)
    (case a3 => k_is)
    (case l3 => k_is)
    (case c3 => k_is)
    (case k3 => k_is)
    (case a4 => k_is)
    (case l4 => k_is)
    (case c4 => k_is)
    (case k4 => k_is)
    (case a5 => k_is)
    (case l5 => k_is)
    (case c5 => k_is)
    (case k5 => k_is)
    (case a6 => k_is)
    (case l6 => k_is)
    (case c6 => k_is)
    (case k6 => k_is)
    (case a7 => k_is)
    (case l7 => k_is)
    (case c7 => k_is)
    (case k7 => k_is)
    (case a8 => k_is)
    (case i8 => k_is)
    (case l8 => k_is)
    (case c8 => k_is)
    (case k8 => k_is)
    (case t8 => k_is)
    (case rd8_0 => first | rfl | exact ⟨_, rfl⟩)
    (case a9 => k_is)
    (case i9 => k_is)
    (case l9 => k_is)
    (case c9 => k_is)
    (case k9 => k_is)
    (case a10 => k_is)
    (case i10 => k_is)
    (case l10 => k_is)
    (case c10 => k_is)
    (case k10 => k_is)
    (case a11 => k_is)
    (case i11 => k_is)
    (case l11 => k_is)
    (case c11 => k_is)
    (case k11 => k_is)
    (case a12 => k_is)
    (case i12 => k_is)
    (case l12 => k_is)
    (case c12 => k_is)
    (case k12 => k_is)
    (case a13 => k_is)
    (case l13 => k_is)
    (case c13 => k_is)
    (case k13 => k_is)
    (case a14 => k_is)
    (case l14 => k_is)
    (case c14 => k_is)
    (case k14 => k_is)
    (case a15 => k_is)
    (case l15 => k_is)
    (case c15 => k_is)
    (case k15 => k_is)
    (case a16 => k_is)
    (case l16 => k_is)
    (case c16 => k_is)
    (case k16 => k_is)
    (case a17 => k_is)
    (case l17 => k_is)
    (case c17 => k_is)
    (case k17 => k_is)
    (case a18 => k_is)
    (case l18 => k_is)
    (case c18 => k_is)
    (case k18 => k_is)
    (case pg_BitReader => k_is)
    (case hd_BitReader => k_is)
    (case po_BitReader => k_is)
    (case sa_BitReader => k_is)
    (case mk_BitReader => k_is)
    (case kc_BitReader => k_is)
    (case n_BitReader_data => k_is)
    (case n_BitReader_position => k_is)
    (case z_range => k_is)
    (case z_len => k_is)
    (case z_int => k_is)
    (case z_isinstance => k_is)
    (case z_bool => k_is)
    (case z_list => k_is)
