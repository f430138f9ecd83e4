import PyProof.Rows.All
import Wide.All
import OpenK.AllK
import Wide.FinOn
import HandS.ForMost
import HandS.Steps
import HandS.Evl
import HandS.IsInst
import HandS.Defaults
import HandS.Wide
import HandS.WideBits
import HandS.Zip
import HandS.Walk
import HandS.Text
import HandS.TryOnly
import PySem.Challenge.RW_monochord_k07_digests_of_short_data
set_option Elab.async false
set_option linter.all false
set_option maxRecDepth 100000
set_option maxHeartbeats 4000000
namespace K07
open PySem PySem.Spec PyProof.Rows L2 Evl
def topS (i : Nat) : Stmt := PySem.Challenge.pw_monochord_k07_digests_of_short_data.main.body.getD i (.Pass ⟨0, 0, 0, 0⟩)
abbrev s_md5 : Stmt := topS 5
theorem sc_md5 : FnScope ["data", "parts"] ["data"] (defScope s_md5) := ⟨rfl, rfl, rfl, by decide +kernel, rfl, by decide +kernel, by decide +kernel⟩
abbrev s_Md5_init : Stmt := inClass (topS 6) 0
theorem sc_Md5_init : FnScope ["self"] ["self"] (defScope s_Md5_init) := ⟨rfl, rfl, rfl, by decide +kernel, rfl, by decide +kernel, by decide +kernel⟩
abbrev s_Md5_feed : Stmt := inClass (topS 6) 1
theorem sc_Md5_feed : FnScope ["self", "data", "waiting", "whole"] ["self", "data"] (defScope s_Md5_feed) := ⟨rfl, rfl, rfl, by decide +kernel, rfl, by decide +kernel, by decide +kernel⟩
abbrev s_Md5_digest : Stmt := inClass (topS 6) 2
theorem sc_Md5_digest : FnScope ["self", "padded", "state", "word", "byte"] ["self"] (defScope s_Md5_digest) := ⟨rfl, rfl, rfl, by decide +kernel, rfl, by decide +kernel, by decide +kernel⟩
abbrev s_low_bytes : Stmt := topS 7
theorem sc_low_bytes : FnScope ["number", "count", "shift"] ["number", "count"] (defScope s_low_bytes) := ⟨rfl, rfl, rfl, by decide +kernel, rfl, by decide +kernel, by decide +kernel⟩
abbrev s_padding : Stmt := topS 8
theorem sc_padding : FnScope ["length"] ["length"] (defScope s_padding) := ⟨rfl, rfl, rfl, by decide +kernel, rfl, by decide +kernel, by decide +kernel⟩
abbrev s_after_blocks : Stmt := topS 9
theorem sc_after_blocks : FnScope ["state", "data", "stop", "start"] ["state", "data", "stop"] (defScope s_after_blocks) := ⟨rfl, rfl, rfl, by decide +kernel, rfl, by decide +kernel, by decide +kernel⟩
abbrev s_words : Stmt := topS 10
theorem sc_words : FnScope ["block", "k"] ["block"] (defScope s_words) := ⟨rfl, rfl, rfl, by decide +kernel, rfl, by decide +kernel, by decide +kernel⟩
abbrev s_after_block : Stmt := topS 11
theorem sc_after_block : FnScope ["state", "words", "a", "b", "c", "d", "step", "chosen", "index", "mixed", "turn", "turned", "old", "new"] ["state", "words"] (defScope s_after_block) := ⟨rfl, rfl, rfl, by decide +kernel, rfl, by decide +kernel, by decide +kernel⟩
abbrev s_choice : Stmt := topS 12
theorem sc_choice : FnScope ["step", "b", "c", "d"] ["step", "b", "c", "d"] (defScope s_choice) := ⟨rfl, rfl, rfl, by decide +kernel, rfl, by decide +kernel, by decide +kernel⟩
abbrev s_law_draw : Stmt := topS 14
theorem sc_law_draw : FnScope ["cell", "many", "bound", "numbers", "k", "seed", "mixed"] ["cell", "many", "bound"] (defScope s_law_draw) := ⟨rfl, rfl, rfl, by decide +kernel, rfl, by decide +kernel, by decide +kernel⟩
abbrev s_law_is_integer : Stmt := topS 15
theorem sc_law_is_integer : FnScope ["actual"] ["actual"] (defScope s_law_is_integer) := ⟨rfl, rfl, rfl, by decide +kernel, rfl, by decide +kernel, by decide +kernel⟩
abbrev s_law_same : Stmt := topS 16
theorem sc_law_same : FnScope ["actual", "expected", "k"] ["actual", "expected"] (defScope s_law_same) := ⟨rfl, rfl, rfl, by decide +kernel, rfl, by decide +kernel, by decide +kernel⟩
abbrev s_law_cell : Stmt := topS 17
theorem sc_law_cell : FnScope ["script", "k"] ["script", "k"] (defScope s_law_cell) := ⟨rfl, rfl, rfl, by decide +kernel, rfl, by decide +kernel, by decide +kernel⟩
abbrev s_law_constants : Stmt := topS 18
theorem sc_law_constants : FnScope [] [] (defScope s_law_constants) := ⟨rfl, rfl, rfl, by decide +kernel, rfl, by decide +kernel, by decide +kernel⟩
abbrev s_law_mixed : Stmt := topS 19
theorem sc_law_mixed : FnScope ["step", "b", "c", "d"] ["step", "b", "c", "d"] (defScope s_law_mixed) := ⟨rfl, rfl, rfl, by decide +kernel, rfl, by decide +kernel, by decide +kernel⟩
abbrev s_law_index : Stmt := topS 20
theorem sc_law_index : FnScope ["step", "factors", "adds"] ["step"] (defScope s_law_index) := ⟨rfl, rfl, rfl, by decide +kernel, rfl, by decide +kernel, by decide +kernel⟩
abbrev s_law_turn : Stmt := topS 21
theorem sc_law_turn : FnScope ["step", "turns"] ["step"] (defScope s_law_turn) := ⟨rfl, rfl, rfl, by decide +kernel, rfl, by decide +kernel, by decide +kernel⟩
abbrev s_law_block : Stmt := topS 22
theorem sc_law_block : FnScope ["state", "block", "constants", "a", "b", "c", "d", "step", "g", "word", "t", "turn", "new", "k"] ["state", "block"] (defScope s_law_block) := ⟨rfl, rfl, rfl, by decide +kernel, rfl, by decide +kernel, by decide +kernel⟩
abbrev s_law_digest : Stmt := topS 23
theorem sc_law_digest : FnScope ["data", "whole", "k", "state", "result", "word"] ["data"] (defScope s_law_digest) := ⟨rfl, rfl, rfl, by decide +kernel, rfl, by decide +kernel, by decide +kernel⟩
abbrev s_law : Stmt := topS 24
theorem sc_law : FnScope ["script", "cell", "many", "data", "handed", "expected", "first"] ["script"] (defScope s_law) := ⟨rfl, rfl, rfl, by decide +kernel, rfl, by decide +kernel, by decide +kernel⟩
theorem hu64 {A : Around} {k : Nat} (hr : Room k A) : A.units + 64 < cLine := hr.units
/-! ### short words for readings -/
theorem ret_eq {v w : V} {H H' : Hp} {Q : VK} (k : RetV v H Q) (ex : Ex H H') (e : w = v) : Q w H' := e ▸ k H' ex
/-- isinstance(x, T), T a built-in class -/
theorem ev_isi {K : PySem.W.Frag} {σ : L2.St} {H : Hp} {ta : TE} {x : V} {t : String} {T : String} {b : Bool} (ha : Ev ta σ H x) (ht : ∀ H1, Ex H H1 → TyX K H1 x (.type t)) (hk : kitB t T = some b) :
    Ev (tCB (rIsi K) (tCons ta (tCons (tC (.ty T)) tNil))) σ H (.bl b) :=
  ev_cb (ea_cons ha (ea_cons ev_c ea_nil)) fun H1 e Q q => ⟨x, .ty T, _, _, b, rfl, .ty T, ht H1 e, kit_ty hk, q H1 (Ex.refl H1)⟩
theorem isi_int {K : PySem.W.Frag} {H : Hp} {i : Int} : ∀ H1, Ex H H1 → TyX K H1 (V.int i) (.type "int") := fun _ _ => .base (.int _)
theorem isi_bl {K : PySem.W.Frag} {H : Hp} {b : Bool} : ∀ H1, Ex H H1 → TyX K H1 (V.bl b) (.type "bool") := fun _ _ => .base (.bl _)
theorem isi_non {K : PySem.W.Frag} {H : Hp} : ∀ H1, Ex H H1 → TyX K H1 V.non (.type "NoneType") := fun _ _ => .base .non
theorem isi_lst {K : PySem.W.Frag} {H : Hp} {a : Addr} {xs : List V} (h : H a = some (.lst xs)) : ∀ H1, Ex H H1 → TyX K H1 (V.ref a) (.type "list") := fun _ e => .base (.lst (e _ _ h))
theorem isi_tup {K : PySem.W.Frag} {H : Hp} {a : Addr} {xs : List V} (h : H a = some (.tup xs)) : ∀ H1, Ex H H1 → TyX K H1 (V.ref a) (.type "tuple") := fun _ e => .base (.tup (e _ _ h))
theorem kit_ii : kitB "int" "int" = some true := by decide +kernel
theorem kit_ib : kitB "int" "bool" = some false := by decide +kernel
theorem kit_bb : kitB "bool" "bool" = some true := by decide +kernel
theorem kit_bi : kitB "bool" "int" = some true := by decide +kernel
theorem kit_ll : kitB "list" "list" = some true := by decide +kernel
theorem kit_tt : kitB "tuple" "tuple" = some true := by decide +kernel
theorem ev_isiI {K : PySem.W.Frag} {σ : L2.St} {H : Hp} {ta : TE} {i : Int} (ha : Ev ta σ H (.int i)) : Ev (tCB (rIsi K) (tCons ta (tCons (tC (.ty "int")) tNil))) σ H (.bl true) := ev_isi ha isi_int kit_ii
theorem ev_isiB {K : PySem.W.Frag} {σ : L2.St} {H : Hp} {ta : TE} {i : Int} (ha : Ev ta σ H (.int i)) : Ev (tCB (rIsi K) (tCons ta (tCons (tC (.ty "bool")) tNil))) σ H (.bl false) := ev_isi ha isi_int kit_ib
theorem ev_isiL {K : PySem.W.Frag} {σ : L2.St} {H : Hp} {ta : TE} {a : Addr} {xs : List V} (ha : Ev ta σ H (.ref a)) (h : H a = some (.lst xs)) : Ev (tCB (rIsi K) (tCons ta (tCons (tC (.ty "list")) tNil))) σ H (.bl true) := ev_isi ha (isi_lst h) kit_ll
theorem ev_isiBB {K : PySem.W.Frag} {σ : L2.St} {H : Hp} {ta : TE} {b : Bool} (ha : Ev ta σ H (.bl b)) : Ev (tCB (rIsi K) (tCons ta (tCons (tC (.ty "bool")) tNil))) σ H (.bl true) := ev_isi ha isi_bl kit_bb
theorem ev_chain {σ : L2.St} {H : Hp} {ta tb tc : TE} {g g' : Int → Int → Bool} {a b c : Int} (ha : Ev ta σ H (.int a)) (hb : Ev tb σ H (.int b)) (hc : Ev tc σ H (.int c)) :
    Ev (tChain (rI0 fun i j => .bl (g i j)) (rI0 fun i j => .bl (g' i j)) ta tb tc) σ H (.bl (g a b && g' b c)) := fun H1 e Q q =>
  ha H1 e _ fun H2 e2 => hb H2 (e.trans e2) _ fun H3 e3 => ⟨a, b, rfl, rfl, g a b, rfl, by
    cases hg : g a b with
    | true =>
      rw [if_pos rfl]
      rw [hg, Bool.true_and] at q
      exact hc H3 ((e.trans e2).trans e3) _ fun H4 e4 => ⟨b, c, rfl, rfl, q H4 ((e2.trans e3).trans e4)⟩
    | false =>
      rw [if_neg (by decide)]
      rw [hg, Bool.false_and] at q
      exact q H3 (e2.trans e3)⟩
theorem ev_isN {σ : L2.St} {H : Hp} {ta : TE} {x : V} (ha : Ev ta σ H x) : Ev (tOp rIsN ta (tC .non)) σ H (.bl (decide (x = .non))) := fun H1 e Q q => ha H1 e _ fun H2 e2 => ⟨rfl, q H2 e2⟩
theorem ev_notN {σ : L2.St} {H : Hp} {ta : TE} {x : V} (ha : Ev ta σ H x) : Ev (tOp rNotN ta (tC .non)) σ H (.bl (!decide (x = .non))) := fun H1 e Q q => ha H1 e _ fun H2 e2 => ⟨rfl, q H2 e2⟩
theorem ev_min2 {σ : L2.St} {H : Hp} {ta tb : TE} {i j : Int} (ha : Ev ta σ H (.int i)) (hb : Ev tb σ H (.int j)) :
    Ev (tCB (fun xs H Q => ∃ i j, xs = [.int i, .int j] ∧ Q (.int (if j < i then j else i)) H) (tCons ta (tCons tb tNil))) σ H (.int (if j < i then j else i)) :=
  ev_cb (ea_cons ha (ea_cons hb ea_nil)) fun H1 _ _ q => ⟨i, j, rfl, q H1 (Ex.refl H1)⟩
theorem ev_negI {σ : L2.St} {H : Hp} {ta : TE} {i : Int} (ha : Ev ta σ H (.int i)) : Ev (tUn (rU fun i => .int (-i)) ta) σ H (.int (-i)) := ev_un ha ru_neg
theorem ev_I0 {σ : L2.St} {H : Hp} {ta tb : TE} {g : Int → Int → V} {i j : Int} (ha : Ev ta σ H (.int i)) (hb : Ev tb σ H (.int j)) : Ev (tOp (rI0 g) ta tb) σ H (g i j) := ev_op ha hb rv_I0
theorem ev_I {σ : L2.St} {H : Hp} {ta tb : TE} {C : Int → Int → Prop} {g : Int → Int → V} {i j : Int} (ha : Ev ta σ H (.int i)) (hb : Ev tb σ H (.int j)) (hc : C i j) : Ev (tOp (rI C g) ta tb) σ H (g i j) := ev_op ha hb (rv_I hc)
theorem ev_eq {σ : L2.St} {H : Hp} {ta tb : TE} {x y : V} (ha : Ev ta σ H x) (hb : Ev tb σ H y) (hs : scal x y = true) : Ev (tOp rEq ta tb) σ H (.bl (decide (x = y))) := ev_op ha hb (rv_eq hs)
theorem ev_ne {σ : L2.St} {H : Hp} {ta tb : TE} {x y : V} (ha : Ev ta σ H x) (hb : Ev tb σ H y) (hs : scal x y = true) : Ev (tOp rNe ta tb) σ H (.bl (!decide (x = y))) := ev_op ha hb (rv_ne hs)
theorem et_B' {σ : L2.St} {H : Hp} {te : TE} {x : V} {b : Bool} (h : Ev te σ H x) (e : x = .bl b) : EvT (tB te) σ H b := et_B (e ▸ h)
theorem dec_lt {a b : Nat} : decide ((a : Int) < (b : Int)) = decide (a < b) := by
  by_cases h : a < b
  · rw [decide_eq_true h, decide_eq_true (by omega)]
  · rw [decide_eq_false h, decide_eq_false (by omega)]
theorem int_at {ns : List Int} {i : Nat} {x : V} (hx : (ns.map V.int)[i]? = some x) : ∃ n, ns[i]? = some n ∧ i < ns.length ∧ x = V.int n := by
  rw [List.getElem?_map] at hx
  cases en : ns[i]? with
  | none => rw [en] at hx; cases hx
  | some n => rw [en] at hx; exact ⟨n, rfl, (List.getElem?_eq_some_iff.mp en).1, (Option.some.inj hx).symm⟩
theorem at_int {ns : List Int} {i : Nat} {n : Int} (h : ns[i]? = some n) : (ns.map V.int)[i]? = some (V.int n) := by rw [List.getElem?_map, h]; rfl
local macro_rules | `(tactic| walk_at "side") => `(tactic| first
  | omega | (show CMul _ _; unfold CMul; omega) | (show CDiv _ _; unfold CDiv; omega) | (show CPow _ _; unfold CPow; omega) | (show (_ : Int) < _; omega) | (show (_ : Int) ≤ _; omega) | decide)
local macro_rules | `(tactic| walk_at "ev") => `(tactic| first
  | exact ev_var rfl
  | exact ev_c
  | (refine' ev_I0 ?h1 ?h2; (case h1 => walk_at "ev"); (case h2 => walk_at "ev"))
  | (refine' ev_negI ?h1; (case h1 => walk_at "ev"))
  | (refine' ev_I ?h1 ?h2 ?hc; (case h1 => walk_at "ev"); (case h2 => walk_at "ev"); (case hc => walk_at "side"))
  | (refine' ev_eq ?h1 ?h2 ?hc; (case h1 => walk_at "ev"); (case h2 => walk_at "ev"); (case hc => rfl))
  | (refine' ev_ne ?h1 ?h2 ?hc; (case h1 => walk_at "ev"); (case h2 => walk_at "ev"); (case hc => rfl))
  | (refine' ev_max2 ?h1 ?h2; (case h1 => walk_at "ev"); (case h2 => walk_at "ev"))
  | (refine' ev_min2 ?h1 ?h2; (case h1 => walk_at "ev"); (case h2 => walk_at "ev"))
  | (refine' ev_chain ?h1 ?h2 ?h3; (case h1 => walk_at "ev"); (case h2 => walk_at "ev"); (case h3 => walk_at "ev"))
  | (refine' ev_isN ?h1; (case h1 => walk_at "ev"))
  | (refine' ev_notN ?h1; (case h1 => walk_at "ev"))
  | (refine' ev_isiI ?h1; (case h1 => walk_at "ev"))
  | (refine' ev_isiB ?h1; (case h1 => walk_at "ev"))
  | (refine' ev_isiBB ?h1; (case h1 => walk_at "ev"))
  | (refine' ev_andV ?h1 (fun _ => ?h2); (case h1 => walk_at "ev"); (case h2 => walk_at "ev"))
  | (refine' ev_orV ?h1 (fun _ => ?h2); (case h1 => walk_at "ev"); (case h2 => walk_at "ev"))
  | (refine' ev_notV ?h1; (case h1 => walk_at "ev"))
  | walk_at "evmore")
local macro_rules | `(tactic| walk_at "et") => `(tactic| first
  | (refine' et_test ?h1; (case h1 => walk_at "ev"))
  | (refine' et_B ?h1; (case h1 => walk_at "ev"))
  | (refine' et_not ?h1; (case h1 => walk_at "et"))
  | (refine' et_and ?h1 (fun _ => ?h2); (case h1 => walk_at "et"); (case h2 => walk_at "et"))
  | (refine' et_or ?h1 (fun _ => ?h2); (case h1 => walk_at "et"); (case h2 => walk_at "et")))
local macro_rules | `(tactic| walk_at "ea") => `(tactic| first
  | exact ea_nil
  | (refine' ea_cons ?h1 ?h2; (case h1 => walk_at "ev"); (case h2 => walk_at "ea")))
local macro_rules | `(tactic| walk_at "when") => `(tactic| (refine' q_when ?h ?h1 ?h2; (case h => walk_at "et")))
local macro_rules | `(tactic| walk_at "whenS") => `(tactic| (refine' s_when ?h ?h1 ?h2; (case h => walk_at "et")))
local macro_rules | `(tactic| walk_at "if") => `(tactic| (refine' q_if ?h ?h1 ?h2; (case h => walk_at "et")))
local macro_rules | `(tactic| walk_at "ifS") => `(tactic| (refine' s_if ?h ?h1 ?h2; (case h => walk_at "et")))
local macro_rules | `(tactic| walk_at "ret") => `(tactic| (refine' s_ret ?h ?h1; (case h => walk_at "ev")))
local macro_rules | `(tactic| walk_at "asg") => `(tactic| (refine' q_asg ?h ?h1; (case h => walk_at "ev")))
local macro_rules | `(tactic| walk_at "asgS") => `(tactic| (refine' s_asg ?h ?h1; (case h => walk_at "ev")))

/-! ### lists, existing or new -/
def EvR (te : TE) (σ : L2.St) (H : Hp) (xs : List V) : Prop := ∀ H1, Ex H H1 → ∀ Q : VK, (∀ p H2, Ex H1 H2 → H2 p = some (.lst xs) → Q (.ref p) H2) → te σ H1 Q
def EvS (K : PySem.W.Frag) (te : TE) (σ : L2.St) (H : Hp) (xs : List V) : Prop := ∀ H1, Ex H H1 → ∀ Q : VK, (∀ p H2, Ex H1 H2 → SqL K H2 p xs → Q (.ref p) H2) → te σ H1 Q
section
variable {K : PySem.W.Frag} {σ : L2.St} {H H' : Hp} {ta tb te : TE} {xs ys : List V} {a : Addr}
theorem EvL.r (h : EvL te σ H xs) : EvR te σ H xs := fun H1 e Q q => h H1 e Q fun p H2 _ e2 h2 => q p H2 e2 h2
theorem Ev.r (h : Ev te σ H (.ref a)) (hx : H a = some (.lst xs)) : EvR te σ H xs := fun H1 e Q q => h H1 e Q fun H2 e2 => q a H2 e2 (e2 _ _ (e _ _ hx))
theorem EvR.s (h : EvR te σ H xs) : EvS K te σ H xs := fun H1 e Q q => h H1 e Q fun p H2 e2 h2 => q p H2 e2 (sq_of h2)
theorem Ev.s (h : Ev te σ H (.ref a)) (hx : SqL K H a xs) : EvS K te σ H xs := fun H1 e Q q => h H1 e Q fun H2 e2 => q a H2 e2 (ex_l e2 (ex_l e hx))
theorem EvR.mono (e : Ex H H') (h : EvR te σ H xs) : EvR te σ H' xs := fun H1 a Q q => h H1 (e.trans a) Q q
theorem EvS.mono (e : Ex H H') (h : EvS K te σ H xs) : EvS K te σ H' xs := fun H1 a Q q => h H1 (e.trans a) Q q
theorem EvL.is (h : EvL te σ H xs) (e : xs = ys) : EvL te σ H ys := e ▸ h
theorem EvR.is (h : EvR te σ H xs) (e : xs = ys) : EvR te σ H ys := e ▸ h
theorem el_cat (ha : EvR ta σ H xs) (hb : EvR tb σ H ys) (hl : xs.length + ys.length ≤ 100000) : EvL (tOp rCat ta tb) σ H (xs ++ ys) := fun H1 e Q q =>
  ha H1 e _ fun p H2 e2 h2 => hb H2 (e.trans e2) _ fun r H3 e3 h3 => ⟨p, r, xs, ys, rfl, rfl, e3 _ _ h2, h3, sz_of hl, fun l hl => q l _ (fresh_back (e2.trans e3) hl) ((e2.trans e3).trans (Ex.new hl)) upd_same⟩
theorem el_rep {k : Int} (ha : EvR ta σ H xs) (hb : Ev tb σ H (.int k)) (hk : -(2 ^ 63) ≤ k ∧ k < 2 ^ 63) (hl : xs.length * k.toNat ≤ 100000) : EvL (tOp rRep ta tb) σ H (List.replicate k.toNat xs).flatten := fun H1 e Q q =>
  ha H1 e _ fun p H2 e2 h2 => hb H2 (e.trans e2) _ fun H3 e3 => ⟨p, k, xs, rfl, rfl, e3 _ _ h2, hk.1, hk.2, sz_of hl, fun l hl => q l _ (fresh_back (e2.trans e3) hl) ((e2.trans e3).trans (Ex.new hl)) upd_same⟩
theorem rep_one {x : V} (n : Nat) : (List.replicate n [x]).flatten = List.replicate n x := by
  induction n with
  | zero => rfl
  | succ n ih => rw [List.replicate_succ, List.replicate_succ, List.flatten_cons, ih]; rfl
theorem el_of {te : TE} (h : EvS K te σ H xs) : EvL (tCB (rListS K) (tCons te tNil)) σ H xs := fun H1 e Q q =>
  h H1 e _ fun p H2 e2 h2 => ⟨p, xs, rfl, .inl h2, fun l hl => q l _ (fresh_back e2 hl) (e2.trans (Ex.new hl)) upd_same⟩
theorem ev_lenS (h : EvS K te σ H xs) : Ev (tCB (rLenS K) (tCons te tNil)) σ H (.int (xs.length : Int)) := fun H1 e Q q =>
  h H1 e _ fun p H2 e2 h2 => ⟨p, xs, rfl, .inl h2, q H2 e2⟩
theorem ev_sum {ns : List Int} (h : EvS K te σ H (ns.map V.int)) : Ev (tCB (rSum K) (tCons te tNil)) σ H (.int ns.sum) := fun H1 e Q q =>
  h H1 e _ fun p H2 e2 h2 => ⟨p, ns, rfl, h2, q H2 e2⟩
theorem dp_ints {K : PySem.W.Frag} {H : Hp} : ∀ ns : List Int, DpAll K H (ns.map V.int) (ns.map PyData.int)
  | [] => .nil
  | n :: r => .cons (.int n) (dp_ints r)
theorem eqv_ints : ∀ ns ms : List Int, PyData.eqvAll (ns.map PyData.int) (ms.map PyData.int) = decide (ns = ms)
  | [], [] => by simp [PyData.eqvAll]
  | [], _ :: _ => by simp [PyData.eqvAll]
  | _ :: _, [] => by simp [PyData.eqvAll]
  | n :: r, m :: t => by
    show (PyData.eqv (.int n) (.int m) && PyData.eqvAll (r.map PyData.int) (t.map PyData.int)) = _
    rw [eqv_ints r t]
    show ((n == m) && decide (r = t)) = _
    by_cases h1 : n = m <;> by_cases h2 : r = t <;> simp [h1, h2]
theorem canLay_ints : ∀ ns : List Int, PyData.canLayAll0 (ns.map PyData.int) = true
  | [] => by simp [PyData.canLayAll0]
  | n :: r => by
    show PyData.canLayAll0 (PyData.int n :: r.map PyData.int) = true
    rw [PyData.canLayAll0, canLay_ints r]
    simp [PyData.canLay0]
theorem depth_ints : ∀ ns : List Int, PyData.depthAll (ns.map PyData.int) ≤ 1
  | [] => by simp [PyData.depthAll]
  | n :: r => by
    show PyData.depthAll (PyData.int n :: r.map PyData.int) ≤ 1
    have := depth_ints r
    simp only [PyData.depthAll, PyData.depth]
    omega
theorem shaped_ints (ns : List Int) : SeqAt.shaped (.list (ns.map PyData.int)) = true := by
  unfold SeqAt.shaped
  have h1 := canLay_ints ns
  have h2 := depth_ints ns
  have h3 : PyData.depth (.list (ns.map PyData.int)) ≤ 64 := by
    rw [PyData.depth]
    omega
  rw [decide_eq_true h3, Bool.and_true]
  simpa only [PyData.canLay0] using h1
theorem ev_eqI {ns ms : List Int} (ha : EvS K ta σ H (ns.map V.int)) (hb : EvS K tb σ H (ms.map V.int)) : Ev (tOp (rEqD K) ta tb) σ H (.bl (decide (ns = ms))) := fun H1 e Q q =>
  ha H1 e _ fun p H2 e2 h2 => hb H2 (e.trans e2) _ fun r H3 e3 h3 => ⟨.list (ns.map PyData.int), .list (ms.map PyData.int), .lst (ex_l e3 h2) (dp_ints ns), .lst h3 (dp_ints ms), shaped_ints ns, shaped_ints ms, by
    show Q (.bl (PyData.eqvAll (ns.map PyData.int) (ms.map PyData.int))) H3
    rw [eqv_ints]
    exact q H3 (e2.trans e3)⟩
theorem ev_neI {ns ms : List Int} (ha : EvS K ta σ H (ns.map V.int)) (hb : EvS K tb σ H (ms.map V.int)) : Ev (tOp (rNeD K) ta tb) σ H (.bl (!decide (ns = ms))) := fun H1 e Q q =>
  ha H1 e _ fun p H2 e2 h2 => hb H2 (e.trans e2) _ fun r H3 e3 h3 => ⟨.list (ns.map PyData.int), .list (ms.map PyData.int), .lst (ex_l e3 h2) (dp_ints ns), .lst h3 (dp_ints ms), shaped_ints ns, shaped_ints ms, by
    show Q (.bl (!PyData.eqvAll (ns.map PyData.int) (ms.map PyData.int))) H3
    rw [eqv_ints]
    exact q H3 (e2.trans e3)⟩
theorem ev_ixS {i : Nat} {n : Int} {tl ti : TE} {v : V} (h : EvS K tl σ H xs) (hi : Ev ti σ H (.int n)) (ha : atI xs n = some v) : Ev (tOp (rIxL K) tl ti) σ H v := fun H1 e Q q =>
  h H1 e _ fun p H2 e2 h2 => hi H2 (e.trans e2) _ fun H3 e3 => ⟨p, xs, n, v, rfl, rfl, ex_l e3 h2, ha, q H3 (e2.trans e3)⟩
theorem el_slS {tl th : TO} {lo hi : Option Int} (h : EvS K te σ H xs) (h1 : EvO tl σ H lo) (h2 : EvO th σ H hi) : EvL (tSl (rSlL K) te tl th) σ H (cutV xs lo hi) := fun H1 e _ q =>
  h H1 e _ fun a H2 e2 hs => h1 H2 (e.trans e2) _ fun H3 e3 => h2 H3 ((e.trans e2).trans e3) _ fun H4 e4 =>
    ⟨a, xs, rfl, ex_l (e3.trans e4) hs, fun p hp => q p _ (fresh_back ((e2.trans e3).trans e4) hp) (((e2.trans e3).trans e4).trans (Ex.new hp)) upd_same⟩
theorem ev_at {n : Int} {tl ti : TE} {v : V} (h : EvS K tl σ H xs) (hi : Ev ti σ H (.int n)) (ha : atI xs n = some v) : Ev (tOp (rIxL K) tl ti) σ H v := ev_ixS (i := 0) h hi ha
theorem cut_to (xs : List V) (i : Nat) : cutV xs none (some (i : Int)) = xs.take i := by
  unfold cutV
  rw [HT.sIx_none, HT.sIx_nat, List.drop_zero, Nat.sub_zero]
  by_cases h : i ≤ xs.length
  · rw [Nat.min_eq_left h]
  · rw [Nat.min_eq_right (by omega), List.take_of_length_le (Nat.le_refl _), List.take_of_length_le (by omega)]
theorem cut_from (xs : List V) (i : Nat) : cutV xs (some (i : Int)) none = xs.drop i := by
  unfold cutV
  rw [HT.sIx_none, HT.sIx_nat]
  by_cases h : i ≤ xs.length
  · rw [Nat.min_eq_left h, List.take_of_length_le (by rw [List.length_drop]; omega)]
  · rw [Nat.min_eq_right (by omega), List.drop_of_length_le (Nat.le_refl _), List.drop_of_length_le (show xs.length ≤ i by omega), List.take_nil]
theorem cut_mid (xs : List V) (i j : Nat) : cutV xs (some (i : Int)) (some (j : Int)) = (xs.drop i).take (j - i) := by
  unfold cutV
  rw [HT.sIx_nat, HT.sIx_nat]
  by_cases h : i ≤ xs.length
  · rw [Nat.min_eq_left h]
    by_cases h2 : j ≤ xs.length
    · rw [Nat.min_eq_left h2]
    · rw [Nat.min_eq_right (by omega), List.take_of_length_le (by rw [List.length_drop]; omega), List.take_of_length_le (by rw [List.length_drop]; omega)]
  · rw [Nat.min_eq_right (by omega : xs.length ≤ i), List.drop_of_length_le (Nat.le_refl _), List.drop_of_length_le (show xs.length ≤ i by omega)]
    simp
theorem el_to {th : TE} {ns : List Int} {i : Nat} (h : EvS K te σ H (ns.map V.int)) (h2 : Ev th σ H (.int i)) : EvL (tSl (rSlL K) te tNoPart (tPart th)) σ H ((ns.take i).map V.int) :=
  EvL.is (el_slS h eo_none (eo_some h2)) (by rw [List.map_take]; exact cut_to _ i)
theorem el_from {th : TE} {ns : List Int} {i : Nat} (h : EvS K te σ H (ns.map V.int)) (h2 : Ev th σ H (.int i)) : EvL (tSl (rSlL K) te (tPart th) tNoPart) σ H ((ns.drop i).map V.int) :=
  EvL.is (el_slS h (eo_some h2) eo_none) (by rw [List.map_drop]; exact cut_from _ i)
theorem el_mid {t1 t2 : TE} {ns : List Int} {i j : Nat} (h : EvS K te σ H (ns.map V.int)) (h1 : Ev t1 σ H (.int i)) (h2 : Ev t2 σ H (.int j)) : EvL (tSl (rSlL K) te (tPart t1) (tPart t2)) σ H (((ns.drop i).take (j - i)).map V.int) :=
  EvL.is (el_slS h (eo_some h1) (eo_some h2)) (by rw [List.map_take, List.map_drop]; exact cut_mid _ i j)
section
variable {D : Ends} {tz : TS} {sp : Sp} {dvs vs : List V} {E : XK} {tA : TA}
/-- x = f(..), whatever f promises -/
theorem q_asgC {i : Nat} (h : EvA tA σ H vs) (k : ∀ H1, Ex H H1 → sp (vs ++ dvs) H1 (fun x H2 => tz D (σ.set i (some x)) H2) E) : tSeq (tAsg (tCall sp dvs E tA) (gName i)) tz D σ H := h H (Ex.refl H) _ fun H1 e => k H1 e
theorem s_asgC {i : Nat} (h : EvA tA σ H vs) (k : ∀ H1, Ex H H1 → sp (vs ++ dvs) H1 (fun x H2 => D.nx (σ.set i (some x)) H2) E) : tAsg (tCall sp dvs E tA) (gName i) D σ H := h H (Ex.refl H) _ fun H1 e => k H1 e
theorem q_dropC (h : EvA tA σ H vs) (k : ∀ H1, Ex H H1 → sp (vs ++ dvs) H1 (fun _ H2 => tz D σ H2) E) : tSeq (tDrop (tCall sp dvs E tA)) tz D σ H := h H (Ex.refl H) _ fun H1 e => k H1 e
theorem s_retC (h : EvA tA σ H vs) (k : ∀ H1, Ex H H1 → sp (vs ++ dvs) H1 D.rt E) : tRet (tCall sp dvs E tA) D σ H := h H (Ex.refl H) _ fun H1 e => k H1 e
end
theorem gl_get {ns : List Int} {i : Nat} (h : i < ns.length) : ns[i]? = some (ns.getD i 0) := by
  rw [List.getD_eq_getElem?_getD, List.getElem?_eq_getElem h]
  rfl
theorem q_asgRaw {te : TE} {i : Nat} {D : Ends} {tz : TS} (P : V → Hp → Prop) (h : ∀ Q : VK, (∀ x H2, P x H2 → Q x H2) → te σ H Q) (k : ∀ x H2, P x H2 → tz D (σ.set i (some x)) H2) : tSeq (tAsg te (gName i)) tz D σ H := h _ k
/-- a, b = a pair -/
theorem q_asgT {te : TE} {i j : Nat} {D : Ends} {tz : TS} (P : V → V → Hp → Prop) (h : ∀ Q : VK, (∀ t x y H2, P x y H2 → SqT K H2 t [x, y] → Q (.ref t) H2) → te σ H Q) (k : ∀ x y H2, P x y H2 → tz D ((σ.set i (some x)).set j (some y)) H2) :
    tSeq (tAsg te (gTup K 2 (gCons (gName i) (gCons (gName j) gNil)))) tz D σ H := h _ fun t x y H2 hP hT => ⟨t, [x, y], rfl, hT, rfl, x, [y], rfl, y, [], rfl, rfl, k x y H2 hP⟩
/-- the law's cell -/
def cellI (ns : List Int) (k : Int) : Int := ns.getD k.toNat 0
theorem cellI_in {ns : List Int} {k : Int} (h0 : 0 ≤ k) (h : k < ns.length) : ns[k.toNat]? = some (cellI ns k) := by
  unfold cellI
  rw [List.getD_eq_getElem?_getD, List.getElem?_eq_getElem (by omega)]
  rfl
theorem cellI_out {ns : List Int} {k : Int} (h : ¬ k < ns.length) : cellI ns k = 0 := by
  unfold cellI
  rw [List.getD_eq_getElem?_getD, List.getElem?_eq_none (by omega)]
  rfl
end
theorem Ex.get {H H' : Hp} {a : Addr} {o : HO} (e : Ex H H') (h : H a = some o) : H' a = some o := e a o h
local macro_rules | `(tactic| walk_at "hp") => `(tactic| first
  | assumption
  | exact upd_same
  | (refine' Ex.get (by assumption) ?h1; (case h1 => walk_at "hp")))
local macro_rules | `(tactic| walk_at "ex") => `(tactic| first
  | assumption
  | exact Ex.refl _
  | (refine' Ex.trans ?h1 (by assumption); (case h1 => walk_at "ex")))
local macro_rules | `(tactic| walk_at "sq") => `(tactic| first
  | assumption
  | (refine' sq_of ?h1; (case h1 => walk_at "hp"))
  | (refine' ex_l (by assumption) ?h1; (case h1 => walk_at "sq")))
local macro_rules | `(tactic| walk_at "evs") => `(tactic| first
  | (refine' Ev.s ?h1 ?h2; (case h1 => exact ev_var rfl); (case h2 => walk_at "sq"))
  | (refine' EvR.s ?h1; (case h1 => walk_at "evr")))
local macro_rules | `(tactic| walk_at "evr") => `(tactic| first
  | (refine' Ev.r ?h1 ?h2; (case h1 => exact ev_var rfl); (case h2 => walk_at "hp"))
  | (refine' EvL.r ?h1; (case h1 => walk_at "el")))
local macro_rules | `(tactic| walk_at "eo") => `(tactic| first
  | exact eo_none
  | (refine' eo_some ?h1; (case h1 => walk_at "ev")))
local macro_rules | `(tactic| walk_at "el") => `(tactic| first
  | (refine' el_lst ?h1 ?h2; (case h1 => walk_at "ea"); (case h2 => exact Nat.le_of_ble_eq_true rfl))
  | (refine' el_cat ?h1 ?h2 ?h3; (case h1 => walk_at "evr"); (case h2 => walk_at "evr"); (case h3 => walk_at "len"))
  | (refine' el_rep ?h1 ?h2 ?h3 ?h4; (case h1 => walk_at "evr"); (case h2 => walk_at "ev"); (case h3 => walk_at "side2"); (case h4 => walk_at "len"))
  | (refine' el_of ?h1; (case h1 => walk_at "evs"))
  | (refine' el_to ?h1 ?h2; (case h1 => walk_at "evs"); (case h2 => walk_at "ev"))
  | (refine' el_from ?h1 ?h2; (case h1 => walk_at "evs"); (case h2 => walk_at "ev"))
  | (refine' el_mid ?h1 ?h2 ?h3; (case h1 => walk_at "evs"); (case h2 => walk_at "ev"); (case h3 => walk_at "ev"))
  | (refine' el_slS ?h1 ?h2 ?h3; (case h1 => walk_at "evs"); (case h2 => walk_at "eo"); (case h3 => walk_at "eo"))
  | walk_at "elmore")
local macro_rules | `(tactic| walk_at "evmore") => `(tactic| first
  | (refine' ev_lenS ?h1; (case h1 => walk_at "evs"))
  | (refine' ev_sum ?h1; (case h1 => walk_at "evs"))
  | (refine' ev_eqI ?h1 ?h2; (case h1 => walk_at "evs"); (case h2 => walk_at "evs"))
  | (refine' ev_neI ?h1 ?h2; (case h1 => walk_at "evs"); (case h2 => walk_at "evs"))
  | (refine' ev_at ?h1 ?h2 ?h3; (case h1 => walk_at "evs"); (case h2 => walk_at "ev"); (case h3 => walk_at "at"))
  | (refine' ev_isiL ?h1 ?h2; (case h1 => walk_at "ev"); (case h2 => walk_at "hp"))
  | walk_at "evown")
local macro_rules | `(tactic| walk_at "at") => `(tactic| first
  | exact at_of rfl (at_int (by assumption))
  | exact at_of rfl (by assumption))
local macro_rules | `(tactic| walk_at "asgL") => `(tactic| (refine' q_asgL ?h ?h1; (case h => walk_at "el")))
local macro_rules | `(tactic| walk_at "retL") => `(tactic| (refine' s_retL ?h ?h1; (case h => walk_at "el")))

/-! ### comprehensions whose items are said in a list -/
theorem et_yes {σ : L2.St} {H : Hp} : EvT tYes σ H true := fun H1 _ _ q => q H1 (Ex.refl H1)
section
variable {K : PySem.W.Frag} {σ : L2.St} {H : Hp} {t1 t2 te : TE} {xs ys zs : List V} {vs : List Nat}
theorem take_snoc {zs : List V} {i : Nat} {z : V} (h : zs[i]? = some z) : zs.take (i + 1) = zs.take i ++ [z] := by
  rw [List.take_add_one, h]
  rfl
theorem el_lcZ {j1 j2 : Nat} (zs : List V) (h1 : EvS K t1 σ H xs) (h2 : EvS K t2 σ H ys) (hz : zs.length = min xs.length ys.length) (hb : zs.length ≤ 50000)
    (hw : ∀ x y, wipe (((wipe σ vs).set j1 (some x)).set j2 (some y)) vs = wipe σ vs)
    (he : ∀ (i : Nat) (x y : V) H1, Ex H H1 → xs[i]? = some x → ys[i]? = some y → ∃ z, zs[i]? = some z ∧ Ev te (((wipe σ vs).set j1 (some x)).set j2 (some y)) H1 z) :
    EvL (tLc (iZip K (tCons t1 (tCons t2 tNil))) (gTup K 2 (gCons (gName j1) (gCons (gName j2) gNil))) tYes te vs) σ H zs := fun H0 e Q q =>
  h1 H0 e _ fun p H1 e1 hp => h2 H1 (e.trans e1) _ fun r H2 e2 hr => ⟨p, r, xs, ys, rfl, ex_l e2 hp, hr, fun D hD =>
    ⟨fun i m H' => m = zs.length - i ∧ i ≤ zs.length ∧ Ex H2 H' ∧ H' D = some (.lst (zs.take i)), ⟨zs.length, rfl, Nat.zero_le _, Ex.new hD, upd_same⟩, by
      rintro i m H' ⟨rfl, hi, ex, hd⟩
      have qx : SqL K H' p xs := ex_l (e2.trans ex) hp
      have qy : SqL K H' r ys := ex_l ex hr
      by_cases hlt : i < zs.length
      · have hx : xs[i]? = some xs[i] := List.getElem?_eq_getElem (by omega)
        have hy : ys[i]? = some ys[i] := List.getElem?_eq_getElem (by omega)
        refine .inr ⟨⟨xs, ys, _, _, qx, qy, hx, hy⟩, fun H3 => i + 1 ≤ zs.length ∧ Ex H2 H3 ∧ H3 D = some (.lst (zs.take (i + 1))), fun H3 h3 => ⟨zs.length - (i + 1), by omega, rfl, h3⟩, fun v H3 hv => ?_⟩
        obtain ⟨T, x, y, rfl, hT, rfl, f1, f2⟩ := hv
        have ex3 : Ex H' (upd H' T (.tup [x, y])) := Ex.new hT
        obtain ⟨z, hz1, hz2⟩ := he i x y (upd H' T (.tup [x, y])) ((((e.trans e1).trans e2).trans ex).trans ex3) (f1 _ qx) (f2 _ qy)
        refine ⟨T, [x, y], rfl, st_of upd_same, rfl, x, [y], rfl, y, [], rfl, rfl, hw x y, ?_⟩
        refine hz2 _ (Ex.refl _) _ fun H4 e4 => ⟨zs.take i, e4 _ _ (ex3 _ _ hd), sz_lt (by rw [List.length_take]; omega), hlt, ?_, ?_⟩
        · exact Ex.mut ((ex.trans ex3).trans e4) hD
        · rw [upd_same, take_snoc hz1]
      · have ei : i = zs.length := by omega
        refine .inl ⟨⟨xs, ys, qx, qy, by omega⟩, ?_⟩
        rw [ei, List.take_length] at hd
        exact q D H' (fresh_back (e1.trans e2) hD) ((e1.trans e2).trans ex) hd⟩⟩
/-- over a list, each item kept -/
theorem el_lcS {j : Nat} (zs : List V) (h1 : EvS K t1 σ H xs) (hz : zs.length = xs.length) (hb : zs.length ≤ 50000) (hw : ∀ x, wipe ((wipe σ vs).set j (some x)) vs = wipe σ vs)
    (he : ∀ (i : Nat) (x : V) H1, Ex H H1 → xs[i]? = some x → ∃ z, zs[i]? = some z ∧ Ev te ((wipe σ vs).set j (some x)) H1 z) :
    EvL (tLc (iList K t1) (gName j) tYes te vs) σ H zs := fun H0 e Q q =>
  h1 H0 e _ fun p H1 e1 hp => ⟨p, rfl, ⟨xs, hp⟩, fun D hD => lc_list (xs := xs) (fun i H' => Ex H1 H' ∧ H' D = some (.lst (zs.take i))) ⟨Ex.new hD, upd_same⟩ (fun i H' _ h => ex_l h.1 hp)
    (fun i x H' hi h => ⟨hw x, by
      obtain ⟨z, hz1, hz2⟩ := he i x H' ((e.trans e1).trans h.1) hi
      have hl : i < xs.length := (List.getElem?_eq_some_iff.mp hi).1
      refine hz2 H' (Ex.refl _) _ fun H4 e4 => ⟨zs.take i, e4 _ _ h.2, sz_lt (by rw [List.length_take]; omega), Ex.mut (h.1.trans e4) hD, ?_⟩
      rw [upd_same, take_snoc hz1]⟩)
    (fun H' h => q D H' (fresh_back e1 hD) (e1.trans h.1) (by rw [h.2, ← hz, List.take_length]))⟩
/-- over range(n) -/
theorem el_lcR {ta : TA} {n : Int} {j : Nat} (zs : List V) (h1 : EvA ta σ H [.int n]) (hn : -100000 ≤ n) (hz : zs.length = n.toNat) (hb : zs.length ≤ 50000) (hw : ∀ x, wipe ((wipe σ vs).set j (some x)) vs = wipe σ vs)
    (he : ∀ (i : Nat) H1, Ex H H1 → i < zs.length → ∃ z, zs[i]? = some z ∧ Ev te ((wipe σ vs).set j (some (.int (i : Int)))) H1 z) :
    EvL (tLc (iRng1 ta) (gName j) tYes te vs) σ H zs := fun H0 e Q q =>
  h1 H0 e _ fun H1 e1 => ⟨n, rfl, by omega, by omega, fun D hD => lc_range (lo := 0) (n := n.toNat) (fun i H' => Ex H1 H' ∧ H' D = some (.lst (zs.take i))) ⟨Ex.new hD, upd_same⟩
    (fun i H' hi h => by
      have e0 : (0 : Int) + (i : Int) = (i : Int) := Int.zero_add _
      rw [e0]
      obtain ⟨z, hz1, hz2⟩ := he i H' ((e.trans e1).trans h.1) (by omega)
      refine ⟨hw _, hz2 H' (Ex.refl _) _ fun H4 e4 => ⟨zs.take i, e4 _ _ h.2, sz_lt (by rw [List.length_take]; omega), Ex.mut (h.1.trans e4) hD, ?_⟩⟩
      rw [upd_same, take_snoc hz1])
    (fun H' h => q D H' (fresh_back e1 hD) (e1.trans h.1) (by rw [h.2, show n.toNat = zs.length by omega, List.take_length]))⟩
/-- y = [.. for x in f(..)], whatever f promises -/
theorem s_asgLC {sp : Sp} {dvs args : List V} {E : XK} {ta : TA} {g : TG} {tt : TT} {D : Ends} {i : Nat} (h : EvA ta σ H args) (k : ∀ H1, Ex H H1 → sp (args ++ dvs) H1 (fun x H2 => tAsg (tLc (iList K (tC x)) g tt te vs) (gName i) D σ H2) E) :
    tAsg (tLc (iList K (tCall sp dvs E ta)) g tt te vs) (gName i) D σ H := h H (Ex.refl H) _ fun H1 e => k H1 e
theorem q_asgLC {sp : Sp} {dvs args : List V} {E : XK} {ta : TA} {g : TG} {tt : TT} {D : Ends} {i : Nat} {tz : TS} (h : EvA ta σ H args) (k : ∀ H1, Ex H H1 → sp (args ++ dvs) H1 (fun x H2 => tSeq (tAsg (tLc (iList K (tC x)) g tt te vs) (gName i)) tz D σ H2) E) :
    tSeq (tAsg (tLc (iList K (tCall sp dvs E ta)) g tt te vs) (gName i)) tz D σ H := h H (Ex.refl H) _ fun H1 e => k H1 e
end

/-! ### calls with keywords, defaults -/
theorem kwAll1 {K : PySem.W.Frag} {D : Addr} {q : Str × V} (h : ∃ u, PySem.W.nsIn K D q.1 = some (some u) ∧ RelV q.2 u) : ∀ p ∈ [q], ∃ u, PySem.W.nsIn K D p.1 = some (some u) ∧ RelV p.2 u := fun p hp => by
  rcases List.mem_cons.mp hp with rfl | hp
  · exact h
  · cases hp
section
variable {K : PySem.W.Frag} {x qual : Str} {params : Arguments} {body : List Stmt} {scope : Scope} {dvs : List V} {kws : List (Str × V)} {f : Addr} {fd : FuncData} {ps : List Str}
/-- f(a, .., k = v, ..), nothing left to a default, no defaults of place -/
theorem fund_kb0 {g : List Value → List Value → List Value} {gV : List V → List V → List V} (F : FunD K x qual params body scope [] kws f fd) (n : Nat) (ks : List Str)
    (hrel : ∀ {vs : List V} {us : List Value} {zs : List V} {ws : List Value}, Vals vs us → Vals zs ws → Vals (gV vs zs) (g us ws))
    (h : ∀ (kV doc pm : Value) (an : Option Addr) (cdv ct : Value) (us ws : List Value), us.length = n → ws.length = ks.length → bindArgs (PySem.W.fnOf x qual params body scope .none kV doc pm an cdv ct) ⟨us, ks.zip ws⟩ = pure (ps.zip (g us ws))) :
    KBn K fd ps n ks g gV := by
  obtain ⟨oc, od, dV, kV, doc, pm, an, cdv, ct, osl, rfl, lk, hcd, hD, hK⟩ := F.ex
  rcases hD with ⟨_, rfl⟩ | ⟨e, _⟩
  · exact ⟨fun s us ws X l1 l2 => .of_eq (h kV doc pm an cdv ct us ws l1 l2), hrel⟩
  · exact absurd rfl e
/-- the same of a def with defaults of place -/
theorem fund_kb1 {g : List Value → List Value → List Value} {gV : List V → List V → List V} (F : FunD K x qual params body scope dvs kws f fd) (hd : dvs ≠ []) (n : Nat) (ks : List Str)
    (hrel : ∀ {vs : List V} {us : List Value} {zs : List V} {ws : List Value}, Vals vs us → Vals zs ws → Vals (gV vs zs) (g us ws))
    (h : ∀ (T : Addr) (kV doc pm : Value) (an : Option Addr) (cdv ct : Value) (us its ws : List Value), us.length = n → its.length = dvs.length → ws.length = ks.length →
      ∃ k, bindArgs (PySem.W.fnOf x qual params body scope (.ref T) kV doc pm an cdv ct) ⟨us, ks.zip ws⟩ = seqItems? (.ref T) >>= k ∧ k (some its.toArray) = pure (ps.zip (g us ws))) :
    KBn K fd ps n ks g gV := by
  obtain ⟨oc, od, dV, kV, doc, pm, an, cdv, ct, osl, rfl, lk, hcd, hD, hK⟩ := F.ex
  rcases hD with ⟨e, _⟩ | ⟨_, T, o, its, m, rfl, lT, oT, rT⟩
  · exact absurd e hd
  · refine ⟨fun s us ws X l1 l2 => ?_, hrel⟩
    obtain ⟨k, e1, e2⟩ := h T kV doc pm an cdv ct us its ws l1 rT.length.symm l2
    refine BindsTo.of_looks fun M => ?_
    rw [e1]
    exact looks_items X lT oT (.of_pure e2)
end

/-- what the top has left -/
structure TX (K : PySem.W.Frag) (mg : Str → Option Value) where
  a_md5 : Addr
  d_md5 : FuncData
  F_md5 : Fun K "md5" "md5" s_md5 a_md5 d_md5
  b_md5 : Binds K d_md5 ["data"] []
  g_md5 : mg "md5" = some (.ref a_md5)
  a_Md5_init : Addr
  d_Md5_init : FuncData
  F_Md5_init : Fun K "__init__" "Md5.__init__" s_Md5_init a_Md5_init d_Md5_init
  b_Md5_init : Binds K d_Md5_init ["self"] []
  a_Md5_feed : Addr
  d_Md5_feed : FuncData
  F_Md5_feed : Fun K "feed" "Md5.feed" s_Md5_feed a_Md5_feed d_Md5_feed
  b_Md5_feed : Binds K d_Md5_feed ["self", "data"] []
  a_Md5_digest : Addr
  d_Md5_digest : FuncData
  F_Md5_digest : Fun K "digest" "Md5.digest" s_Md5_digest a_Md5_digest d_Md5_digest
  b_Md5_digest : Binds K d_Md5_digest ["self"] []
  a_low_bytes : Addr
  d_low_bytes : FuncData
  F_low_bytes : Fun K "_low_bytes" "_low_bytes" s_low_bytes a_low_bytes d_low_bytes
  b_low_bytes : Binds K d_low_bytes ["number", "count"] []
  g_low_bytes : mg "_low_bytes" = some (.ref a_low_bytes)
  a_padding : Addr
  d_padding : FuncData
  F_padding : Fun K "_padding" "_padding" s_padding a_padding d_padding
  b_padding : Binds K d_padding ["length"] []
  g_padding : mg "_padding" = some (.ref a_padding)
  a_after_blocks : Addr
  d_after_blocks : FuncData
  F_after_blocks : Fun K "_after_blocks" "_after_blocks" s_after_blocks a_after_blocks d_after_blocks
  b_after_blocks : Binds K d_after_blocks ["state", "data", "stop"] []
  g_after_blocks : mg "_after_blocks" = some (.ref a_after_blocks)
  a_words : Addr
  d_words : FuncData
  F_words : Fun K "_words" "_words" s_words a_words d_words
  b_words : Binds K d_words ["block"] []
  g_words : mg "_words" = some (.ref a_words)
  a_after_block : Addr
  d_after_block : FuncData
  F_after_block : Fun K "_after_block" "_after_block" s_after_block a_after_block d_after_block
  b_after_block : Binds K d_after_block ["state", "words"] []
  g_after_block : mg "_after_block" = some (.ref a_after_block)
  a_choice : Addr
  d_choice : FuncData
  F_choice : Fun K "_choice" "_choice" s_choice a_choice d_choice
  b_choice : Binds K d_choice ["step", "b", "c", "d"] []
  g_choice : mg "_choice" = some (.ref a_choice)
  a_law_draw : Addr
  d_law_draw : FuncData
  F_law_draw : Fun K "_law_draw" "_law_draw" s_law_draw a_law_draw d_law_draw
  b_law_draw : Binds K d_law_draw ["cell", "many", "bound"] []
  g_law_draw : mg "_law_draw" = some (.ref a_law_draw)
  a_law_is_integer : Addr
  d_law_is_integer : FuncData
  F_law_is_integer : Fun K "_law_is_integer" "_law_is_integer" s_law_is_integer a_law_is_integer d_law_is_integer
  b_law_is_integer : Binds K d_law_is_integer ["actual"] []
  g_law_is_integer : mg "_law_is_integer" = some (.ref a_law_is_integer)
  a_law_same : Addr
  d_law_same : FuncData
  F_law_same : Fun K "_law_same" "_law_same" s_law_same a_law_same d_law_same
  b_law_same : Binds K d_law_same ["actual", "expected"] []
  g_law_same : mg "_law_same" = some (.ref a_law_same)
  a_law_cell : Addr
  d_law_cell : FuncData
  F_law_cell : Fun K "_law_cell" "_law_cell" s_law_cell a_law_cell d_law_cell
  b_law_cell : Binds K d_law_cell ["script", "k"] []
  g_law_cell : mg "_law_cell" = some (.ref a_law_cell)
  a_law_constants : Addr
  d_law_constants : FuncData
  F_law_constants : Fun K "_law_constants" "_law_constants" s_law_constants a_law_constants d_law_constants
  b_law_constants : Binds K d_law_constants [] []
  g_law_constants : mg "_law_constants" = some (.ref a_law_constants)
  a_law_mixed : Addr
  d_law_mixed : FuncData
  F_law_mixed : Fun K "_law_mixed" "_law_mixed" s_law_mixed a_law_mixed d_law_mixed
  b_law_mixed : Binds K d_law_mixed ["step", "b", "c", "d"] []
  g_law_mixed : mg "_law_mixed" = some (.ref a_law_mixed)
  a_law_index : Addr
  d_law_index : FuncData
  F_law_index : Fun K "_law_index" "_law_index" s_law_index a_law_index d_law_index
  b_law_index : Binds K d_law_index ["step"] []
  g_law_index : mg "_law_index" = some (.ref a_law_index)
  a_law_turn : Addr
  d_law_turn : FuncData
  F_law_turn : Fun K "_law_turn" "_law_turn" s_law_turn a_law_turn d_law_turn
  b_law_turn : Binds K d_law_turn ["step"] []
  g_law_turn : mg "_law_turn" = some (.ref a_law_turn)
  a_law_block : Addr
  d_law_block : FuncData
  F_law_block : Fun K "_law_block" "_law_block" s_law_block a_law_block d_law_block
  b_law_block : Binds K d_law_block ["state", "block"] []
  g_law_block : mg "_law_block" = some (.ref a_law_block)
  a_law_digest : Addr
  d_law_digest : FuncData
  F_law_digest : Fun K "_law_digest" "_law_digest" s_law_digest a_law_digest d_law_digest
  b_law_digest : Binds K d_law_digest ["data"] []
  g_law_digest : mg "_law_digest" = some (.ref a_law_digest)
  a_law : Addr
  d_law : FuncData
  F_law : Fun K "law" "law" s_law a_law d_law
  b_law : Binds K d_law ["script"] []
  g_law : mg "law" = some (.ref a_law)
  C_Md5 : Addr
  cl_Md5 : Cls K C_Md5
  g_Md5 : mg "Md5" = some (.ref C_Md5)
  M_Md5 : Mk K C_Md5 a_Md5_init
  me_Md5_feed : Meth K C_Md5 "feed" a_Md5_feed
  me_Md5_digest : Meth K C_Md5 "digest" a_Md5_digest
  n_Md5_state : NoAttr K C_Md5 "_state"
  n_Md5_length : NoAttr K C_Md5 "_length"
  n_Md5_rest : NoAttr K C_Md5 "_rest"
  m_len : mg "len" = none
  m_range : mg "range" = none
  m_tuple : mg "tuple" = none
  m_zip : mg "zip" = none
  m_int : mg "int" = none
  m_isinstance : mg "isinstance" = none
  m_bool : mg "bool" = none
  m_list : mg "list" = none
  u_WORD : Value
  c_WORD : mg "_WORD" = some u_WORD
  r_WORD : RelV (.int (4294967295)) u_WORD
  A_START : Addr
  c_START : mg "_START" = some (.ref A_START)
  s_START : ∀ H, SqT K H A_START [V.int 1732584193, V.int 4023233417, V.int 2562383102, V.int 271733878]
  A_ROTATIONS_0 : Addr
  s_ROTATIONS_0 : ∀ H, SqT K H A_ROTATIONS_0 [V.int 7, V.int 12, V.int 17, V.int 22]
  A_ROTATIONS_1 : Addr
  s_ROTATIONS_1 : ∀ H, SqT K H A_ROTATIONS_1 [V.int 5, V.int 9, V.int 14, V.int 20]
  A_ROTATIONS_2 : Addr
  s_ROTATIONS_2 : ∀ H, SqT K H A_ROTATIONS_2 [V.int 4, V.int 11, V.int 16, V.int 23]
  A_ROTATIONS_3 : Addr
  s_ROTATIONS_3 : ∀ H, SqT K H A_ROTATIONS_3 [V.int 6, V.int 10, V.int 15, V.int 21]
  A_ROTATIONS : Addr
  c_ROTATIONS : mg "_ROTATIONS" = some (.ref A_ROTATIONS)
  s_ROTATIONS : ∀ H, SqT K H A_ROTATIONS [V.ref A_ROTATIONS_0, V.ref A_ROTATIONS_1, V.ref A_ROTATIONS_2, V.ref A_ROTATIONS_3]
  A_CONSTANTS : Addr
  c_CONSTANTS : mg "_CONSTANTS" = some (.ref A_CONSTANTS)
  s_CONSTANTS : ∀ H, SqT K H A_CONSTANTS [V.int 3614090360, V.int 3905402710, V.int 606105819, V.int 3250441966, V.int 4118548399, V.int 1200080426, V.int 2821735955, V.int 4249261313, V.int 1770035416, V.int 2336552879, V.int 4294925233, V.int 2304563134, V.int 1804603682, V.int 4254626195, V.int 2792965006, V.int 1236535329, V.int 4129170786, V.int 3225465664, V.int 643717713, V.int 3921069994, V.int 3593408605, V.int 38016083, V.int 3634488961, V.int 3889429448, V.int 568446438, V.int 3275163606, V.int 4107603335, V.int 1163531501, V.int 2850285829, V.int 4243563512, V.int 1735328473, V.int 2368359562, V.int 4294588738, V.int 2272392833, V.int 1839030562, V.int 4259657740, V.int 2763975236, V.int 1272893353, V.int 4139469664, V.int 3200236656, V.int 681279174, V.int 3936430074, V.int 3572445317, V.int 76029189, V.int 3654602809, V.int 3873151461, V.int 530742520, V.int 3299628645, V.int 4096336452, V.int 1126891415, V.int 2878612391, V.int 4237533241, V.int 1700485571, V.int 2399980690, V.int 4293915773, V.int 2240044497, V.int 1873313359, V.int 4264355552, V.int 2734768916, V.int 1309151649, V.int 4149444226, V.int 3174756917, V.int 718787259, V.int 3951481745]
section
variable {P : Program} {w : World} {K : PySem.W.Frag} {mg : Str → Option Value} {base : Heap}
/-! ### int(x), bits of a number -/
theorem Ev.is {σ : L2.St} {H : Hp} {te : TE} {x y : V} (h : Ev te σ H x) (e : x = y) : Ev te σ H y := e ▸ h
theorem ev_int1 {σ : L2.St} {H : Hp} {te : TE} {i : Int} (h : Ev te σ H (.int i)) : Ev (tCB (fun xs H Q => (∃ i, xs = [V.int i] ∧ Q (V.int i) H) ∨ ∃ k, xs = [V.bl k] ∧ Q (V.int (if k = true then 1 else 0)) H) (tCons te tNil)) σ H (.int i) :=
  ev_cb (ea_cons h ea_nil) fun H1 _ Q q => .inl ⟨i, rfl, q H1 (Ex.refl H1)⟩
theorem q_augR {σ : L2.St} {H : Hp} {te : TE} {D : Ends} {tz : TS} {i : Nat} {g : Int → Int → V} {a b : Int} (h1 : σ[i]? = some (some (.int a))) (h : Ev te σ H (.int b)) (k : ∀ H1, Ex H H1 → tz D (σ.set i (some (g a b))) H1) : tSeq (tAug i te (rI0 g)) tz D σ H :=
  ⟨_, h1, h H (Ex.refl H) _ fun H1 e => ⟨a, b, rfl, rfl, k H1 e⟩⟩
theorem s_augR {σ : L2.St} {H : Hp} {te : TE} {D : Ends} {i : Nat} {g : Int → Int → V} {a b : Int} (h1 : σ[i]? = some (some (.int a))) (h : Ev te σ H (.int b)) (k : ∀ H1, Ex H H1 → D.nx (σ.set i (some (g a b))) H1) : tAug i te (rI0 g) D σ H :=
  ⟨_, h1, h H (Ex.refl H) _ fun H1 e => ⟨a, b, rfl, rfl, k H1 e⟩⟩
theorem ev_atT {K : PySem.W.Frag} {σ : L2.St} {H : Hp} {tl ti : TE} {t : Addr} {xs : List V} {n : Int} {v : V} (h : Ev tl σ H (.ref t)) (hT : SqT K H t xs) (hi : Ev ti σ H (.int n)) (ha : atI xs n = some v) : Ev (tOp (rIxT K) tl ti) σ H v := fun H1 e Q q =>
  h H1 e _ fun H2 e2 => hi H2 (e.trans e2) _ fun H3 e3 => ⟨t, xs, n, v, rfl, rfl, ex_t ((e.trans e2).trans e3) hT, ha, q H3 (e2.trans e3)⟩
local macro_rules | `(tactic| walk_at "side") => `(tactic| first
  | omega
  | (show CDivW _ _; exact ⟨by omega, by decide⟩)
  | (show CDivW _ _; exact wide_div (b := 80) (by omega) (by omega) (by decide) (by decide)))
local macro_rules | `(tactic| walk_at "evown") => `(tactic| (refine' ev_int1 ?h1; (case h1 => walk_at "ev")))
/-- numbers from 0 on, as such -/
def cs (ds : List Nat) : List Int := ds.map fun d : Nat => (d : Int)
theorem cs_of {ns : List Int} {b : Int} (h : ∀ n ∈ ns, 0 ≤ n ∧ n < b) : ∃ ds : List Nat, ns = cs ds ∧ ds.length = ns.length ∧ ∀ d ∈ ds, (d : Int) < b := by
  refine ⟨ns.map Int.toNat, ?_, List.length_map .., fun d hd => ?_⟩
  · unfold cs
    rw [List.map_map]
    conv => lhs; rw [← List.map_id ns]
    refine List.map_congr_left fun n hn => ?_
    have := (h n hn).1
    show n = ((n.toNat : Nat) : Int)
    omega
  · obtain ⟨n, hn, rfl⟩ := List.mem_map.mp hd
    have := h n hn
    omega
theorem cs_len (ds : List Nat) : (cs ds).length = ds.length := List.length_map ..
theorem cs_at {ds : List Nat} {i : Nat} {d : Nat} (h : ds[i]? = some d) : (cs ds)[i]? = some (d : Int) := by unfold cs; rw [List.getElem?_map, h]; rfl
theorem cs_take (ds : List Nat) (i : Nat) : (cs ds).take i = cs (ds.take i) := by unfold cs; rw [List.map_take]
theorem cs_drop (ds : List Nat) (i : Nat) : (cs ds).drop i = cs (ds.drop i) := by unfold cs; rw [List.map_drop]
theorem cs_append (ds es : List Nat) : cs (ds ++ es) = cs ds ++ cs es := List.map_append ..

/-- numbers of the law -/
def sp_draw : Sp := fun vs H Q _ => ∃ c m b : Int, vs = [.int c, .int m, .int b] ∧ 0 ≤ m ∧ m ≤ 5000 ∧ 0 < b ∧ b ≤ 2 ^ 64 ∧ ∀ p (ns : List Int) H', H p = none → Ex H H' → H' p = some (.lst (ns.map V.int)) → (ns.length : Int) = m → (∀ n ∈ ns, 0 ≤ n ∧ n < b) → Q (.ref p) H'
theorem ok_law_draw (T : TX K mg) : FnOk P w K mg base CX0 1 T.a_law_draw T.d_law_draw ["cell", "many", "bound"] sp_draw := by
  refine T.F_law_draw.ok sc_law_draw (fun vs H Q E h => by obtain ⟨c, m, b, rfl, _⟩ := h; rfl) (fun cdv A outer s H vs Q E hr h => ?_)
  obtain ⟨c, m, b, rfl, hm0, hm, hb0, hb, k⟩ := h
  have hb' : b ≤ 18446744073709551616 := hb
  refine ⟨_, (pss_cons (ps_set (i := 3) sc_law_draw.nd rfl (Or.inl rfl) (pe_lst pa_nil))
      (pss_cons (ps_if (pt_cmpR op_ge (pv 0) (pe_op op_pow pe_int pe_int) (nomark _)) (pss_cons (ps_for PassesOwn.never rfl (pi_range1 (by rfl) T.m_range (pa_cons (pv 1) pa_nil)) (pg_name (i := 4) sc_law_draw.nd rfl (Or.inl rfl)) (pss_cons (ps_expr (pe_bm PySem.F.plainAttrs_list PySem.F.slot_list_append PySem.F.type_list_append mt_append (pv 3) (pa_cons (pe_op op_mod (pe_callTy call_int1 (by rfl) T.m_int PyProof.Rows.boot_int (pa_cons (pv 0) pa_nil)) (pv 2)) pa_nil)))
          (pss_one (ps_set (i := 0) sc_law_draw.nd rfl (Or.inl rfl) (pe_op op_fdivW (pv 0) (pv 2))))))
        (pss_one (ps_ret (pv 3)))) pss_nil)
      (pss_cons (ps_set (i := 5) sc_law_draw.nd rfl (Or.inl rfl) (pe_op op_mod (pe_callTy call_int1 (by rfl) T.m_int PyProof.Rows.boot_int (pa_cons (pv 0) pa_nil)) pe_int))
      (pss_cons (ps_for PassesOwn.never rfl (pi_range1 (by rfl) T.m_range (pa_cons (pv 1) pa_nil)) (pg_name (i := 4) sc_law_draw.nd rfl (Or.inl rfl)) (pss_cons (ps_set (i := 5) sc_law_draw.nd rfl (Or.inl rfl) (pe_op op_mod (pe_callTy call_int1 (by rfl) T.m_int PyProof.Rows.boot_int (pa_cons (pe_op op_add (pe_op op_add (pe_op op_mul (pv 5) pe_int) pe_int) (pv 4)) pa_nil)) pe_int))
        (pss_cons (ps_set (i := 6) sc_law_draw.nd rfl (Or.inl rfl) (pe_op op_mod (pe_callTy call_int1 (by rfl) T.m_int PyProof.Rows.boot_int (pa_cons (pe_op op_add (pe_op op_mul (pv 5) pe_int) (pe_op op_mul pe_int (pv 4))) pa_nil)) pe_int))
        (pss_one (ps_expr (pe_bm PySem.F.plainAttrs_list PySem.F.slot_list_append PySem.F.type_list_append mt_append (pv 3) (pa_cons (pe_op op_mod (pe_callTy call_int1 (by rfl) T.m_int PyProof.Rows.boot_int (pa_cons (pe_op op_fdivW (pv 6) pe_int) pa_nil)) (pv 2)) pa_nil)))))))
      (pss_one (ps_ret (pv 3))))))), ?_⟩
  refine q_asgL (xs := []) (el_lst ea_nil (by decide)) fun p H1 hp e1 h1 => ?_
  refine' q_when (et_test (ev_I0 ?h1 ?h2)) ?_ ?_
  case h1 => walk_at "ev"
  case h2 => exact ev_I (ev_c) (ev_c) ⟨by decide, by decide, by decide⟩
  · intro _ H2 e2
    refine q_forR1 (n := m) (ea_cons (ev_var rfl) ea_nil) ⟨hm0, by omega⟩ (fun i σ' H' => ∃ (c' : Int) (k' : Option V) (ns : List Int), σ' = [some (.int c'), some (.int m), some (.int b), some (.ref p), k', none, none] ∧ Ex H H' ∧ H' p = some (.lst (ns.map V.int)) ∧ ns.length = i ∧ ∀ n ∈ ns, 0 ≤ n ∧ n < b)
      (fun H3 e3 => ⟨c, none, [], rfl, (e1.trans e2).trans e3, e3 _ _ (e2 _ _ h1), rfl, fun n hn => by cases hn⟩) ?_ ?_
    · rintro i σ' H' hi ⟨c', k', ns, rfl, ex, hl, hn, hns⟩
      refine q_app (v := .int (c' % b)) hl (ev_var rfl) (ev_I (ev_int1 (ev_var rfl)) (ev_var rfl) hb0) (by rw [List.length_map]; omega) fun H3 e3 => ?_
      refine s_asg (v := .int (c' / b)) (ev_I (ev_var rfl) (ev_var rfl) (by walk_at "side")) fun H4 e4 => ?_
      refine ⟨c' / b, some (.int i), ns ++ [c' % b], rfl, (Ex.mut (ex.trans e3) hp).trans e4, e4 _ _ (by rw [upd_same, List.map_append]; rfl), by rw [List.length_append, hn]; rfl, fun n hn => ?_⟩
      rcases List.mem_append.mp hn with h | h
      · exact hns n h
      · cases List.mem_singleton.mp h
        exact ⟨Int.emod_nonneg _ (by omega), Int.emod_lt_of_pos _ hb0⟩
    · rintro σ' H' ⟨c', k', ns, rfl, ex, hl, hn, hns⟩
      walk_at "ret"
      intro H3 e3
      exact k p ns H3 hp (ex.trans e3) (e3 _ _ hl) (by omega) hns
  · intro _ H2 e2
    refine q_asg (v := .int (c % 2147483647)) (ev_I (ev_int1 (ev_var rfl)) ev_c (by decide)) fun H3 e3 => ?_
    refine q_forR1 (n := m) (ea_cons (ev_var rfl) ea_nil) ⟨hm0, by omega⟩ (fun i σ' H' => ∃ (k' x : Option V) (sd : Int) (ns : List Int), σ' = [some (.int c), some (.int m), some (.int b), some (.ref p), k', some (.int sd), x] ∧ Ex H H' ∧ H' p = some (.lst (ns.map V.int)) ∧ ns.length = i ∧ ∀ n ∈ ns, 0 ≤ n ∧ n < b)
      (fun H4 e4 => ⟨none, none, _, [], rfl, ((e1.trans e2).trans e3).trans e4, e4 _ _ (e3 _ _ (e2 _ _ h1)), rfl, fun n hn => by cases hn⟩) ?_ ?_
    · rintro i σ' H' hi ⟨k', x, sd, ns, rfl, ex, hl, hn, hns⟩
      refine q_asg (v := .int ((sd * 48271 + 12345 + (i : Int)) % 2147483647)) (ev_I (ev_int1 (ev_I0 (ev_I0 (ev_I (ev_var rfl) ev_c (.inr (by decide))) ev_c) (ev_var rfl))) ev_c (by decide)) fun H4 e4 => ?_
      generalize (sd * 48271 + 12345 + (i : Int)) % 2147483647 = sd2
      refine q_asg (v := .int ((sd2 * 69621 + 977 * (i : Int)) % 2147483629)) (ev_I (ev_int1 (ev_I0 (ev_I (ev_var rfl) ev_c (.inr (by decide))) (ev_I ev_c (ev_var rfl) (.inl (by decide))))) ev_c (by decide)) fun H5 e5 => ?_
      generalize (sd2 * 69621 + 977 * (i : Int)) % 2147483629 = mx
      refine s_app (v := .int (mx / 3 % b)) (e5 _ _ (e4 _ _ hl)) (ev_var rfl) (ev_I (ev_int1 (ev_I (ev_var rfl) ev_c ⟨by decide, by decide⟩)) (ev_var rfl) hb0) (by rw [List.length_map]; omega) fun H6 e6 => ?_
      refine ⟨_, _, sd2, ns ++ [mx / 3 % b], rfl, Ex.mut (((ex.trans e4).trans e5).trans e6) hp, by rw [upd_same, List.map_append]; rfl, by rw [List.length_append, hn]; rfl, fun n hn => ?_⟩
      rcases List.mem_append.mp hn with h | h
      · exact hns n h
      · cases List.mem_singleton.mp h
        exact ⟨Int.emod_nonneg _ (by omega), Int.emod_lt_of_pos _ hb0⟩
    · rintro σ' H' ⟨k', x, sd, ns, rfl, ex, hl, hn, hns⟩
      walk_at "ret"
      intro H4 e4
      exact k p ns H4 hp (ex.trans e4) (e4 _ _ hl) (by omega) hns

def sp_cell (K : PySem.W.Frag) : Sp := fun vs H Q _ => ∃ (a : Addr) (ns : List Int) (k : Int), vs = [.ref a, .int k] ∧ SqL K H a (ns.map V.int) ∧ 0 ≤ k ∧ RetV (.int (cellI ns k)) H Q
theorem ok_law_cell (T : TX K mg) : FnOk P w K mg base CX0 1 T.a_law_cell T.d_law_cell ["script", "k"] (sp_cell K) := by
  refine T.F_law_cell.ok sc_law_cell (fun vs H Q E h => by obtain ⟨a, ns, k, rfl, _⟩ := h; rfl) (fun cdv A outer s H vs Q E hr h => ?_)
  obtain ⟨a, ns, k, rfl, hS, hk, q⟩ := h
  refine ⟨_, (pss_cons (ps_if (pt_cmpR op_lt (pv 1) (pe_callB (r := rLenS K) call_len_seq (by rfl) T.m_len PySem.boot_len (pa_cons (pv 0) pa_nil)) (nomark _)) (pss_one (ps_ret (pe_ix (r := rIxL K) ix_list (pv 0) (pv 1) (fun _ _ => rfl)))) pss_nil)
      (pss_one (ps_ret pe_int))), ?_⟩
  have hl := (ev_lenS (K := K) (Ev.s (te := tVar 0) (σ := start ["script", "k"] [.ref a, .int k]) (ev_var rfl) hS))
  refine q_when (et_test (ev_I0 (ev_var rfl) hl)) ?_ ?_
  · intro hb H1 e1
    have hb : k < ns.length := by
      have := of_decide_eq_true hb
      rwa [List.length_map] at this
    refine s_ret (v := .int (cellI ns k)) (ev_ixS (i := 0) (n := k) (Ev.s (ev_var rfl) (ex_l e1 hS)) (ev_var rfl) ?_) fun H2 e2 => q H2 (e1.trans e2)
    exact at_of (j := k.toNat) (by omega) (at_int (cellI_in hk hb))
  · intro hb H1 e1
    have hb : ¬ k < ns.length := by
      have := of_decide_eq_false hb
      rwa [List.length_map] at this
    walk_at "ret"
    intro H2 e2
    exact ret_eq q (e1.trans e2) (by rw [cellI_out hb])
theorem ev_cell {σ : L2.St} {H : Hp} {ta tk : TE} {E : XK} {ns : List Int} {k : Int} {a : Addr} (ha : Ev ta σ H (.ref a)) (hS : SqL K H a (ns.map V.int)) (hk : Ev tk σ H (.int k)) (h0 : 0 ≤ k) : Ev (tCall (sp_cell K) [] E (tCons ta (tCons tk tNil))) σ H (.int (cellI ns k)) :=
  ev_call (ea_cons ha (ea_cons hk ea_nil)) fun H1 e Q q _ => ⟨a, ns, k, rfl, ex_l e hS, h0, q⟩
local macro_rules | `(tactic| walk_at "evown") => `(tactic| (refine' ev_cell ?h1 ?h2 ?h3 ?h4; (case h1 => exact ev_var rfl); (case h2 => walk_at "sq"); (case h3 => walk_at "ev"); (case h4 => walk_at "side")))

/-! ### objects: fields, methods, making -/
section
variable {K : PySem.W.Frag} {σ : L2.St} {H : Hp} {to te tv : TE} {a C : Addr} {dx : Addr} {fs : List (Str × V)} {f m : Str} {v : V} {D : Ends} {tz : TS} {sp : Sp} {dvs vs : List V} {E : XK} {t : TA}
theorem ev_fld (c : Cls K C) (hn : NoAttr K C f) (h : Ev to σ H (.ref a)) (hx : H a = some (.ins C dx fs)) (hl : fs.lookup f = some v) : Ev (tFld K to f) σ H v := fun H1 e Q q => h H1 e _ fun H2 e2 => ⟨a, C, dx, fs, v, rfl, (e.trans e2) _ _ hx, c, hn, hl, q H2 e2⟩
theorem q_fld (c : Cls K C) (hn : NoAttr K C f) (hv : Ev tv σ H v) (h : Ev to σ H (.ref a)) (hx : H a = some (.ins C dx fs)) (hl : fs.length < 1000) (k : ∀ H1, Ex H H1 → tz D σ (upd H1 a (.ins C dx (putF f v fs)))) : tSeq (sFld K to tv f) tz D σ H :=
  hv H (Ex.refl H) _ fun H1 e1 => h H1 e1 _ fun H2 e2 => ⟨a, C, dx, fs, rfl, (e1.trans e2) _ _ hx, c, hn, hl, k H2 (e1.trans e2)⟩
theorem s_fld (c : Cls K C) (hn : NoAttr K C f) (hv : Ev tv σ H v) (h : Ev to σ H (.ref a)) (hx : H a = some (.ins C dx fs)) (hl : fs.length < 1000) (k : ∀ H1, Ex H H1 → D.nx σ (upd H1 a (.ins C dx (putF f v fs)))) : sFld K to tv f D σ H :=
  hv H (Ex.refl H) _ fun H1 e1 => h H1 e1 _ fun H2 e2 => ⟨a, C, dx, fs, rfl, (e1.trans e2) _ _ hx, c, hn, hl, k H2 (e1.trans e2)⟩
theorem q_fldL {xs : List V} (c : Cls K C) (hn : NoAttr K C f) (hv : EvL tv σ H xs) (h : ∀ H1, Ex H H1 → Ev to σ H1 (.ref a)) (hx : H a = some (.ins C dx fs)) (hl : fs.length < 1000) (k : ∀ p H1, H p = none → Ex H H1 → H1 p = some (.lst xs) → tz D σ (upd H1 a (.ins C dx (putF f (.ref p) fs)))) : tSeq (sFld K to tv f) tz D σ H :=
  hv H (Ex.refl H) _ fun p H1 hp e1 g1 => h H1 e1 H1 (Ex.refl H1) _ fun H2 e2 => ⟨a, C, dx, fs, rfl, (e1.trans e2) _ _ hx, c, hn, hl, k p H2 hp (e1.trans e2) (e2 _ _ g1)⟩
/-- o.m(..), whatever m promises -/
theorem mth (h : Ev to σ H (.ref a)) (hx : H a = some (.ins C dx fs)) (hm : fs.lookup m = none) (ha : EvA t σ H vs) {Q : VK} (k : ∀ H1, Ex H H1 → sp (.ref a :: (vs ++ dvs)) H1 Q E) : tMeth C m sp dvs E to t σ H Q :=
  h H (Ex.refl H) _ fun H1 e1 => ⟨a, dx, fs, rfl, e1 _ _ hx, hm, ha H1 e1 _ fun H2 e2 => k H2 (e1.trans e2)⟩
theorem q_dropM (h : Ev to σ H (.ref a)) (hx : H a = some (.ins C dx fs)) (hm : fs.lookup m = none) (ha : EvA t σ H vs) (k : ∀ H1, Ex H H1 → sp (.ref a :: (vs ++ dvs)) H1 (fun _ H2 => tz D σ H2) E) : tSeq (tDrop (tMeth C m sp dvs E to t)) tz D σ H := mth h hx hm ha k
theorem s_dropM (h : Ev to σ H (.ref a)) (hx : H a = some (.ins C dx fs)) (hm : fs.lookup m = none) (ha : EvA t σ H vs) (k : ∀ H1, Ex H H1 → sp (.ref a :: (vs ++ dvs)) H1 (fun _ H2 => D.nx σ H2) E) : tDrop (tMeth C m sp dvs E to t) D σ H := mth h hx hm ha k
theorem q_asgM {i : Nat} (h : Ev to σ H (.ref a)) (hx : H a = some (.ins C dx fs)) (hm : fs.lookup m = none) (ha : EvA t σ H vs) (k : ∀ H1, Ex H H1 → sp (.ref a :: (vs ++ dvs)) H1 (fun x H2 => tz D (σ.set i (some x)) H2) E) : tSeq (tAsg (tMeth C m sp dvs E to t) (gName i)) tz D σ H := mth h hx hm ha k
theorem s_retM (h : Ev to σ H (.ref a)) (hx : H a = some (.ins C dx fs)) (hm : fs.lookup m = none) (ha : EvA t σ H vs) (k : ∀ H1, Ex H H1 → sp (.ref a :: (vs ++ dvs)) H1 D.rt E) : tRet (tMeth C m sp dvs E to t) D σ H := mth h hx hm ha k
/-- a method that changes nothing and gives a value -/
theorem ev_mth (h : Ev to σ H (.ref a)) (hx : H a = some (.ins C dx fs)) (hm : fs.lookup m = none) (ha : EvA t σ H vs) (k : SpV sp (.ref a :: (vs ++ dvs)) H v) : Ev (tMeth C m sp dvs E to t) σ H v := fun H1 e Q q =>
  h H1 e _ fun H2 e2 => ⟨a, dx, fs, rfl, (e.trans e2) _ _ hx, hm, ha H2 (e.trans e2) _ fun H3 e3 => k H3 ((e.trans e2).trans e3) Q (fun H4 e4 => q H4 ((e2.trans e3).trans e4)) E⟩
end
theorem fresh_ne {H : Hp} {p q : Addr} {o : HO} (hp : H p = none) (hq : H q = some o) : q ≠ p := ne_of_none hq hp
theorem bitNot_eq (x : Int) : Builtin.bitNot x = -x - 1 := rfl
theorem bitAnd_maskZ (x : Int) (k : Nat) : Builtin.bitAnd x (2 ^ k - 1) = x % 2 ^ k := by
  by_cases h : 0 ≤ x
  · exact _root_.Bits.bitAnd_mask k h
  · have hp : (1 : Int) ≤ 2 ^ k := by
      have : 0 < 2 ^ k := Nat.two_pow_pos k
      have h2 : ((2 : Int) ^ k) = ((2 ^ k : Nat) : Int) := by rw [Int.natCast_pow]; rfl
      omega
    rw [PyProof.Rows.bitAnd_np h (by omega), Nat.and_comm]
    have h2 : ((2 : Int) ^ k) = ((2 ^ k : Nat) : Int) := by rw [Int.natCast_pow]; rfl
    have h3 : ((2 : Int) ^ k - 1).toNat = 2 ^ k - 1 := by omega
    rw [h3, Nat.and_two_pow_sub_one_eq_mod, bitNot_eq]
    have h4 : ((-x - 1).toNat : Int) = -x - 1 := by omega
    rw [h2, Int.natCast_emod, h4]
    generalize 2 ^ k = m at *
    have hm : (0 : Int) < (m : Int) := by omega
    have e1 := Int.emod_add_mul_ediv x m
    have e2 := Int.emod_add_mul_ediv (-x - 1) m
    have a1 := Int.emod_nonneg x (by omega : (m : Int) ≠ 0)
    have a2 := Int.emod_lt_of_pos x hm
    have b1 := Int.emod_nonneg (-x - 1) (by omega : (m : Int) ≠ 0)
    have b2 := Int.emod_lt_of_pos (-x - 1) hm
    generalize x % (m : Int) = r at *
    generalize (-x - 1) % (m : Int) = s at *
    generalize x / (m : Int) = p at *
    generalize (-x - 1) / (m : Int) = q at *
    -- r + s + 1 is a multiple of m between 1 and 2m - 1
    have e3 : r + s + 1 = m * (-(p + q)) := by
      rw [Int.mul_neg, Int.mul_add]
      omega
    have h5 : -(p + q) = 1 := by
      have c1 : 0 < (m : Int) * (-(p + q)) := by omega
      have c2 : (m : Int) * (-(p + q)) < m * 2 := by omega
      have c3 := Int.pos_of_mul_pos_right (a := (m : Int)) (b := -(p + q)) (by exact c1) hm
      have c4 : -(p + q) < 2 := Int.lt_of_mul_lt_mul_left c2 (by omega)
      omega
    rw [h5, Int.mul_one] at e3
    omega
theorem q_fldaugI {K : PySem.W.Frag} {σ : L2.St} {H : Hp} {to tv : TE} {a C dx : Addr} {fs : List (Str × V)} {f : Str} {i j : Int} {D : Ends} {tz : TS} (c : Cls K C) (hn : NoAttr K C f) (h : Ev to σ H (.ref a)) (hx : H a = some (.ins C dx fs)) (hl : fs.lookup f = some (.int i)) (hv : Ev tv σ H (.int j)) (hz : fs.length < 1000)
    (k : ∀ H1, Ex H H1 → tz D σ (upd H1 a (.ins C dx (putF f (.int (i + j)) fs)))) : tSeq (sFldAug K to tv rAdd f) tz D σ H :=
  h H (Ex.refl H) _ fun H1 e1 => ⟨a, C, dx, fs, .int i, rfl, e1 _ _ hx, c, hn, hl, hv H1 e1 _ fun H2 e2 => ⟨i, j, rfl, rfl, dx, fs, (e1.trans e2) _ _ hx, hz, k H2 (e1.trans e2)⟩⟩
/-- [e for j in range(n)] whose element changes objects -/
theorem tlc_rngM {ta : TA} {te : TE} {vs : List Nat} {n : Int} {j : Nat} {σ : L2.St} {H : Hp} {Q : VK} (h : EvA ta σ H [.int n]) (hn : -100000 ≤ n ∧ n ≤ 100000)
    (k : ∀ H1, Ex H H1 → ∀ Dl, H1 Dl = none → ∃ Pv : Nat → Hp → Prop, Pv 0 (upd H1 Dl (.lst [])) ∧ (∀ (i : Nat) H', i < n.toNat → Pv i H' → wipe ((wipe σ vs).set j (some (.int (i : Int)))) vs = wipe σ vs ∧ te ((wipe σ vs).set j (some (.int (i : Int)))) H' fun y H4 => ∃ acc, H4 Dl = some (.lst acc) ∧ acc.length < sizeLine ∧ Pv (i + 1) (upd H4 Dl (.lst (acc ++ [y])))) ∧ (∀ H', Pv n.toNat H' → Q (.ref Dl) H')) :
    tLc (iRng1 ta) (gName j) tYes te vs σ H Q := h H (Ex.refl H) _ fun H1 e1 => ⟨n, rfl, by omega, by omega, fun Dl hD => by
  obtain ⟨Pv, h0, hs, hd⟩ := k H1 e1 Dl hD
  refine lc_range (lo := 0) (n := n.toNat) Pv h0 (fun i H' hi p => ?_) hd
  rw [Int.zero_add]
  exact hs i H' hi p⟩

theorem rs4 (n : Nat) : Builtin.Range.rangeSize 0 ((4 * n : Nat) : Int) 4 = (n : Int) := by
  unfold Builtin.Range.rangeSize
  rw [if_pos (by decide)]
  split <;> omega
theorem rg4 {n : Nat} (h : n ≤ 10000) : RgC 0 ((4 * n : Nat) : Int) 4 n := by
  refine ⟨by decide, by decide, ?_, rs4 n⟩
  unfold Builtin.Range.small
  rw [rs4]
  have f : ∀ x : Int, 0 ≤ x → x ≤ 1000000 → Builtin.Range.rangeFitsLong x = true := fun x h1 h2 => by
    unfold Builtin.Range.rangeFitsLong
    rw [Bool.and_eq_true]
    exact ⟨decide_eq_true (by omega), decide_eq_true (by omega)⟩
  rw [f 0 (by decide) (by decide), f _ (by omega) (by omega), f 4 (by decide) (by decide), f (n : Int) (by omega) (by omega), if_pos (by decide), f _ (by omega) (by omega), Bool.or_true]
  rfl
theorem rs8 (n : Nat) : Builtin.Range.rangeSize 0 ((8 * n : Nat) : Int) 8 = (n : Int) := by
  unfold Builtin.Range.rangeSize
  rw [if_pos (by decide)]
  split <;> omega
theorem rg8 {n : Nat} (h : n ≤ 10000) : RgC 0 ((8 * n : Nat) : Int) 8 n := by
  refine ⟨by decide, by decide, ?_, rs8 n⟩
  unfold Builtin.Range.small
  rw [rs8]
  have f : ∀ x : Int, 0 ≤ x → x ≤ 1000000 → Builtin.Range.rangeFitsLong x = true := fun x h1 h2 => by
    unfold Builtin.Range.rangeFitsLong
    rw [Bool.and_eq_true]
    exact ⟨decide_eq_true (by omega), decide_eq_true (by omega)⟩
  rw [f 0 (by decide) (by decide), f _ (by omega) (by omega), f 8 (by decide) (by decide), f (n : Int) (by omega) (by omega), if_pos (by decide), f _ (by omega) (by omega), Bool.or_true]
  rfl
theorem rs64 (n : Nat) : Builtin.Range.rangeSize 0 ((64 * n : Nat) : Int) 64 = (n : Int) := by
  unfold Builtin.Range.rangeSize
  rw [if_pos (by decide)]
  split <;> omega
theorem rg64 {n : Nat} (h : n ≤ 10000) : RgC 0 ((64 * n : Nat) : Int) 64 n := by
  refine ⟨by decide, by decide, ?_, rs64 n⟩
  unfold Builtin.Range.small
  rw [rs64]
  have f : ∀ x : Int, 0 ≤ x → x ≤ 1000000 → Builtin.Range.rangeFitsLong x = true := fun x h1 h2 => by
    unfold Builtin.Range.rangeFitsLong
    rw [Bool.and_eq_true]
    exact ⟨decide_eq_true (by omega), decide_eq_true (by omega)⟩
  rw [f 0 (by decide) (by decide), f _ (by omega) (by omega), f 64 (by decide) (by decide), f (n : Int) (by omega) (by omega), if_pos (by decide), f _ (by omega) (by omega), Bool.or_true]
  rfl
theorem q_forRC {σ : L2.St} {H : Hp} {D : Ends} {tu tz : TS} {ta : TA} {j n : Nat} {a b c : Int} (h : EvA ta σ H [.int a, .int b, .int c]) (hr : RgC a b c n) (Pv : Nat → L2.St → Hp → Prop) (h0 : ∀ H1, Ex H H1 → Pv 0 σ H1)
    (hs : ∀ i σ' H', i < n → Pv i σ' H' → tu { nx := Pv (i + 1), rt := D.rt, bk := tz D, ct := Pv (i + 1) } (σ'.set j (some (.int (a + (i : Nat) * c)))) H') (hd : ∀ σ' H', Pv n σ' H' → tz D σ' H') : tSeq (tFor (iRng3 ta) (gName j) tu) tz D σ H :=
  h H (Ex.refl H) _ fun H1 e1 => ⟨a, b, c, n, rfl, hr, for_rangeC Pv (h0 H1 e1) hs hd⟩
/-- a tuple that is read -/
def EvP (K : PySem.W.Frag) (te : TE) (σ : L2.St) (H : Hp) (xs : List V) : Prop := ∀ H1, Ex H H1 → ∀ Q : VK, (∀ p H2, Ex H1 H2 → SqT K H2 p xs → Q (.ref p) H2) → te σ H1 Q
theorem Ev.p {te : TE} {σ : L2.St} {H : Hp} {a : Addr} {xs : List V} (h : Ev te σ H (.ref a)) (hx : SqT K H a xs) : EvP K te σ H xs := fun H1 e Q q => h H1 e Q fun H2 e2 => q a H2 e2 (ex_t e2 (ex_t e hx))
theorem EvU.p {te : TE} {σ : L2.St} {H : Hp} {xs : List V} (h : EvU te σ H xs) : EvP K te σ H xs := fun H1 e Q q => h H1 e Q fun p H2 _ e2 g => q p H2 e2 (st_of g)
theorem eu_tupOf {te : TE} {σ : L2.St} {H : Hp} {xs : List V} (h : EvS K te σ H xs) : EvU (tCB (fun xs H Q => ∃ p ys, xs = [.ref p] ∧ ((SqL K H p ys ∧ ∀ l, H l = none → Q (.ref l) (upd H l (.tup ys))) ∨ (SqT K H p ys ∧ Q (.ref p) H))) (tCons te tNil)) σ H xs := fun H1 e Q q =>
  h H1 e _ fun p H2 e2 hp => ⟨p, xs, rfl, .inl ⟨hp, fun l hl => q l _ (by cases hh : H1 l with | none => rfl | some o => rw [e2 _ _ hh] at hl; cases hl) (e2.trans (Ex.new hl)) upd_same⟩⟩
theorem el_lcC {σ : L2.St} {H : Hp} {ta : TA} {te : TE} {vs : List Nat} {j n : Nat} {a b c : Int} (zs : List V) (h1 : EvA ta σ H [.int a, .int b, .int c]) (hr : RgC a b c n) (hz : zs.length = n) (hb : zs.length ≤ 50000) (hw : ∀ x, wipe ((wipe σ vs).set j (some x)) vs = wipe σ vs)
    (he : ∀ (i : Nat) H1, Ex H H1 → i < n → ∃ z, zs[i]? = some z ∧ Ev te ((wipe σ vs).set j (some (.int (a + (i : Nat) * c)))) H1 z) : EvL (tLc (iRng3 ta) (gName j) tYes te vs) σ H zs := fun H0 e Q q =>
  h1 H0 e _ fun H1 e1 => ⟨a, b, c, n, rfl, hr, fun D hD => lc_it walk_rangeC (fun i H' => Ex H1 H' ∧ H' D = some (.lst (zs.take i))) ⟨Ex.new hD, upd_same⟩ (fun _ _ _ _ => trivial) (by
    rintro i x H' H'' hi ⟨ex, hd⟩ ⟨rfl, rfl⟩
    obtain ⟨z, hz1, hz2⟩ := he i H'' ((e.trans e1).trans ex) hi
    refine ⟨hw _, ?_⟩
    refine hz2 _ (Ex.refl _) _ fun H4 e4 => ⟨zs.take i, e4 _ _ hd, sz_lt (by rw [List.length_take]; omega), ?_, ?_⟩
    · exact Ex.mut (ex.trans e4) hD
    · rw [upd_same, take_snoc hz1]) fun H' ⟨ex, hd⟩ => by
      rw [← hz, List.take_length] at hd
      exact q D H' (fresh_back e1 hD) (e1.trans ex) hd⟩
/-- over zip of two tuples -/
theorem el_lcZT {σ : L2.St} {H : Hp} {t1 t2 te : TE} {xs ys : List V} {vs : List Nat} {j1 j2 : Nat} (zs : List V) (h1 : EvP K t1 σ H xs) (h2 : EvP K t2 σ H ys) (hz : zs.length = min xs.length ys.length) (hb : zs.length ≤ 50000)
    (hw : ∀ x y, wipe (((wipe σ vs).set j1 (some x)).set j2 (some y)) vs = wipe σ vs)
    (he : ∀ (i : Nat) (x y : V) H1, Ex H H1 → xs[i]? = some x → ys[i]? = some y → ∃ z, zs[i]? = some z ∧ Ev te (((wipe σ vs).set j1 (some x)).set j2 (some y)) H1 z) :
    EvL (tLc (RZ.iZipA K (tCons t1 (tCons t2 tNil))) (gTup K 2 (gCons (gName j1) (gCons (gName j2) gNil))) tYes te vs) σ H zs := fun H0 e Q q =>
  h1 H0 e _ fun p H1 e1 hp => h2 H1 (e.trans e1) _ fun r H2 e2 hr => ⟨p, r, xs, ys, rfl, .inr ⟨ex_t e2 hp, hr, fun D hD =>
    ⟨fun i m H' => m = zs.length - i ∧ i ≤ zs.length ∧ Ex H2 H' ∧ H' D = some (.lst (zs.take i)), ⟨zs.length, rfl, Nat.zero_le _, Ex.new hD, upd_same⟩, by
      rintro i m H' ⟨rfl, hi, ex, hd⟩
      have qx : SqT K H' p xs := ex_t (e2.trans ex) hp
      have qy : SqT K H' r ys := ex_t ex hr
      by_cases hlt : i < zs.length
      · have hx : xs[i]? = some xs[i] := List.getElem?_eq_getElem (by omega)
        have hy : ys[i]? = some ys[i] := List.getElem?_eq_getElem (by omega)
        refine .inr ⟨⟨xs, ys, _, _, qx, qy, hx, hy⟩, fun H3 => i + 1 ≤ zs.length ∧ Ex H2 H3 ∧ H3 D = some (.lst (zs.take (i + 1))), fun H3 h3 => ⟨zs.length - (i + 1), by omega, rfl, h3⟩, fun v H3 hv => ?_⟩
        obtain ⟨T, x, y, rfl, hT, rfl, f1, f2⟩ := hv
        have ex3 : Ex H' (upd H' T (.tup [x, y])) := Ex.new hT
        obtain ⟨z, hz1, hz2⟩ := he i x y (upd H' T (.tup [x, y])) ((((e.trans e1).trans e2).trans ex).trans ex3) (f1 _ qx) (f2 _ qy)
        refine ⟨T, [x, y], rfl, st_of upd_same, rfl, x, [y], rfl, y, [], rfl, rfl, hw x y, ?_⟩
        refine hz2 _ (Ex.refl _) _ fun H4 e4 => ⟨zs.take i, e4 _ _ (ex3 _ _ hd), sz_lt (by rw [List.length_take]; omega), hlt, ?_, ?_⟩
        · exact Ex.mut ((ex.trans ex3).trans e4) hD
        · rw [upd_same, take_snoc hz1]
      · have ei : i = zs.length := by omega
        refine .inl ⟨⟨xs, ys, qx, qy, by omega⟩, ?_⟩
        rw [ei, List.take_length] at hd
        exact q D H' (fresh_back (e1.trans e2) hD) ((e1.trans e2).trans ex) hd⟩⟩⟩
theorem take_snocI {zs : List Int} {i : Nat} {z : Int} (h : zs[i]? = some z) : zs.take (i + 1) = zs.take i ++ [z] := by
  rw [List.take_add_one, h]
  rfl
theorem fresh_ne' {H : Hp} {p q : Addr} {o : HO} (hp : H p = none) (hq : H q = some o) : q ≠ p := ne_of_none hq hp
/-- [b for w in tuple for b in f(w)] -/
theorem el_lc2 {σ : L2.St} {H : Hp} {t1 t2 te : TE} {i0 i1 : Nat} {vs vs1 : List Nat} (ws : List Int) (f : Int → List Int) (h1 : EvP K t1 σ H (ws.map V.int)) (hw : ∀ x, wipe ((wipe σ vs).set i0 (some x)) vs = wipe σ vs)
    (hw1 : ∀ x y, wipe ((wipe ((wipe σ vs).set i0 (some x)) vs1).set i1 (some y)) vs1 = wipe ((wipe σ vs).set i0 (some x)) vs1) (hv : ∀ x y H1, Ev te ((wipe ((wipe σ vs).set i0 (some x)) vs1).set i1 (some y)) H1 y)
    (h2 : ∀ w H1, Ex H H1 → w ∈ ws → EvL t2 ((wipe σ vs).set i0 (some (.int w))) H1 ((f w).map V.int)) (hb : (ws.flatMap f).length ≤ 50000) :
    EvL (tLc2 (iTup K t1) (gName i0) tYes (iList K t2) (gName i1) tYes te vs vs1) σ H ((ws.flatMap f).map V.int) := fun H0 e Q q =>
  h1 H0 e _ fun p H1 e1 hp => ⟨p, rfl, ⟨_, hp⟩, fun D hD =>
    ⟨fun i m H' => m = ws.length - i ∧ i ≤ ws.length ∧ Ex H1 H' ∧ H' D = some (.lst (((ws.take i).flatMap f).map V.int)), ⟨ws.length, rfl, Nat.zero_le _, Ex.new hD, upd_same⟩, by
      rintro i m H' ⟨rfl, hi, ex, hd⟩
      have qx : SqT K H' p (ws.map V.int) := ex_t ex hp
      by_cases hlt : i < ws.length
      · have hx : ws[i]? = some ws[i] := List.getElem?_eq_getElem hlt
        have htk : (ws.take (i + 1)).flatMap f = (ws.take i).flatMap f ++ f ws[i] := by
          rw [List.take_add_one, hx]
          show ((ws.take i) ++ [ws[i]]).flatMap f = _
          rw [List.flatMap_append, List.flatMap_cons, List.flatMap_nil, List.append_nil]
        have hmem : ws[i] ∈ ws := List.getElem_mem hlt
        have hsplit : ws.flatMap f = (ws.take i).flatMap f ++ (f ws[i] ++ (ws.drop (i + 1)).flatMap f) := by
          rw [← List.append_assoc, ← htk, ← List.flatMap_append, List.take_append_drop]
        have hlen := congrArg List.length hsplit
        rw [List.length_append, List.length_append] at hlen
        refine .inr ⟨⟨_, _, qx, at_int hx⟩, fun H3 => Ex H1 H3 ∧ H3 D = some (.lst (((ws.take (i + 1)).flatMap f).map V.int)), fun H3 h3 => ⟨ws.length - (i + 1), by omega, rfl, hlt, h3⟩, fun v H3 hv1 => ?_⟩
        obtain ⟨rfl, hv1⟩ := hv1
        have hv1 := hv1 _ qx
        rw [at_int hx] at hv1
        cases hv1
        generalize ws[i] = w0 at *
        refine ⟨hw _, ?_⟩
        refine h2 w0 H3 ((e.trans e1).trans ex) hmem H3 (Ex.refl _) _ fun r H4 hrn e4 hr => ⟨r, rfl, ⟨_, sq_of hr⟩, fun j k H' => k = (f w0).length - j ∧ j ≤ (f w0).length ∧ Ex H1 H' ∧ H' r = some (.lst ((f w0).map V.int)) ∧ H' D = some (.lst (((ws.take i).flatMap f ++ (f w0).take j).map V.int)), ⟨(f w0).length, rfl, Nat.zero_le _, ex.trans e4, hr, by rw [List.take_zero, List.append_nil]; exact e4 _ _ hd⟩, ?_⟩
        have hrD : r ≠ D := (fresh_ne' hrn hd).symm
        rintro j k H' ⟨rfl, hj, ex4, hr4, hd4⟩
        by_cases hjl : j < (f w0).length
        · have hy : (f w0)[j]? = some (f w0)[j] := List.getElem?_eq_getElem hjl
          refine .inr ⟨⟨_, _, sq_of hr4, at_int hy⟩, fun H5 => Ex H1 H5 ∧ H5 r = some (.lst ((f w0).map V.int)) ∧ H5 D = some (.lst (((ws.take i).flatMap f ++ (f w0).take (j + 1)).map V.int)), fun H5 h5 => ⟨(f w0).length - (j + 1), by omega, rfl, hjl, h5⟩, fun v H5 hv5 => ?_⟩
          obtain ⟨rfl, hv5⟩ := hv5
          have hv5 := hv5 _ (sq_of hr4)
          rw [at_int hy] at hv5
          cases hv5
          refine ⟨hw1 _ _, ?_⟩
          have he := hv (.int w0) (.int (f w0)[j]) H5
          refine he H5 (Ex.refl _) _ fun H6 e6 => ⟨_, e6 _ _ hd4, sz_lt (by rw [List.length_map, List.length_append, List.length_take]; omega), Ex.mut (ex4.trans e6) hD, ?_, ?_⟩
          · rw [upd_ne hrD]
            exact e6 _ _ hr4
          · rw [upd_same, take_snocI hy, ← List.append_assoc]
            exact congrArg (fun z => some (HO.lst z)) (List.map_append (f := V.int) (l₁ := (ws.take i).flatMap f ++ (f w0).take j) (l₂ := [(f w0)[j]])).symm
        · have ej : j = (f w0).length := by omega
          rw [ej, List.take_length, ← htk] at hd4
          exact .inl ⟨⟨_, sq_of hr4, by rw [List.length_map]; omega⟩, ex4, hd4⟩
      · have ei : i = ws.length := by omega
        refine .inl ⟨⟨_, qx, by rw [List.length_map]; omega⟩, ?_⟩
        rw [ei, List.take_length] at hd
        exact q D H' (fresh_back e1 hD) (e1.trans ex) hd⟩⟩

/-! ### MD5 as functions of integers -/
structure W4 where
  (a b c d : Int)
def W4.l (s : W4) : List Int := [s.a, s.b, s.c, s.d]
def fI (i : Nat) (b c d : Int) : Int :=
  if i < 16 then Builtin.bitOr (Builtin.bitAnd b c) (Builtin.bitAnd (Builtin.bitXor b 4294967295) d)
  else if i < 32 then Builtin.bitOr (Builtin.bitAnd d b) (Builtin.bitAnd (Builtin.bitXor d 4294967295) c)
  else if i < 48 then Builtin.bitXor (Builtin.bitXor b c) d else Builtin.bitXor c (Builtin.bitOr b (Builtin.bitXor d 4294967295))
def ixN (i : Nat) : Nat := if i < 16 then i else if i < 32 then (5 * i + 1) % 16 else if i < 48 then (3 * i + 5) % 16 else 7 * i % 16
theorem ixN_lt {i : Nat} (h : i < 64) : ixN i < 16 := by unfold ixN; split; · omega
                                                         split; · omega
                                                         split <;> omega
def rotL : List (List Int) := [[7, 12, 17, 22], [5, 9, 14, 20], [4, 11, 16, 23], [6, 10, 15, 21]]
def rotI (i : Nat) : Int := (rotL.getD (i / 16) []).getD (i % 4) 0
theorem rot_all : (List.range 64).all (fun i => decide (4 ≤ rotI i) && decide (rotI i ≤ 23)) = true := by decide +kernel
theorem rotI_le {i : Nat} (h : i < 64) : 4 ≤ rotI i ∧ rotI i ≤ 23 := by
  have := List.all_eq_true.mp rot_all i (List.mem_range.mpr h)
  rw [Bool.and_eq_true] at this
  exact ⟨of_decide_eq_true this.1, of_decide_eq_true this.2⟩
def cstL : List Int := [3614090360, 3905402710, 606105819, 3250441966, 4118548399, 1200080426, 2821735955, 4249261313, 1770035416, 2336552879, 4294925233, 2304563134, 1804603682, 4254626195, 2792965006, 1236535329, 4129170786, 3225465664, 643717713, 3921069994, 3593408605, 38016083, 3634488961, 3889429448, 568446438, 3275163606, 4107603335, 1163531501, 2850285829, 4243563512, 1735328473, 2368359562, 4294588738, 2272392833, 1839030562, 4259657740, 2763975236, 1272893353, 4139469664, 3200236656, 681279174, 3936430074, 3572445317, 76029189, 3654602809, 3873151461, 530742520, 3299628645, 4096336452, 1126891415, 2878612391, 4237533241, 1700485571, 2399980690, 4293915773, 2240044497, 1873313359, 4264355552, 2734768916, 1309151649, 4149444226, 3174756917, 718787259, 3951481745]
def stepI (ws : List Int) (i : Nat) (s : W4) : W4 :=
  ⟨s.d, Builtin.bitAnd (s.b + Builtin.bitOr (Builtin.bitAnd (s.a + fI i s.b s.c s.d + cstL.getD i 0 + ws.getD (ixN i) 0) 4294967295 * 2 ^ (rotI i).toNat) (Builtin.bitAnd (s.a + fI i s.b s.c s.d + cstL.getD i 0 + ws.getD (ixN i) 0) 4294967295 / 2 ^ (32 - rotI i).toNat)) 4294967295, s.b, s.c⟩
def itI (ws : List Int) (s : W4) : Nat → W4
  | 0 => s
  | i + 1 => stepI ws i (itI ws s i)
def blkI (s : W4) (ws : List Int) : W4 := ⟨Builtin.bitAnd (s.a + (itI ws s 64).a) 4294967295, Builtin.bitAnd (s.b + (itI ws s 64).b) 4294967295, Builtin.bitAnd (s.c + (itI ws s 64).c) 4294967295, Builtin.bitAnd (s.d + (itI ws s 64).d) 4294967295⟩
def wordN (bs : List Nat) (i : Nat) : Nat := bs.getD (4 * i) 0 + bs.getD (4 * i + 1) 0 * 2 ^ 8 + bs.getD (4 * i + 2) 0 * 2 ^ 16 + bs.getD (4 * i + 3) 0 * 2 ^ 24
def wordsI (bs : List Nat) : List Int := (List.range 16).map fun i => ((wordN bs i : Nat) : Int)
theorem wordsI_len (bs : List Nat) : (wordsI bs).length = 16 := rfl
def blksI (s : W4) (ds : List Nat) : Nat → W4
  | 0 => s
  | n + 1 => blkI (blksI s ds n) (wordsI ((ds.drop (64 * n)).take 64))
theorem blks_add (s : W4) (ds : List Nat) (n : Nat) : ∀ m, blksI s ds (n + m) = blksI (blksI s ds n) (ds.drop (64 * n)) m
  | 0 => rfl
  | m + 1 => by
    show blkI (blksI s ds (n + m)) _ = blkI (blksI _ _ m) _
    rw [blks_add s ds n m, List.drop_drop, ← Nat.mul_add]
    rfl
theorem blks_ext (s : W4) (ds es : List Nat) : ∀ n, 64 * n ≤ ds.length → blksI s (ds ++ es) n = blksI s ds n
  | 0, _ => rfl
  | n + 1, h => by
    show blkI (blksI s _ n) _ = blkI (blksI s _ n) _
    rw [blks_ext s ds es n (by omega), List.drop_append_of_le_length (by omega), List.take_append_of_le_length (by rw [List.length_drop]; omega)]
def w0 : W4 := ⟨1732584193, 4023233417, 2562383102, 271733878⟩
def lowB (n : Int) (c : Nat) : List Int := (List.range c).map fun i => n / 2 ^ (8 * i) % 256
def lowN (n c : Nat) : List Nat := (List.range c).map fun i => n / 2 ^ (8 * i) % 256
def padB (n : Nat) : List Nat := [128] ++ List.replicate ((55 + 64 * n - n) % 64) 0 ++ lowN (8 * n) 8
/-- what is left behind the whole blocks, and the state there -/
def whl (ds : List Nat) : Nat := ds.length / 64
def rest (ds : List Nat) : List Nat := ds.drop (64 * whl ds)
def stt (ds : List Nat) : W4 := blksI w0 ds (whl ds)
def digI (ds : List Nat) : List Int := (blksI (stt ds) (rest ds ++ padB ds.length) ((rest ds ++ padB ds.length).length / 64)).l.flatMap fun w => lowB w 4
theorem lowB_len (n : Int) (c : Nat) : (lowB n c).length = c := by unfold lowB; rw [List.length_map, List.length_range]
theorem lowN_len (n c : Nat) : (lowN n c).length = c := by unfold lowN; rw [List.length_map, List.length_range]
theorem lowN_lt (n c : Nat) : ∀ b ∈ lowN n c, b < 256 := fun b hb => by
  unfold lowN at hb
  obtain ⟨i, _, rfl⟩ := List.mem_map.mp hb
  exact Nat.mod_lt _ (by decide)
theorem lowB_N (n c : Nat) : lowB (n : Int) c = cs (lowN n c) := by
  unfold lowB lowN cs
  rw [List.map_map]
  refine List.map_congr_left fun i _ => ?_
  show (n : Int) / 2 ^ (8 * i) % 256 = ((n / 2 ^ (8 * i) % 256 : Nat) : Int)
  rw [Int.natCast_emod, Int.natCast_ediv, Int.natCast_pow]
  rfl
theorem padB_len (n : Nat) : (padB n).length = 9 + (55 + 64 * n - n) % 64 := by
  unfold padB
  rw [List.length_append, List.length_append, List.length_replicate, lowN_len]
  show 1 + _ + 8 = _
  omega
theorem padB_lt (n : Nat) : ∀ b ∈ padB n, b < 256 := fun b hb => by
  unfold padB at hb
  rcases List.mem_append.mp hb with h | h
  · rcases List.mem_append.mp h with h | h
    · rw [List.mem_singleton.mp h]
      decide
    · rw [List.eq_of_mem_replicate h]
      decide
  · exact lowN_lt _ _ b h
theorem rest_len (ds : List Nat) : (rest ds).length = ds.length % 64 := by unfold rest whl; rw [List.length_drop]; omega
theorem feed_rest (ds es : List Nat) : rest (ds ++ es) = (rest ds ++ es).drop (64 * ((rest ds ++ es).length / 64)) := by
  have h1 : 64 * whl ds ≤ ds.length := by unfold whl; omega
  have e : rest ds ++ es = (ds ++ es).drop (64 * whl ds) := by unfold rest; rw [List.drop_append_of_le_length h1]
  rw [e, List.drop_drop]
  unfold rest whl
  rw [List.length_drop]
  congr 1
  rw [List.length_append]
  omega
theorem feed_stt (ds es : List Nat) : stt (ds ++ es) = blksI (stt ds) (rest ds ++ es) ((rest ds ++ es).length / 64) := by
  have h1 : 64 * whl ds ≤ ds.length := by unfold whl; omega
  have e : rest ds ++ es = (ds ++ es).drop (64 * whl ds) := by unfold rest; rw [List.drop_append_of_le_length h1]
  have e2 : stt ds = blksI w0 (ds ++ es) (whl ds) := by unfold stt; rw [blks_ext _ _ _ _ h1]
  rw [e2, e, ← blks_add]
  unfold stt
  congr 1
  unfold whl
  rw [List.length_drop, List.length_append]
  omega

def FrA (a : Addr) (H H' : Hp) : Prop := ∀ b o, b ≠ a → H b = some o → H' b = some o
theorem FrA.ex {a : Addr} {H H1 : Hp} (h : Ex H H1) : FrA a H H1 := fun b o _ e => h b o e
theorem FrA.trans {a : Addr} {H H1 H2 : Hp} (h : FrA a H H1) (g : FrA a H1 H2) : FrA a H H2 := fun b o n e => g b o n (h b o n e)
theorem FrA.upd {a : Addr} {H H1 : Hp} {o : HO} (h : FrA a H H1) : FrA a H (upd H1 a o) := fun b p n e => by rw [upd_ne n]; exact h b p n e
def sp_low : Sp := fun vs H Q _ => ∃ (n : Int) (c : Nat), vs = [.int n, .int (c : Int)] ∧ c ≤ 1000 ∧ RetL ((lowB n c).map V.int) H Q
theorem ok_low_bytes (T : TX K mg) : FnOk P w K mg base CX0 1 T.a_low_bytes T.d_low_bytes ["number", "count"] sp_low := by
  refine T.F_low_bytes.ok sc_low_bytes (fun vs H Q E h => by obtain ⟨n, c, rfl, _⟩ := h; rfl) (fun cdv A outer s H vs Q E hr h => ?_)
  obtain ⟨n, c, rfl, hc, k⟩ := h
  refine ⟨_, (pss_one (ps_ret (pe_lc (own := [("shift", 2)]) (g := gName 2) (tt := tYes) rfl sc_low_bytes.nd (pi_range3 (by rfl) T.m_range (pa_cons pe_int (pa_cons (pe_op op_mul pe_int (pv 1)) (pa_cons pe_int pa_nil)))) (blkOk_by (N := ["number", "count", "shift"]) (sc := defScope s_low_bytes) (by decide +kernel)) (fun _ _ _ _ _ => pg_name (i := 2) sc_low_bytes.nd rfl (Or.inl rfl)) (fun _ _ _ _ _ => pts_nil) (fun _ _ _ _ _ => (pe_op op_and (pe_op op_shr (pv 0) (pv 2)) pe_int))))), ?_⟩
  refine s_retL (xs := (lowB n c).map V.int) (el_lcC (n := c) _ (ea_cons ev_c (ea_cons (Ev.is (ev_I ev_c (ev_var rfl) (.inl (by decide))) (congrArg V.int (a₂ := ((8 * c : Nat) : Int)) (by omega))) (ea_cons ev_c ea_nil))) (rg8 (by omega)) (by rw [List.length_map, lowB_len]) (by rw [List.length_map, lowB_len]; omega) (fun _ => rfl) fun i H1 e1 hi => ?_) k
  refine ⟨_, at_int (n := n / 2 ^ (8 * i) % 256) (by unfold lowB; rw [List.getElem?_map, List.getElem?_range hi]; rfl), Ev.is (ev_I0 (ev_I (j := ((8 * i : Nat) : Int)) (ev_var rfl) (Ev.is (ev_var rfl) (congrArg V.int (by omega))) (by show (0 : Int) ≤ _; omega)) ev_c) (congrArg V.int ?_)⟩
  rw [Int.toNat_natCast]
  exact bitAnd_maskZ _ 8
def sp_pad : Sp := fun vs H Q _ => ∃ (n : Nat), vs = [.int (n : Int)] ∧ n ≤ 1000000 ∧ RetL ((cs (padB n)).map V.int) H Q
theorem ok_padding (T : TX K mg) : FnOk P w K mg base CX0 2 T.a_padding T.d_padding ["length"] sp_pad := by
  refine T.F_padding.ok sc_padding (fun vs H Q E h => by obtain ⟨n, rfl, _⟩ := h; rfl) (fun cdv A outer s H vs Q E hr h => ?_)
  obtain ⟨n, rfl, hn, k⟩ := h
  refine ⟨_, (pss_one (ps_ret (pe_op op_cat (pe_op op_cat (pe_lst (pa_cons pe_int pa_nil)) (pe_op op_rep (pe_lst (pa_cons pe_int pa_nil)) (pe_op op_mod (pe_op op_sub pe_int (pv 0)) pe_int))) (pe_call (ok_low_bytes T) (hr.mono (by decide)) (by rfl) T.g_low_bytes T.F_low_bytes.kp T.b_low_bytes .nil pass0 (pa_cons (pe_op op_mul pe_int (pv 0)) (pa_cons pe_int pa_nil)))))), ?_⟩
  refine s_retL (xs := (cs (padB n)).map V.int) (EvL.is (xs := [V.int 128] ++ (List.replicate ((55 + 64 * n - n) % 64) (V.int 0)) ++ (lowB ((8 * n : Nat) : Int) 8).map V.int) (el_cat (EvL.r (el_cat (EvL.r (el_lst (ea_cons ev_c ea_nil) (by decide))) (EvL.r (EvL.is (el_rep (k := (((55 + 64 * n - n) % 64 : Nat) : Int)) (EvL.r (el_lst (ea_cons ev_c ea_nil) (by decide))) (Ev.is (ev_I (ev_I0 ev_c (ev_var rfl)) ev_c (by decide)) (congrArg V.int (by omega))) (by omega) (by rw [Int.toNat_natCast]; show 1 * _ ≤ _; omega)) (by rw [Int.toNat_natCast]; exact rep_one _))) (by rw [List.length_replicate]; show 1 + _ ≤ _; omega))) (EvL.r (el_call (ea_cons (Ev.is (ev_I ev_c (ev_var rfl) (.inl (by decide))) (congrArg V.int (a₂ := ((8 * n : Nat) : Int)) (by omega))) (ea_cons ev_c ea_nil)) fun H1 e Q q _ => ⟨_, 8, rfl, by decide, q⟩)) (by rw [List.length_append, List.length_replicate, List.length_map, lowB_len]; show 1 + _ + 8 ≤ _; omega)) ?_) k
  rw [lowB_N]
  unfold padB
  rw [cs_append, cs_append, List.map_append, List.map_append]
  congr 2
  unfold cs
  rw [List.map_replicate, List.map_replicate]
  rfl
def sp_words : Sp := fun vs H Q _ => ∃ (b : Addr) (bs : List Nat), vs = [.ref b] ∧ H b = some (.lst ((cs bs).map V.int)) ∧ bs.length = 64 ∧ (∀ x ∈ bs, x < 256) ∧ RetL ((wordsI bs).map V.int) H Q
theorem ok_words (T : TX K mg) : FnOk P w K mg base CX0 1 T.a_words T.d_words ["block"] sp_words := by
  refine T.F_words.ok sc_words (fun vs H Q E h => by obtain ⟨b, bs, rfl, _⟩ := h; rfl) (fun cdv A outer s H vs Q E hr h => ?_)
  obtain ⟨b, bs, rfl, hb, hl, hbs, k⟩ := h
  refine ⟨_, (pss_one (ps_ret (pe_lc (own := [("k", 1)]) (g := gName 1) (tt := tYes) rfl sc_words.nd (pi_range3 (by rfl) T.m_range (pa_cons pe_int (pa_cons pe_int (pa_cons pe_int pa_nil)))) (blkOk_by (N := ["block", "k"]) (sc := defScope s_words) (by decide +kernel)) (fun _ _ _ _ _ => pg_name (i := 1) sc_words.nd rfl (Or.inl rfl)) (fun _ _ _ _ _ => pts_nil) (fun _ _ _ _ _ => (pe_op op_or (pe_op op_or (pe_op op_or (pe_ix (r := rIxL K) ix_list (pv 0) (pv 1) (fun _ _ => rfl)) (pe_op op_shl (pe_ix (r := rIxL K) ix_list (pv 0) (pe_op op_add (pv 1) pe_int) (fun _ _ => rfl)) pe_int)) (pe_op op_shl (pe_ix (r := rIxL K) ix_list (pv 0) (pe_op op_add (pv 1) pe_int) (fun _ _ => rfl)) pe_int)) (pe_op op_shl (pe_ix (r := rIxL K) ix_list (pv 0) (pe_op op_add (pv 1) pe_int) (fun _ _ => rfl)) pe_int)))))), ?_⟩
  refine s_retL (xs := (wordsI bs).map V.int) (el_lcC (n := 16) _ (ea_cons ev_c (ea_cons ev_c (ea_cons ev_c ea_nil))) (rg4 (n := 16) (by decide)) (by rw [List.length_map, wordsI_len]) (by rw [List.length_map, wordsI_len]; decide) (fun _ => rfl) fun i H1 e1 hi => ?_) k
  have hat : ∀ (j : Nat) {σ : L2.St} {ti : TE} {n : Int}, σ[0]? = some (some (.ref b)) → Ev ti σ H1 (.int n) → n = (j : Int) → j < 64 → Ev (tOp (rIxL K) (tVar 0) ti) σ H1 (.int ((bs.getD j 0 : Nat) : Int)) := fun j σ ti n hs ht hn hj => ev_at (Ev.s (ev_var hs) (sq_of (e1 _ _ hb))) ht (at_of (j := j) hn (at_int (cs_at (by rw [List.getD_eq_getElem?_getD, List.getElem?_eq_getElem (by omega)]; rfl))))
  have hlt : ∀ j : Nat, j < 64 → bs.getD j 0 < 256 := fun j hj => by
    rw [List.getD_eq_getElem?_getD, List.getElem?_eq_getElem (by omega)]
    exact hbs _ (List.getElem_mem _)
  have h0 := hlt (4 * i) (by omega)
  have h1 := hlt (4 * i + 1) (by omega)
  have h2 := hlt (4 * i + 2) (by omega)
  have h3 := hlt (4 * i + 3) (by omega)
  have g0 := fun {σ : L2.St} {ti : TE} {n : Int} => hat (4 * i) (σ := σ) (ti := ti) (n := n)
  have g1 := fun {σ : L2.St} {ti : TE} {n : Int} => hat (4 * i + 1) (σ := σ) (ti := ti) (n := n)
  have g2 := fun {σ : L2.St} {ti : TE} {n : Int} => hat (4 * i + 2) (σ := σ) (ti := ti) (n := n)
  have g3 := fun {σ : L2.St} {ti : TE} {n : Int} => hat (4 * i + 3) (σ := σ) (ti := ti) (n := n)
  have hw : wordN bs i = bs.getD (4 * i) 0 + bs.getD (4 * i + 1) 0 * 2 ^ 8 + bs.getD (4 * i + 2) 0 * 2 ^ 16 + bs.getD (4 * i + 3) 0 * 2 ^ 24 := rfl
  refine ⟨_, at_int (n := ((wordN bs i : Nat) : Int)) (by unfold wordsI; rw [List.getElem?_map, List.getElem?_range hi]; rfl), ?_⟩
  generalize bs.getD (4 * i) 0 = b0 at *
  generalize bs.getD (4 * i + 1) 0 = b1 at *
  generalize bs.getD (4 * i + 2) 0 = b2 at *
  generalize bs.getD (4 * i + 3) 0 = b3 at *
  refine Ev.is (ev_I0 (ev_I0 (ev_I0 (g0 rfl (ev_var rfl) (by omega) (by omega)) (ev_I (g1 rfl (ev_I0 (ev_var rfl) ev_c) (by omega) (by omega)) ev_c (show CPow (b1 : Int) 8 from ⟨by decide, by decide, by omega⟩))) (ev_I (g2 rfl (ev_I0 (ev_var rfl) ev_c) (by omega) (by omega)) ev_c (show CPow (b2 : Int) 16 from ⟨by decide, by decide, by omega⟩))) (ev_I (g3 rfl (ev_I0 (ev_var rfl) ev_c) (by omega) (by omega)) ev_c (show CPow (b3 : Int) 24 from ⟨by decide, by decide, by omega⟩))) (congrArg V.int ?_)
  show Builtin.bitOr (Builtin.bitOr (Builtin.bitOr (b0 : Int) ((b1 : Int) * 2 ^ 8)) ((b2 : Int) * 2 ^ 16)) ((b3 : Int) * 2 ^ 24) = _
  have q1 : Builtin.bitOr (b0 : Int) ((b1 : Int) * 2 ^ 8) = (b0 : Int) + (b1 : Int) * 2 ^ 8 := _root_.Bits.bitOr_join (by omega) (by omega) (by omega)
  rw [q1]
  have q2 : Builtin.bitOr ((b0 : Int) + (b1 : Int) * 2 ^ 8) ((b2 : Int) * 2 ^ 16) = (b0 : Int) + (b1 : Int) * 2 ^ 8 + (b2 : Int) * 2 ^ 16 := _root_.Bits.bitOr_join (by omega) (by omega) (by omega)
  rw [q2]
  have q3 : Builtin.bitOr ((b0 : Int) + (b1 : Int) * 2 ^ 8 + (b2 : Int) * 2 ^ 16) ((b3 : Int) * 2 ^ 24) = (b0 : Int) + (b1 : Int) * 2 ^ 8 + (b2 : Int) * 2 ^ 16 + (b3 : Int) * 2 ^ 24 := _root_.Bits.bitOr_join (by omega) (by omega) (by omega)
  rw [q3, hw]
  omega
theorem q_asg4U {σ : L2.St} {H : Hp} {te : TE} {i j l m : Nat} {x y z u : V} {D : Ends} {tz : TS} (h : EvU te σ H [x, y, z, u]) (k : ∀ H1, Ex H H1 → tz D ((((σ.set i (some x)).set j (some y)).set l (some z)).set m (some u)) H1) :
    tSeq (tAsg te (gTup K 4 (gCons (gName i) (gCons (gName j) (gCons (gName l) (gCons (gName m) gNil)))))) tz D σ H := h H (Ex.refl H) _ fun p H1 _ e1 g1 => ⟨p, [x, y, z, u], rfl, st_of g1, rfl, x, [y, z, u], rfl, y, [z, u], rfl, z, [u], rfl, u, [], rfl, rfl, k H1 e1⟩
theorem s_asg4U {σ : L2.St} {H : Hp} {te : TE} {i j l m : Nat} {x y z u : V} {D : Ends} (h : EvU te σ H [x, y, z, u]) (k : ∀ H1, Ex H H1 → D.nx ((((σ.set i (some x)).set j (some y)).set l (some z)).set m (some u)) H1) :
    tAsg te (gTup K 4 (gCons (gName i) (gCons (gName j) (gCons (gName l) (gCons (gName m) gNil))))) D σ H := h H (Ex.refl H) _ fun p H1 _ e1 g1 => ⟨p, [x, y, z, u], rfl, st_of g1, rfl, x, [y, z, u], rfl, y, [z, u], rfl, z, [u], rfl, u, [], rfl, rfl, k H1 e1⟩
theorem q_asg4 {σ : L2.St} {H : Hp} {te : TE} {i j l m : Nat} {x y z u : V} {D : Ends} {tz : TS} (h : EvP K te σ H [x, y, z, u]) (k : ∀ H1, Ex H H1 → tz D ((((σ.set i (some x)).set j (some y)).set l (some z)).set m (some u)) H1) :
    tSeq (tAsg te (gTup K 4 (gCons (gName i) (gCons (gName j) (gCons (gName l) (gCons (gName m) gNil)))))) tz D σ H := h H (Ex.refl H) _ fun p H1 e1 g1 => ⟨p, [x, y, z, u], rfl, g1, rfl, x, [y, z, u], rfl, y, [z, u], rfl, z, [u], rfl, u, [], rfl, rfl, k H1 e1⟩
def sp_choice : Sp := fun vs H Q _ => ∃ (i : Nat) (b c d : Int), vs = [.int (i : Int), .int b, .int c, .int d] ∧ i < 64 ∧ ∀ p H', H p = none → Ex H H' → H' p = some (.tup [.int (fI i b c d), .int ((ixN i : Nat) : Int)]) → Q (.ref p) H'
theorem ok_choice (T : TX K mg) : FnOk P w K mg base CX0 1 T.a_choice T.d_choice ["step", "b", "c", "d"] sp_choice := by
  refine T.F_choice.ok sc_choice (fun vs H Q E h => by obtain ⟨i, b, c, d, rfl, _⟩ := h; rfl) (fun cdv A outer s H vs Q E hr h => ?_)
  obtain ⟨i, b, c, d, rfl, hi, k⟩ := h
  refine ⟨_, (pss_cons (ps_if (pt_cmpR op_lt (pv 0) pe_int (nomark _)) (pss_one (ps_ret (pe_tup (pa_cons (pe_op op_or (pe_op op_and (pv 1) (pv 2)) (pe_op op_and (pe_op op_xor (pv 1) (pe_glob (by rfl) T.c_WORD T.r_WORD)) (pv 3))) (pa_cons (pv 0) pa_nil))))) pss_nil)
      (pss_cons (ps_if (pt_cmpR op_lt (pv 0) pe_int (nomark _)) (pss_one (ps_ret (pe_tup (pa_cons (pe_op op_or (pe_op op_and (pv 3) (pv 1)) (pe_op op_and (pe_op op_xor (pv 3) (pe_glob (by rfl) T.c_WORD T.r_WORD)) (pv 2))) (pa_cons (pe_op op_mod (pe_op op_add (pe_op op_mul pe_int (pv 0)) pe_int) pe_int) pa_nil))))) pss_nil)
      (pss_cons (ps_if (pt_cmpR op_lt (pv 0) pe_int (nomark _)) (pss_one (ps_ret (pe_tup (pa_cons (pe_op op_xor (pe_op op_xor (pv 1) (pv 2)) (pv 3)) (pa_cons (pe_op op_mod (pe_op op_add (pe_op op_mul pe_int (pv 0)) pe_int) pe_int) pa_nil))))) pss_nil)
      (pss_one (ps_ret (pe_tup (pa_cons (pe_op op_xor (pv 2) (pe_op op_or (pv 1) (pe_op op_xor (pv 3) (pe_glob (by rfl) T.c_WORD T.r_WORD)))) (pa_cons (pe_op op_mod (pe_op op_mul pe_int (pv 0)) pe_int) pa_nil)))))))), ?_⟩
  have hlt : ∀ {σ : L2.St} {H1 : Hp} (n : Nat), σ[0]? = some (some (.int (i : Int))) → EvT (tTest (tOp (rI0 fun i j => .bl (decide (i < j))) (tVar 0) (tC (.int (n : Int))))) σ H1 (decide (i < n)) := fun n hs => et_test (Ev.is (ev_I0 (ev_var hs) ev_c) (congrArg V.bl (decide_eq_decide.mpr (by show (i : Int) < (n : Int) ↔ _; omega))))
  refine q_when (hlt 16 rfl) (fun hb H1 e1 => ?_) (fun hb H1 e1 => ?_)
  · have hb := of_decide_eq_true hb
    refine s_retU (xs := [.int (fI i b c d), .int ((ixN i : Nat) : Int)]) (eu_tup (ea_cons (Ev.is (ev_I0 (ev_I0 (ev_var rfl) (ev_var rfl)) (ev_I0 (ev_I0 (ev_var rfl) ev_c) (ev_var rfl))) (congrArg V.int (by unfold fI; rw [if_pos hb]))) (ea_cons (Ev.is (ev_var rfl) (congrArg V.int (by unfold ixN; rw [if_pos hb]))) ea_nil)) (Nat.le_of_ble_eq_true rfl)) fun p H2 hp e2 g2 => k p H2 (fresh_back e1 hp) (e1.trans e2) g2
  have hb := of_decide_eq_false hb
  refine q_when (hlt 32 rfl) (fun hb2 H2 e2 => ?_) (fun hb2 H2 e2 => ?_)
  · have hb2 := of_decide_eq_true hb2
    refine s_retU (xs := [.int (fI i b c d), .int ((ixN i : Nat) : Int)]) (eu_tup (ea_cons (Ev.is (ev_I0 (ev_I0 (ev_var rfl) (ev_var rfl)) (ev_I0 (ev_I0 (ev_var rfl) ev_c) (ev_var rfl))) (congrArg V.int (by unfold fI; rw [if_neg hb, if_pos hb2]))) (ea_cons (Ev.is (ev_I (ev_I0 (ev_I ev_c (ev_var rfl) (.inl (by decide))) ev_c) ev_c (by decide)) (congrArg V.int (by unfold ixN; rw [if_neg hb, if_pos hb2]; omega))) ea_nil)) (Nat.le_of_ble_eq_true rfl)) fun p H3 hp e3 g3 => k p H3 (fresh_back (e1.trans e2) hp) ((e1.trans e2).trans e3) g3
  have hb2 := of_decide_eq_false hb2
  refine q_when (hlt 48 rfl) (fun hb3 H3 e3 => ?_) (fun hb3 H3 e3 => ?_)
  · have hb3 := of_decide_eq_true hb3
    refine s_retU (xs := [.int (fI i b c d), .int ((ixN i : Nat) : Int)]) (eu_tup (ea_cons (Ev.is (ev_I0 (ev_I0 (ev_var rfl) (ev_var rfl)) (ev_var rfl)) (congrArg V.int (by unfold fI; rw [if_neg hb, if_neg hb2, if_pos hb3]))) (ea_cons (Ev.is (ev_I (ev_I0 (ev_I ev_c (ev_var rfl) (.inl (by decide))) ev_c) ev_c (by decide)) (congrArg V.int (by unfold ixN; rw [if_neg hb, if_neg hb2, if_pos hb3]; omega))) ea_nil)) (Nat.le_of_ble_eq_true rfl)) fun p H4 hp e4 g4 => k p H4 (fresh_back ((e1.trans e2).trans e3) hp) (((e1.trans e2).trans e3).trans e4) g4
  have hb3 := of_decide_eq_false hb3
  refine s_retU (xs := [.int (fI i b c d), .int ((ixN i : Nat) : Int)]) (eu_tup (ea_cons (Ev.is (ev_I0 (ev_var rfl) (ev_I0 (ev_var rfl) (ev_I0 (ev_var rfl) ev_c))) (congrArg V.int (by unfold fI; rw [if_neg hb, if_neg hb2, if_neg hb3]))) (ea_cons (Ev.is (ev_I (ev_I ev_c (ev_var rfl) (.inl (by decide))) ev_c (by decide)) (congrArg V.int (by unfold ixN; rw [if_neg hb, if_neg hb2, if_neg hb3]; omega))) ea_nil)) (Nat.le_of_ble_eq_true rfl)) fun p H4 hp e4 g4 => k p H4 (fresh_back ((e1.trans e2).trans e3) hp) (((e1.trans e2).trans e3).trans e4) g4
theorem ev_rot (T : TX K mg) {σ : L2.St} {H : Hp} {t1 t2 : TE} {x y : Int} {i : Nat} (hi : i < 64) (h1 : Ev t1 σ H (.int x)) (h2 : Ev t2 σ H (.int y)) (hx : x = ((i / 16 : Nat) : Int)) (hy : y = ((i % 4 : Nat) : Int)) : Ev (tOp (rIxT K) (tOp (rIxT K) (tC (.ref T.A_ROTATIONS)) t1) t2) σ H (.int (rotI i)) := by
  have hj : i % 4 < 4 := by omega
  have row : ∀ (n : Nat) (A : Addr) (rs : List Int), i / 16 = n → rotL.getD n [] = rs → rs.length = 4 → ([V.ref T.A_ROTATIONS_0, V.ref T.A_ROTATIONS_1, V.ref T.A_ROTATIONS_2, V.ref T.A_ROTATIONS_3])[n]? = some (.ref A) → (∀ H, SqT K H A (rs.map V.int)) → Ev (tOp (rIxT K) (tOp (rIxT K) (tC (.ref T.A_ROTATIONS)) t1) t2) σ H (.int (rotI i)) := fun n A rs hn hr hl ha hS =>
    ev_atT (ev_atT ev_c (T.s_ROTATIONS H) h1 (at_of (j := n) (by omega) ha)) (hS H) h2 (at_of (j := i % 4) hy (at_int (by unfold rotI; rw [hn, hr]; exact gl_get (by omega))))
  have h4 : i / 16 < 4 := by omega
  rcases (show i / 16 = 0 ∨ i / 16 = 1 ∨ i / 16 = 2 ∨ i / 16 = 3 by omega) with h | h | h | h
  · exact row 0 _ _ h rfl rfl rfl T.s_ROTATIONS_0
  · exact row 1 _ _ h rfl rfl rfl T.s_ROTATIONS_1
  · exact row 2 _ _ h rfl rfl rfl T.s_ROTATIONS_2
  · exact row 3 _ _ h rfl rfl rfl T.s_ROTATIONS_3
def sp_block (K : PySem.W.Frag) : Sp := fun vs H Q _ => ∃ (st wa : Addr) (s : W4) (ws : List Int), vs = [.ref st, .ref wa] ∧ SqT K H st (s.l.map V.int) ∧ H wa = some (.lst (ws.map V.int)) ∧ ws.length = 16 ∧ ∀ p H', H p = none → Ex H H' → H' p = some (.tup ((blkI s ws).l.map V.int)) → Q (.ref p) H'
theorem ok_after_block (T : TX K mg) : FnOk P w K mg base CX0 2 T.a_after_block T.d_after_block ["state", "words"] (sp_block K) := by
  refine T.F_after_block.ok sc_after_block (fun vs H Q E h => by obtain ⟨st, wa, s, ws, rfl, _⟩ := h; rfl) (fun cdv A outer s0 H vs Q E hr h => ?_)
  obtain ⟨st, wa, s, ws, rfl, hs, hw, hwl, k⟩ := h
  refine ⟨_, (pss_cons (ps_asg (pv 0) (pg_tup rfl (pgs_cons (pg_name (i := 2) sc_after_block.nd rfl (Or.inl rfl)) (pgs_cons (pg_name (i := 3) sc_after_block.nd rfl (Or.inl rfl)) (pgs_cons (pg_name (i := 4) sc_after_block.nd rfl (Or.inl rfl)) (pgs_cons (pg_name (i := 5) sc_after_block.nd rfl (Or.inl rfl)) pgs_nil))))))
      (pss_cons (ps_for PassesOwn.never rfl (pi_range1 (by rfl) T.m_range (pa_cons pe_int pa_nil)) (pg_name (i := 6) sc_after_block.nd rfl (Or.inl rfl)) (pss_cons (ps_asg (pe_call (ok_choice T) (hr.mono (by decide)) (by rfl) T.g_choice T.F_choice.kp T.b_choice .nil pass0 (pa_cons (pv 6) (pa_cons (pv 3) (pa_cons (pv 4) (pa_cons (pv 5) pa_nil))))) (pg_tup rfl (pgs_cons (pg_name (i := 7) sc_after_block.nd rfl (Or.inl rfl)) (pgs_cons (pg_name (i := 8) sc_after_block.nd rfl (Or.inl rfl)) pgs_nil))))
        (pss_cons (ps_set (i := 9) sc_after_block.nd rfl (Or.inl rfl) (pe_op op_and (pe_op op_add (pe_op op_add (pe_op op_add (pv 2) (pv 7)) (pe_ix (r := rIxT K) ix_tup (pe_glob (v := V.ref T.A_CONSTANTS) (by rfl) T.c_CONSTANTS rfl) (pv 6) (fun _ _ => rfl))) (pe_ix (r := rIxL K) ix_list (pv 1) (pv 8) (fun _ _ => rfl))) (pe_glob (by rfl) T.c_WORD T.r_WORD)))
        (pss_cons (ps_set (i := 10) sc_after_block.nd rfl (Or.inl rfl) (pe_ix (r := rIxT K) ix_tup (pe_ix (r := rIxT K) ix_tup (pe_glob (v := V.ref T.A_ROTATIONS) (by rfl) T.c_ROTATIONS rfl) (pe_op op_fdiv (pv 6) pe_int) (fun _ _ => rfl)) (pe_op op_mod (pv 6) pe_int) (fun _ _ => rfl)))
        (pss_cons (ps_set (i := 11) sc_after_block.nd rfl (Or.inl rfl) (pe_op op_or (pe_op op_shl (pv 9) (pv 10)) (pe_op op_shr (pv 9) (pe_op op_sub pe_int (pv 10)))))
        (pss_one (ps_asg (pe_tup (pa_cons (pv 5) (pa_cons (pe_op op_and (pe_op op_add (pv 3) (pv 11)) (pe_glob (by rfl) T.c_WORD T.r_WORD)) (pa_cons (pv 3) (pa_cons (pv 4) pa_nil))))) (pg_tup rfl (pgs_cons (pg_name (i := 2) sc_after_block.nd rfl (Or.inl rfl)) (pgs_cons (pg_name (i := 3) sc_after_block.nd rfl (Or.inl rfl)) (pgs_cons (pg_name (i := 4) sc_after_block.nd rfl (Or.inl rfl)) (pgs_cons (pg_name (i := 5) sc_after_block.nd rfl (Or.inl rfl)) pgs_nil))))))))))))
      (pss_one (ps_ret (pe_callTy call_tuple_of (by rfl) T.m_tuple PyProof.Rows.boot_tuple (pa_cons (pe_lc (own := [("old", 12), ("new", 13)]) (g := (gTup K 2 (gCons (gName 12) (gCons (gName 13) gNil)))) (tt := tYes) rfl sc_after_block.nd (RZ.pi_zipA (by rfl) T.m_zip (pa_cons (pv 0) (pa_cons (pe_tup (pa_cons (pv 2) (pa_cons (pv 3) (pa_cons (pv 4) (pa_cons (pv 5) pa_nil))))) pa_nil))) (blkOk_by (N := ["state", "words", "a", "b", "c", "d", "step", "chosen", "index", "mixed", "turn", "turned", "old", "new"]) (sc := defScope s_after_block) (by decide +kernel)) (fun _ _ _ _ _ => (pg_tup rfl (pgs_cons (pg_name (i := 12) sc_after_block.nd rfl (Or.inl rfl)) (pgs_cons (pg_name (i := 13) sc_after_block.nd rfl (Or.inl rfl)) pgs_nil)))) (fun _ _ _ _ _ => pts_nil) (fun _ _ _ _ _ => (pe_op op_and (pe_op op_add (pv 12) (pv 13)) (pe_glob (by rfl) T.c_WORD T.r_WORD)))) pa_nil)))))), ?_⟩
  refine q_asg4 (Ev.p (ev_var rfl) hs) fun H1 e1 => ?_
  refine q_forR1 (n := 64) (ea_cons ev_c ea_nil) (by decide) (fun i σ' H' => ∃ (z6 z7 z8 z9 z10 z11 : Option V), σ' = [some (.ref st), some (.ref wa), some (.int (itI ws s i).a), some (.int (itI ws s i).b), some (.int (itI ws s i).c), some (.int (itI ws s i).d), z6, z7, z8, z9, z10, z11, none, none] ∧ Ex H H') (fun H2 e2 => ⟨none, none, none, none, none, none, rfl, e1.trans e2⟩) ?_ ?_
  · rintro i σ' H' hi ⟨z6, z7, z8, z9, z10, z11, rfl, ex⟩
    have hi : i < 64 := by omega
    have hix := ixN_lt hi
    have hrot := rotI_le hi
    have hstep : itI ws s (i + 1) = stepI ws i (itI ws s i) := rfl
    rw [hstep]
    generalize itI ws s i = u at *
    refine q_asgT (fun x y H2 => x = .int (fI i u.b u.c u.d) ∧ y = .int ((ixN i : Nat) : Int) ∧ Ex H' H2) (fun Q q => (ea_cons (ev_var rfl) (ea_cons (ev_var rfl) (ea_cons (ev_var rfl) (ea_cons (ev_var rfl) ea_nil))) : EvA _ _ _ [.int (i : Int), .int u.b, .int u.c, .int u.d]) H' (Ex.refl _) _ fun H2 e2 => ⟨i, _, _, _, rfl, hi, fun p H3 hp e3 g3 => q p _ _ H3 ⟨rfl, rfl, e2.trans e3⟩ (st_of g3)⟩) ?_
    rintro _ _ H2 ⟨rfl, rfl, e2⟩
    obtain ⟨m, hm⟩ : ∃ m, m = Builtin.bitAnd (u.a + fI i u.b u.c u.d + cstL.getD i 0 + ws.getD (ixN i) 0) 4294967295 := ⟨_, rfl⟩
    have hm2 : m = (u.a + fI i u.b u.c u.d + cstL.getD i 0 + ws.getD (ixN i) 0) % 2 ^ 32 := hm.trans (bitAnd_maskZ _ 32)
    have hmb : 0 ≤ m ∧ m < 4294967296 := by rw [hm2]; omega
    refine q_asg (v := .int m) (Ev.is (ev_I0 (ev_I0 (ev_I0 (ev_I0 (ev_var rfl) (ev_var rfl)) (ev_atT ev_c (T.s_CONSTANTS _) (ev_var rfl) (at_of (j := i) rfl (show _ = some (V.int (cstL.getD i 0)) from at_int (ns := cstL) (gl_get hi))))) (ev_at (Ev.s (ev_var rfl) (sq_of ((ex.trans e2) _ _ hw))) (ev_var rfl) (at_of rfl (at_int (gl_get (by omega)))))) ev_c) (congrArg V.int hm.symm)) fun H3 e3 => ?_
    refine q_asg (v := .int (rotI i)) (ev_rot T hi (ev_I (ev_var rfl) ev_c ⟨by decide, by decide⟩) (ev_I (ev_var rfl) ev_c (by decide)) (by omega) (by omega)) fun H4 e4 => ?_
    refine q_asg (v := .int (Builtin.bitOr (m * 2 ^ (rotI i).toNat) (m / 2 ^ (32 - rotI i).toNat))) (ev_I0 (ev_I (ev_var rfl) (ev_var rfl) (show CPow m (rotI i) from ⟨by omega, by omega, by omega⟩)) (ev_I (ev_var rfl) (ev_I0 ev_c (ev_var rfl)) (by show (0 : Int) ≤ _; omega))) fun H5 e5 => ?_
    refine s_asg4U (x := .int u.d) (y := .int (stepI ws i u).b) (z := .int u.b) (u := .int u.c) (eu_tup (ea_cons (ev_var rfl) (ea_cons (Ev.is (ev_I0 (ev_I0 (ev_var rfl) (ev_var rfl)) ev_c) (congrArg V.int (by rw [hm]; rfl))) (ea_cons (ev_var rfl) (ea_cons (ev_var rfl) ea_nil)))) (Nat.le_of_ble_eq_true rfl)) fun H6 e6 => ⟨_, _, _, _, _, _, rfl, (ex.trans e2).trans ((e3.trans e4).trans (e5.trans e6))⟩
  · rintro σ' H' ⟨z6, z7, z8, z9, z10, z11, rfl, ex⟩
    rw [show (64 : Int).toNat = 64 from rfl]
    have hblk : blkI s ws = ⟨Builtin.bitAnd (s.a + (itI ws s 64).a) 4294967295, Builtin.bitAnd (s.b + (itI ws s 64).b) 4294967295, Builtin.bitAnd (s.c + (itI ws s 64).c) 4294967295, Builtin.bitAnd (s.d + (itI ws s 64).d) 4294967295⟩ := rfl
    generalize itI ws s 64 = u at *
    refine s_retU (xs := (blkI s ws).l.map V.int) (eu_tupOf (EvR.s (EvL.r (el_lcZT (xs := s.l.map V.int) (ys := u.l.map V.int) _ (Ev.p (ev_var rfl) (ex_t ex hs)) (EvU.p (eu_tup (ea_cons (ev_var rfl) (ea_cons (ev_var rfl) (ea_cons (ev_var rfl) (ea_cons (ev_var rfl) ea_nil)))) (Nat.le_of_ble_eq_true rfl))) rfl (Nat.le_of_ble_eq_true rfl) (fun _ _ => rfl) fun i x y H1 e1 hx hy => ?_)))) fun p H1 hp e1 g1 => k p H1 (fresh_back ex hp) (ex.trans e1) g1
    rw [hblk]
    match i, hx, hy with
    | 0, hx, hy => obtain rfl := Option.some.inj hx; obtain rfl := Option.some.inj hy; exact ⟨_, rfl, ev_I0 (ev_I0 (ev_var rfl) (ev_var rfl)) ev_c⟩
    | 1, hx, hy => obtain rfl := Option.some.inj hx; obtain rfl := Option.some.inj hy; exact ⟨_, rfl, ev_I0 (ev_I0 (ev_var rfl) (ev_var rfl)) ev_c⟩
    | 2, hx, hy => obtain rfl := Option.some.inj hx; obtain rfl := Option.some.inj hy; exact ⟨_, rfl, ev_I0 (ev_I0 (ev_var rfl) (ev_var rfl)) ev_c⟩
    | 3, hx, hy => obtain rfl := Option.some.inj hx; obtain rfl := Option.some.inj hy; exact ⟨_, rfl, ev_I0 (ev_I0 (ev_var rfl) (ev_var rfl)) ev_c⟩
    | n + 4, hx, hy => cases hx
theorem s_asgC2L {σ : L2.St} {H : Hp} {t1 t2 : TE} {x : V} {xs : List V} {sp : Sp} {dvs : List V} {E : XK} {D : Ends} {i : Nat} (h1 : Ev t1 σ H x) (h2 : EvL t2 σ H xs) (k : ∀ p H1, Ex H H1 → H1 p = some (.lst xs) → sp ([x, .ref p] ++ dvs) H1 (fun y H2 => D.nx (σ.set i (some y)) H2) E) : tAsg (tCall sp dvs E (tCons t1 (tCons t2 tNil))) (gName i) D σ H :=
  h1 H (Ex.refl H) _ fun H1 e1 => h2 H1 e1 _ fun p H2 _ e2 g2 => k p H2 (e1.trans e2) g2
theorem el_words {σ : L2.St} {H : Hp} {tl : TE} {E : XK} {bs : List Nat} (h : EvL tl σ H ((cs bs).map V.int)) (hl : bs.length = 64) (hb : ∀ x ∈ bs, x < 256) : EvL (tCall sp_words [] E (tCons tl tNil)) σ H ((wordsI bs).map V.int) := fun H1 e Q q =>
  h H1 e _ fun p H2 _ e2 g2 => ⟨p, bs, rfl, g2, hl, hb, fun r H3 hr e3 g3 => q r H3 (fresh_back e2 hr) (e2.trans e3) g3⟩
def sp_blocks (K : PySem.W.Frag) : Sp := fun vs H Q _ => ∃ (st d : Addr) (s : W4) (ds : List Nat) (n : Nat), vs = [.ref st, .ref d, .int ((64 * n : Nat) : Int)] ∧ SqT K H st (s.l.map V.int) ∧ H d = some (.lst ((cs ds).map V.int)) ∧ (∀ x ∈ ds, x < 256) ∧ 64 * n ≤ ds.length ∧ ds.length ≤ 90000 ∧ ∀ t H', Ex H H' → SqT K H' t ((blksI s ds n).l.map V.int) → Q (.ref t) H'
theorem ok_after_blocks (T : TX K mg) : FnOk P w K mg base CX0 3 T.a_after_blocks T.d_after_blocks ["state", "data", "stop"] (sp_blocks K) := by
  refine T.F_after_blocks.ok sc_after_blocks (fun vs H Q E h => by obtain ⟨st, d, s, ds, n, rfl, _⟩ := h; rfl) (fun cdv A outer s0 H vs Q E hr h => ?_)
  obtain ⟨st, d, s, ds, n, rfl, hs, hd, hb, hn, hl, k⟩ := h
  refine ⟨_, (pss_cons (ps_for PassesOwn.never rfl (pi_range3 (by rfl) T.m_range (pa_cons pe_int (pa_cons (pv 2) (pa_cons pe_int pa_nil)))) (pg_name (i := 3) sc_after_blocks.nd rfl (Or.inl rfl)) (pss_one (ps_set (i := 0) sc_after_blocks.nd rfl (Or.inl rfl) (pe_call (ok_after_block T) (hr.mono (by decide)) (by rfl) T.g_after_block T.F_after_block.kp T.b_after_block .nil pass0 (pa_cons (pv 0) (pa_cons (pe_call (ok_words T) (hr.mono (by decide)) (by rfl) T.g_words T.F_words.kp T.b_words .nil pass0 (pa_cons (pe_slice (r := rSlL K) sl_list (pv 1) (po_some (pv 3)) (po_some (pe_op op_add (pv 3) pe_int))) pa_nil)) pa_nil))))))
      (pss_one (ps_ret (pv 0)))), ?_⟩
  refine q_forRC (n := n) (ea_cons ev_c (ea_cons (ev_var rfl) (ea_cons ev_c ea_nil))) (rg64 (by omega)) (fun i σ' H' => ∃ (t : Addr) (z3 : Option V), σ' = [some (.ref t), some (.ref d), some (.int ((64 * n : Nat) : Int)), z3] ∧ Ex H H' ∧ SqT K H' t ((blksI s ds i).l.map V.int)) (fun H1 e1 => ⟨st, none, rfl, e1, ex_t e1 hs⟩) ?_ ?_
  · rintro i σ' H' hi ⟨t, z3, rfl, ex, ht⟩
    have hlen : ((ds.drop (64 * i)).take 64).length = 64 := by rw [List.length_take, List.length_drop]; omega
    refine s_asgC2L (x := .ref t) (ev_var rfl) (el_words (bs := (ds.drop (64 * i)).take 64) (EvL.is (el_mid (ns := cs ds) (i := 64 * i) (j := 64 * i + 64) (Ev.s (ev_var rfl) (sq_of (ex _ _ hd))) (Ev.is (ev_var rfl) (congrArg V.int (by omega))) (Ev.is (ev_I0 (ev_var rfl) ev_c) (congrArg V.int (by omega)))) (by rw [cs_drop, cs_take, show 64 * i + 64 - 64 * i = 64 by omega])) hlen (fun x hx => hb x (List.mem_of_mem_drop (List.mem_of_mem_take hx)))) fun p H1 e1 g1 => ⟨t, p, blksI s ds i, wordsI ((ds.drop (64 * i)).take 64), rfl, ex_t e1 ht, g1, wordsI_len _, fun r H2 hr e2 g2 => ⟨r, _, rfl, ex.trans (e1.trans e2), st_of g2⟩⟩
  · rintro σ' H' ⟨t, z3, rfl, ex, ht⟩
    refine s_ret (v := .ref t) (ev_var rfl) fun H1 e1 => k t H1 (ex.trans e1) (ex_t e1 ht)
theorem s_fldL {σ : L2.St} {H : Hp} {to tv : TE} {a C dx : Addr} {fs : List (Str × V)} {f : Str} {xs : List V} {D : Ends} (c : Cls K C) (hn : NoAttr K C f) (hv : EvL tv σ H xs) (h : ∀ H1, Ex H H1 → Ev to σ H1 (.ref a)) (hx : H a = some (.ins C dx fs)) (hl : fs.length < 1000) (k : ∀ p H1, H p = none → Ex H H1 → H1 p = some (.lst xs) → D.nx σ (upd H1 a (.ins C dx (putF f (.ref p) fs)))) : sFld K to tv f D σ H :=
  hv H (Ex.refl H) _ fun p H1 hp e1 g1 => h H1 e1 H1 (Ex.refl H1) _ fun H2 e2 => ⟨a, C, dx, fs, rfl, (e1.trans e2) _ _ hx, c, hn, hl, k p H2 hp (e1.trans e2) (e2 _ _ g1)⟩
theorem q_fldC {σ : L2.St} {H : Hp} {to : TE} {tA : TA} {f : Str} {vs dvs : List V} {sp : Sp} {E : XK} {D : Ends} {tz : TS} (ha : EvA tA σ H vs) (k : ∀ H1, Ex H H1 → sp (vs ++ dvs) H1 (fun y H2 => to σ H2 fun x H3 => ∃ a C dx fs, x = .ref a ∧ H3 a = some (.ins C dx fs) ∧ Cls K C ∧ NoAttr K C f ∧ fs.length < 1000 ∧ tz D σ (upd H3 a (.ins C dx (putF f y fs)))) E) :
    tSeq (sFld K to (tCall sp dvs E tA) f) tz D σ H := ha H (Ex.refl H) _ fun H1 e1 => k H1 e1
def mF (st r : Addr) (n : Nat) : List (Str × V) := [("_state", .ref st), ("_length", .int (n : Int)), ("_rest", .ref r)]
def MdAt (K : PySem.W.Frag) (C : Addr) (H : Hp) (a r : Addr) (ds : List Nat) : Prop := ∃ dx st, H a = some (.ins C dx (mF st r ds.length)) ∧ SqT K H st ((stt ds).l.map V.int) ∧ H r = some (.lst ((cs (rest ds)).map V.int))
theorem MdAt.ex {C a r : Addr} {H H1 : Hp} {ds : List Nat} (e : Ex H H1) (h : MdAt K C H a r ds) : MdAt K C H1 a r ds := by
  obtain ⟨dx, st, h1, h2, h3⟩ := h
  exact ⟨dx, st, e _ _ h1, ex_t e h2, e _ _ h3⟩
theorem sqt_upd {H : Hp} {t a : Addr} {xs : List V} {o : HO} {C dx : Addr} {fs : List (Str × V)} (h : SqT K H t xs) (ha : H a = some (.ins C dx fs)) : SqT K (upd H a o) t xs := by
  rcases h with h | h
  · refine .inl ?_
    rcases h with h | ⟨z, h⟩
    · exact .inl (by rw [upd_ne (fun e => by rw [e, ha] at h; cases h)]; exact h)
    · exact .inr ⟨z, by rw [upd_ne (fun e => by rw [e, ha] at h; cases h)]; exact h⟩
  · exact .inr h
def sp_minit (K : PySem.W.Frag) (C : Addr) : Sp := fun vs H Q _ => ∃ (a dx : Addr), vs = [.ref a] ∧ H a = some (.ins C dx []) ∧ ∀ r H', H r = none → FrA a H H' → MdAt K C H' a r [] → Q .non H'
theorem ok_Md5_init (T : TX K mg) : FnOk P w K mg base CX0 1 T.a_Md5_init T.d_Md5_init ["self"] (sp_minit K T.C_Md5) := by
  refine T.F_Md5_init.ok sc_Md5_init (fun vs H Q E h => by obtain ⟨a, dx, rfl, _⟩ := h; rfl) (fun cdv A outer s0 H vs Q E hr h => ?_)
  obtain ⟨a, dx, rfl, ha, k⟩ := h
  refine ⟨_, (pss_cons (ps_fld (pv 0) (pe_glob (v := V.ref T.A_START) (by rfl) T.c_START rfl) rfl)
      (pss_cons (ps_fld (pv 0) pe_int rfl)
      (pss_one (ps_fld (pv 0) (pe_lst pa_nil) rfl)))), ?_⟩
  refine q_fld T.cl_Md5 T.n_Md5_state (v := .ref T.A_START) ev_c (ev_var rfl) ha (by decide) fun H1 e1 => ?_
  refine q_fld T.cl_Md5 T.n_Md5_length (v := .int 0) ev_c (ev_var rfl) upd_same (Nat.le_of_ble_eq_true rfl) fun H2 e2 => ?_
  refine s_fldL (fs := [("_state", .ref T.A_START), ("_length", .int 0)]) (xs := []) T.cl_Md5 T.n_Md5_rest (el_lst ea_nil (by decide)) (fun _ _ => ev_var rfl) upd_same (Nat.le_of_ble_eq_true rfl) fun p H3 hp e3 g3 => ?_
  have npa : p ≠ a := (fresh_ne hp upd_same).symm
  exact k p _ (by
    cases hc : H p with
    | none => rfl
    | some o => rw [(((FrA.ex e1).upd (o := .ins T.C_Md5 dx (putF "_state" (.ref T.A_START) []))).trans (FrA.ex e2)).upd p o npa hc] at hp; cases hp) (((FrA.ex e1).upd.trans (FrA.ex e2)).upd.trans (FrA.ex e3)).upd ⟨dx, T.A_START, upd_same, T.s_START _, by rw [upd_ne npa]; exact g3⟩
def sp_mfeed (K : PySem.W.Frag) (C : Addr) : Sp := fun vs H Q _ => ∃ (a b r : Addr) (ds es : List Nat), vs = [.ref a, .ref b] ∧ MdAt K C H a r ds ∧ H b = some (.lst ((cs es).map V.int)) ∧ (∀ x ∈ ds, x < 256) ∧ (∀ x ∈ es, x < 256) ∧ es.length ≤ 80000 ∧ ∀ r' H', H r' = none → FrA a H H' → MdAt K C H' a r' (ds ++ es) → Q .non H'
theorem ok_Md5_feed (T : TX K mg) : FnOk P w K mg base CX0 4 T.a_Md5_feed T.d_Md5_feed ["self", "data"] (sp_mfeed K T.C_Md5) := by
  refine T.F_Md5_feed.ok sc_Md5_feed (fun vs H Q E h => by obtain ⟨a, b, r, ds, es, rfl, _⟩ := h; rfl) (fun cdv A outer s0 H vs Q E hr h => ?_)
  obtain ⟨a, b, r, ds, es, rfl, ⟨dx, st, ha, hst, hrs⟩, hb, hds, hes, hl, k⟩ := h
  refine ⟨_, (pss_cons (ps_fldaug (pv 0) (pe_callB (r := rLenS K) call_len_seq (by rfl) T.m_len PySem.boot_len (pa_cons (pv 1) pa_nil)) in_add)
      (pss_cons (ps_set (i := 2) sc_Md5_feed.nd rfl (Or.inl rfl) (pe_op op_cat (pe_fld (pv 0) rfl) (pv 1)))
      (pss_cons (ps_set (i := 3) sc_Md5_feed.nd rfl (Or.inl rfl) (pe_op op_mul (pe_op op_fdiv (pe_callB (r := rLenS K) call_len_seq (by rfl) T.m_len PySem.boot_len (pa_cons (pv 2) pa_nil)) pe_int) pe_int))
      (pss_cons (ps_fld (pv 0) (pe_call (ok_after_blocks T) (hr.mono (by decide)) (by rfl) T.g_after_blocks T.F_after_blocks.kp T.b_after_blocks .nil pass0 (pa_cons (pe_fld (pv 0) rfl) (pa_cons (pv 2) (pa_cons (pv 3) pa_nil)))) rfl)
      (pss_one (ps_fld (pv 0) (pe_slice (r := rSlL K) sl_list (pv 2) (po_some (pv 3)) po_none) rfl)))))), ?_⟩
  have nba : b ≠ a := fun z => by rw [z, ha] at hb; cases hb
  have nra : r ≠ a := fun z => by rw [z, ha] at hrs; cases hrs
  have hrl := rest_len ds
  refine q_fldaugI T.cl_Md5 T.n_Md5_length (ev_var rfl) ha rfl (Ev.is (ev_lenS (Ev.s (ev_var rfl) (sq_of hb))) (by rw [List.length_map, cs_len])) (Nat.le_of_ble_eq_true rfl) fun H1 e1 => ?_
  have ha1 : (upd H1 a (.ins T.C_Md5 dx (putF "_length" (.int ((ds.length : Int) + (es.length : Int))) (mF st r ds.length)))) a = some (.ins T.C_Md5 dx (mF st r (ds ++ es).length)) := by
    rw [upd_same, List.length_append]
    unfold mF
    rw [Int.natCast_add]
    rfl
  have hF1 : FrA a H (upd H1 a (.ins T.C_Md5 dx (putF "_length" (.int ((ds.length : Int) + (es.length : Int))) (mF st r ds.length)))) := (FrA.ex e1).upd
  have hst1 := sqt_upd (o := .ins T.C_Md5 dx (putF "_length" (.int ((ds.length : Int) + (es.length : Int))) (mF st r ds.length))) (ex_t e1 hst) (e1 _ _ ha)
  generalize upd H1 a (.ins T.C_Md5 dx (putF "_length" (.int ((ds.length : Int) + (es.length : Int))) (mF st r ds.length))) = H2 at *
  have hb2 := hF1 _ _ nba hb
  have hr2 := hF1 _ _ nra hrs
  refine q_asgL (xs := (cs (rest ds ++ es)).map V.int) (EvL.is (el_cat (Ev.r (ev_fld T.cl_Md5 T.n_Md5_rest (v := .ref r) (ev_var rfl) ha1 rfl) hr2) (Ev.r (ev_var rfl) hb2) (by rw [List.length_map, List.length_map, cs_len, cs_len]; omega)) (by rw [cs_append, List.map_append])) fun p H3 hp e3 g3 => ?_
  have hwl : (rest ds ++ es).length ≤ 81000 := by rw [List.length_append]; omega
  have hwb : ∀ x ∈ rest ds ++ es, x < 256 := fun x hx => by
    rcases List.mem_append.mp hx with h | h
    · exact hds x (List.mem_of_mem_drop h)
    · exact hes x h
  have hfr := feed_rest ds es
  have hfs := feed_stt ds es
  generalize rest ds ++ es = wt at *
  refine q_asg (v := .int ((64 * (wt.length / 64) : Nat) : Int)) (Ev.is (ev_I (ev_I (ev_lenS (Ev.s (ev_var rfl) (sq_of g3))) ev_c ⟨by decide, by decide⟩) ev_c (.inr (by decide))) (congrArg V.int (by rw [List.length_map, cs_len]; omega))) fun H4 e4 => ?_
  have e34 := e3.trans e4
  refine q_fldC (vs := [.ref st, .ref p, .int ((64 * (wt.length / 64) : Nat) : Int)]) (ea_cons (ev_fld T.cl_Md5 T.n_Md5_state (v := .ref st) (ev_var rfl) (e34 _ _ ha1) rfl) (ea_cons (ev_var rfl) (ea_cons (ev_var rfl) ea_nil))) fun H5 e5 => ⟨st, p, stt ds, wt, wt.length / 64, rfl, ex_t (e34.trans e5) hst1, (e4.trans e5) _ _ g3, hwb, by omega, by omega, fun t H6 e6 ht6 => ?_⟩
  have e36 := e34.trans (e5.trans e6)
  refine (ev_var rfl : Ev (tVar 0) _ H6 (.ref a)) H6 (Ex.refl _) _ fun H7 e7 => ⟨a, T.C_Md5, dx, _, rfl, (e36.trans e7) _ _ ha1, T.cl_Md5, T.n_Md5_state, Nat.le_of_ble_eq_true rfl, ?_⟩
  have npa : p ≠ a := fun z => by rw [z] at hp; rw [hp] at ha1; cases ha1
  have ha8 : (upd H7 a (.ins T.C_Md5 dx (putF "_state" (.ref t) (mF st r (ds ++ es).length)))) a = some (.ins T.C_Md5 dx (mF t r (ds ++ es).length)) := by rw [upd_same]; rfl
  have hF8 : FrA a H2 (upd H7 a (.ins T.C_Md5 dx (putF "_state" (.ref t) (mF st r (ds ++ es).length)))) := (FrA.ex (e36.trans e7)).upd
  have g8 : (upd H7 a (.ins T.C_Md5 dx (putF "_state" (.ref t) (mF st r (ds ++ es).length)))) p = some (.lst ((cs wt).map V.int)) := by rw [upd_ne npa]; exact (((e4.trans e5).trans e6).trans e7) _ _ g3
  have ht8 := sqt_upd (o := .ins T.C_Md5 dx (putF "_state" (.ref t) (mF st r (ds ++ es).length))) (ex_t e7 ht6) ((e36.trans e7) _ _ ha1)
  generalize upd H7 a (.ins T.C_Md5 dx (putF "_state" (.ref t) (mF st r (ds ++ es).length))) = H8 at *
  refine s_fldL (xs := (cs (rest (ds ++ es))).map V.int) T.cl_Md5 T.n_Md5_rest (EvL.is (el_from (i := 64 * (wt.length / 64)) (Ev.s (ev_var rfl) (sq_of g8)) (ev_var rfl)) (by rw [hfr, cs_drop])) (fun _ _ => ev_var rfl) ha8 (Nat.le_of_ble_eq_true rfl) fun u H9 hu e9 g9 => ?_
  have nua : u ≠ a := fun z => by rw [z] at hu; rw [hu] at ha8; cases ha8
  exact k u _ (by
    cases hc : H u with
    | none => rfl
    | some o => rw [hF8 _ _ nua (hF1 _ _ nua hc)] at hu; cases hu) ((hF1.trans hF8).trans (FrA.ex e9)).upd ⟨dx, t, by rw [upd_same]; rfl, sqt_upd (ex_t e9 (by rw [hfs]; exact ht8)) (e9 _ _ ha8), by rw [upd_ne nua]; exact g9⟩
def sp_mdig (K : PySem.W.Frag) (C : Addr) : Sp := fun vs H Q _ => ∃ (a r : Addr) (ds : List Nat), vs = [.ref a] ∧ MdAt K C H a r ds ∧ (∀ x ∈ ds, x < 256) ∧ ds.length ≤ 80000 ∧ RetL ((digI ds).map V.int) H Q
theorem ok_Md5_digest (T : TX K mg) : FnOk P w K mg base CX0 4 T.a_Md5_digest T.d_Md5_digest ["self"] (sp_mdig K T.C_Md5) := by
  refine T.F_Md5_digest.ok sc_Md5_digest (fun vs H Q E h => by obtain ⟨a, r, ds, rfl, _⟩ := h; rfl) (fun cdv A outer s0 H vs Q E hr h => ?_)
  obtain ⟨a, r, ds, rfl, ⟨dx, st, ha, hst, hrs⟩, hds, hl, k⟩ := h
  refine ⟨_, (pss_cons (ps_set (i := 1) sc_Md5_digest.nd rfl (Or.inl rfl) (pe_op op_cat (pe_fld (pv 0) rfl) (pe_call (ok_padding T) (hr.mono (by decide)) (by rfl) T.g_padding T.F_padding.kp T.b_padding .nil pass0 (pa_cons (pe_fld (pv 0) rfl) pa_nil))))
      (pss_cons (ps_set (i := 2) sc_Md5_digest.nd rfl (Or.inl rfl) (pe_call (ok_after_blocks T) (hr.mono (by decide)) (by rfl) T.g_after_blocks T.F_after_blocks.kp T.b_after_blocks .nil pass0 (pa_cons (pe_fld (pv 0) rfl) (pa_cons (pv 1) (pa_cons (pe_callB (r := rLenS K) call_len_seq (by rfl) T.m_len PySem.boot_len (pa_cons (pv 1) pa_nil)) pa_nil)))))
      (pss_one (ps_ret (pe_lc2 (wi1 := iList K (tCall sp_low [] E0 (tCons (tVar 3) (tCons (tC (.int 4)) tNil)))) (own := [("word", 3), ("byte", 4)]) (vs1 := [4]) (g := gName 3) (tt := tYes) (g1 := gName 4) (tt1 := tYes) rfl sc_Md5_digest.nd (pi_tup (pv 2)) (blkOk_by (N := ["self", "padded", "state", "word", "byte"]) (sc := defScope s_Md5_digest) (by decide +kernel)) (by decide) (fun _ _ _ _ _ => pg_name (i := 3) sc_Md5_digest.nd rfl (Or.inl rfl)) (fun _ _ _ _ _ => pts_nil) (fun _ _ _ _ _ => (pi_list (pe_call (ok_low_bytes T) (hr.mono (by decide)) (by rfl) T.g_low_bytes T.F_low_bytes.kp T.b_low_bytes .nil pass0 (pa_cons (pv 3) (pa_cons pe_int pa_nil))))) (fun _ _ _ _ _ => pg_name (i := 4) sc_Md5_digest.nd rfl (Or.inl rfl)) (fun _ _ _ _ _ => pts_nil) (fun _ _ _ _ _ => (pv 4))))))), ?_⟩
  have hrl := rest_len ds
  have hpl := padB_len ds.length
  refine q_asgL (xs := (cs (rest ds ++ padB ds.length)).map V.int) (EvL.is (el_cat (Ev.r (ev_fld T.cl_Md5 T.n_Md5_rest (v := .ref r) (ev_var rfl) ha rfl) hrs) (EvL.r (el_call (ea_cons (ev_fld T.cl_Md5 T.n_Md5_length (v := .int (ds.length : Int)) (ev_var rfl) ha rfl) ea_nil) fun H1 e Q q _ => ⟨ds.length, rfl, by omega, q⟩)) (by rw [List.length_map, List.length_map, cs_len, cs_len]; omega)) (by rw [cs_append, List.map_append])) fun p H1 hp e1 g1 => ?_
  have hdig : digI ds = (blksI (stt ds) (rest ds ++ padB ds.length) ((rest ds ++ padB ds.length).length / 64)).l.flatMap fun w => lowB w 4 := rfl
  have hlen : (rest ds ++ padB ds.length).length = 64 * ((rest ds ++ padB ds.length).length / 64) ∧ (rest ds ++ padB ds.length).length ≤ 200 := by rw [List.length_append]; omega
  have hb : ∀ x ∈ rest ds ++ padB ds.length, x < 256 := fun x hx => by
    rcases List.mem_append.mp hx with h | h
    · exact hds x (List.mem_of_mem_drop h)
    · exact padB_lt _ x h
  generalize rest ds ++ padB ds.length = wt at *
  refine q_asgC (vs := [.ref st, .ref p, .int ((64 * (wt.length / 64) : Nat) : Int)]) (ea_cons (ev_fld T.cl_Md5 T.n_Md5_state (v := .ref st) (ev_var rfl) (e1 _ _ ha) rfl) (ea_cons (ev_var rfl) (ea_cons (Ev.is (ev_lenS (Ev.s (ev_var rfl) (sq_of g1))) (congrArg V.int (by rw [List.length_map, cs_len]; omega))) ea_nil))) fun H2 e2 => ⟨st, p, stt ds, wt, wt.length / 64, rfl, ex_t (e1.trans e2) hst, e2 _ _ g1, hb, by omega, by omega, fun t H3 e3 ht => ?_⟩
  generalize blksI (stt ds) wt (wt.length / 64) = u at *
  refine s_retL (xs := (digI ds).map V.int) (EvL.is (el_lc2 u.l (fun w => lowB w 4) (Ev.p (ev_var rfl) ht) (fun _ => rfl) (fun _ _ => rfl) (fun _ _ _ => ev_var rfl) (fun w0 H4 e4 hw => el_call (ea_cons (ev_var rfl) (ea_cons ev_c ea_nil)) fun H5 e5 Q q _ => ⟨w0, 4, rfl, by decide, q⟩) ?_) (by rw [hdig])) fun q H4 hq e4 g4 => k q H4 (fresh_back ((e1.trans e2).trans e3) hq) (((e1.trans e2).trans e3).trans e4) g4
  show (lowB u.a 4 ++ (lowB u.b 4 ++ (lowB u.c 4 ++ (lowB u.d 4 ++ [])))).length ≤ 50000
  rw [List.length_append, List.length_append, List.length_append, List.length_append, lowB_len, lowB_len, lowB_len, lowB_len]
  decide
theorem mk_m {C : Addr} {E : XK} {σ : L2.St} {H : Hp} {Q : VK} (k : ∀ a r H', H a = none → H r = none → Ex H H' → MdAt K C H' a r [] → Q (.ref a) H') : tMake C (sp_minit K C) [] E tNil σ H Q := fun x dx hx hdx hne => by
  have hex : ∀ b o, H b = some o → upd (upd H dx (HO.own x)) x (HO.ins C dx []) b = some o := fun b o hb => by
    rw [upd_ne (fresh_ne hx hb), upd_ne (fresh_ne hdx hb)]
    exact hb
  refine ⟨x, dx, rfl, upd_same, fun r H' hrn hF hM => ⟨rfl, k x r H' hx ?_ (fun b o hb => hF b o (fresh_ne hx hb) (hex b o hb)) hM⟩⟩
  cases h : H r with
  | none => rfl
  | some o => rw [hex r o h] at hrn; cases hrn
theorem q_mkm {C : Addr} {E : XK} {σ : L2.St} {H : Hp} {D : Ends} {tz : TS} {i : Nat} (k : ∀ a r H', H a = none → H r = none → Ex H H' → MdAt K C H' a r [] → tz D (σ.set i (some (.ref a))) H') : tSeq (tAsg (tMake C (sp_minit K C) [] E tNil) (gName i)) tz D σ H := mk_m (σ := σ) (Q := fun x H' => tz D (σ.set i (some x)) H') k
def sp_md5 : Sp := fun vs H Q _ => ∃ (b : Addr) (ds : List Nat), vs = [.ref b] ∧ H b = some (.lst ((cs ds).map V.int)) ∧ (∀ x ∈ ds, x < 256) ∧ ds.length ≤ 80000 ∧ RetL ((digI ds).map V.int) H Q
theorem ok_md5 (T : TX K mg) : FnOk P w K mg base CX0 5 T.a_md5 T.d_md5 ["data"] sp_md5 := by
  refine T.F_md5.ok sc_md5 (fun vs H Q E h => by obtain ⟨b, ds, rfl, _⟩ := h; rfl) (fun cdv A outer s0 H vs Q E hr h => ?_)
  obtain ⟨b, ds, rfl, hb, hds, hl, k⟩ := h
  refine ⟨_, (pss_cons (ps_set (i := 1) sc_md5.nd rfl (Or.inl rfl) (pe_make0 T.M_Md5 (ok_Md5_init T) (hr.mono (by decide)) (by rfl) T.g_Md5 T.b_Md5_init .nil pass0))
      (pss_cons (ps_expr (pe_meth (pv 1) T.cl_Md5 T.me_Md5_feed (ok_Md5_feed T) (hr.mono (by decide)) T.b_Md5_feed .nil pass0 (pa_cons (pv 0) pa_nil)))
      (pss_one (ps_ret (pe_meth0 (pv 1) T.cl_Md5 T.me_Md5_digest (ok_Md5_digest T) (hr.mono (by decide)) T.b_Md5_digest .nil pass0))))), ?_⟩
  refine q_mkm (C := T.C_Md5) fun a r H1 ha _ e1 hM => ?_
  obtain ⟨dx, st, h1, h2, h3⟩ := id hM
  refine q_dropM (vs := [.ref b]) (ev_var rfl) h1 rfl (ea_cons (ev_var rfl) ea_nil) fun H2 e2 => ⟨a, b, r, [], ds, rfl, hM.ex e2, e2 _ _ (e1 _ _ hb), (fun x hx => by cases hx), hds, hl, fun r3 H3 _ hF hM3 => ?_⟩
  rw [List.nil_append] at hM3
  obtain ⟨dx3, st3, g1, g2, g3⟩ := id hM3
  refine s_retM (vs := []) (ev_var rfl) g1 rfl ea_nil fun H4 e4 => ⟨a, r3, ds, rfl, hM3.ex e4, hds, hl, fun p H5 hp e5 g5 => k p H5 ?_ (fun c o hc => e5 _ _ (e4 _ _ (hF _ _ (fresh_ne ha hc) (e2 _ _ (e1 _ _ hc))))) g5⟩
  cases hc : H p with
  | none => rfl
  | some o => rw [e4 _ _ (hF _ _ (fresh_ne ha hc) (e2 _ _ (e1 _ _ hc)))] at hp; cases hp

def sp_isint : Sp := fun vs H Q _ => ∃ n : Int, vs = [.int n] ∧ RetV (.bl true) H Q
theorem ok_law_is_integer (T : TX K mg) : FnOk P w K mg base CX0 1 T.a_law_is_integer T.d_law_is_integer ["actual"] sp_isint := by
  refine T.F_law_is_integer.ok sc_law_is_integer (fun vs H Q E h => by obtain ⟨n, rfl, _⟩ := h; rfl) (fun cdv A outer s H vs Q E hr h => ?_)
  obtain ⟨n, rfl, k⟩ := h
  refine ⟨_, (pss_one (ps_ret (pe_and (pe_callB (r := rIsi K) call_isi (by rfl) T.m_isinstance PyProof.Rows.boot_isinstance (pa_cons (pv 0) (pa_cons (pe_bltn (v := V.ty "int") (by rfl) T.m_int PyProof.Rows.boot_int rfl) pa_nil))) (pe_one (pe_not (pe_callB (r := rIsi K) call_isi (by rfl) T.m_isinstance PyProof.Rows.boot_isinstance (pa_cons (pv 0) (pa_cons (pe_bltn (v := V.ty "bool") (by rfl) T.m_bool PyProof.Rows.boot_bool rfl) pa_nil)))))))), ?_⟩
  walk_at "ret"
  intro H2 e2
  exact ret_eq k e2 rfl
theorem ev_isint {σ : L2.St} {H : Hp} {te : TE} {E : XK} {n : Int} (h : Ev te σ H (.int n)) : Ev (tCall sp_isint [] E (tCons te tNil)) σ H (.bl true) := ev_call (ea_cons h ea_nil) fun H1 _ Q q _ => ⟨n, rfl, q⟩

def sp_same : Sp := fun vs H Q _ => ∃ (a b : Addr) (ns : List Int), vs = [.ref a, .ref b] ∧ H a = some (.lst (ns.map V.int)) ∧ H b = some (.lst (ns.map V.int)) ∧ ns.length ≤ 100000 ∧ RetV (.bl true) H Q
theorem ok_law_same (T : TX K mg) : FnOk P w K mg base CX0 2 T.a_law_same T.d_law_same ["actual", "expected"] sp_same := by
  refine T.F_law_same.ok sc_law_same (fun vs H Q E h => by obtain ⟨a, b, ns, rfl, _⟩ := h; rfl) (fun cdv A outer s H vs Q E hr h => ?_)
  obtain ⟨a, b, ns, rfl, ha, hb, hlen, k⟩ := h
  refine ⟨_, (pss_cons (ps_if (PW.pt (pw_or (pt_not (pt_val (pe_callB (r := rIsi K) call_isi (by rfl) T.m_isinstance PyProof.Rows.boot_isinstance (pa_cons (pv 0) (pa_cons (pe_bltn (v := V.ty "list") (by rfl) T.m_list PyProof.Rows.boot_list rfl) pa_nil))))) (pw_or1 (pt_cmpR op_ne (pe_callB (r := rLenS K) call_len_seq (by rfl) T.m_len PySem.boot_len (pa_cons (pv 0) pa_nil)) (pe_callB (r := rLenS K) call_len_seq (by rfl) T.m_len PySem.boot_len (pa_cons (pv 1) pa_nil)) (nomark _))))) (pss_one (ps_ret pe_bl)) pss_nil)
      (pss_cons (ps_for PassesOwn.never rfl (pi_range1 (by rfl) T.m_range (pa_cons (pe_callB (r := rLenS K) call_len_seq (by rfl) T.m_len PySem.boot_len (pa_cons (pv 1) pa_nil)) pa_nil)) (pg_name (i := 2) sc_law_same.nd rfl (Or.inl rfl)) (pss_one (ps_if (PW.pt (pw_or (pt_not (pt_val (pe_call (ok_law_is_integer T) (hr.mono (by decide)) (by rfl) T.g_law_is_integer T.F_law_is_integer.kp T.b_law_is_integer .nil pass0 (pa_cons (pe_ix (r := rIxL K) ix_list (pv 0) (pv 2) (fun _ _ => rfl)) pa_nil)))) (pw_or1 (pt_cmpR op_ne (pe_ix (r := rIxL K) ix_list (pv 0) (pv 2) (fun _ _ => rfl)) (pe_ix (r := rIxL K) ix_list (pv 1) (pv 2) (fun _ _ => rfl)) (nomark _))))) (pss_one (ps_ret pe_bl)) pss_nil)))
      (pss_one (ps_ret pe_bl)))), ?_⟩
  have hl : ∀ {σ : L2.St} {H1 : Hp} {te : TE} {c : Addr}, Ev te σ H1 (.ref c) → H1 c = some (.lst (ns.map V.int)) → Ev (tCB (rLenS K) (tCons te tNil)) σ H1 (.int (ns.length : Int)) := fun h1 h2 => Ev.is (ev_lenS (Ev.s h1 (sq_of h2))) (by rw [List.length_map])
  refine q_when (b := false) (et_or (a := !true) (b := false) (et_not (et_test (ev_isiL (ev_var rfl) ha))) fun _ => et_test (Ev.is (ev_ne (hl (ev_var rfl) ha) (hl (ev_var rfl) hb) rfl) (by rw [decide_eq_true rfl]; rfl))) (fun hb => by cases hb) fun _ H1 e1 => ?_
  refine q_forR1 (n := (ns.length : Int)) (ea_cons (hl (ev_var rfl) (e1 _ _ hb)) ea_nil) (by omega) (fun i σ' H' => ∃ z, σ' = [some (.ref a), some (.ref b), z] ∧ Ex H H') (fun H2 e2 => ⟨none, rfl, e1.trans e2⟩) ?_ ?_
  · rintro i σ' H' hi ⟨z, rfl, ex⟩
    have hi : i < ns.length := by omega
    have hat : ∀ {σ : L2.St} {H1 : Hp} {tl ti : TE} {c : Addr}, Ev tl σ H1 (.ref c) → H1 c = some (.lst (ns.map V.int)) → Ev ti σ H1 (.int (i : Int)) → Ev (tOp (rIxL K) tl ti) σ H1 (.int (ns.getD i 0)) := fun h1 h2 h3 => ev_at (Ev.s h1 (sq_of h2)) h3 (at_of rfl (at_int (gl_get hi)))
    refine s_when (b := false) (et_or (a := !true) (b := false) (et_not (et_B (ev_isint (hat (ev_var rfl) (ex _ _ ha) (ev_var rfl))))) fun _ => et_test (Ev.is (ev_ne (hat (ev_var rfl) (ex _ _ ha) (ev_var rfl)) (hat (ev_var rfl) (ex _ _ hb) (ev_var rfl)) rfl) (by rw [decide_eq_true rfl]; rfl))) (fun hb => by cases hb) fun _ H2 e2 => ?_
    exact ⟨_, rfl, ex.trans e2⟩
  · rintro σ' H' ⟨z, rfl, ex⟩
    walk_at "ret"
    intro H2 e2
    exact k _ (ex.trans e2)

theorem ev_same {σ : L2.St} {H : Hp} {t1 t2 : TE} {E : XK} {ns : List Int} (h1 : EvR t1 σ H (ns.map V.int)) (h2 : EvR t2 σ H (ns.map V.int)) (hl : ns.length ≤ 100000) : Ev (tCall sp_same [] E (tCons t1 (tCons t2 tNil))) σ H (.bl true) := fun H1 e Q q =>
  h1 H1 e _ fun p H2 e2 g2 => h2 H2 (e.trans e2) _ fun r H3 e3 g3 => ⟨p, r, ns, rfl, e3 _ _ g2, g3, hl, fun H4 e4 => q H4 ((e2.trans e3).trans e4)⟩

theorem digI_len (ds : List Nat) : (digI ds).length = 16 := by
  show (lowB _ 4 ++ (lowB _ 4 ++ (lowB _ 4 ++ (lowB _ 4 ++ [])))).length = 16
  simp only [List.length_append, lowB_len, List.length_nil]
theorem natXor_mask {x : Nat} (h : x < 2 ^ 32) : x ^^^ (2 ^ 32 - 1) = 2 ^ 32 - (x + 1) := by
  refine Nat.eq_of_testBit_eq fun i => ?_
  rw [Nat.testBit_xor, Nat.testBit_two_pow_sub_one, Nat.testBit_two_pow_sub_succ h]
  by_cases hi : i < 32
  · rw [decide_eq_true hi]
    cases x.testBit i <;> rfl
  · rw [decide_eq_false hi]
    have : x.testBit i = false := Nat.testBit_lt_two_pow (Nat.lt_of_lt_of_le h (Nat.pow_le_pow_right (by decide) (by omega)))
    rw [this]
    rfl
theorem xor_mask {x : Int} (h0 : 0 ≤ x) (h1 : x < 4294967296) : Builtin.bitXor x 4294967295 = 4294967295 - x := by
  rw [_root_.Bits.bitXor_pp h0 (by decide)]
  have := natXor_mask (x := x.toNat) (by omega)
  rw [show ((4294967295 : Int)).toNat = 2 ^ 32 - 1 from rfl, this]
  omega
def InR (s : W4) : Prop := (0 ≤ s.a ∧ s.a < 4294967296) ∧ (0 ≤ s.b ∧ s.b < 4294967296) ∧ (0 ≤ s.c ∧ s.c < 4294967296) ∧ (0 ≤ s.d ∧ s.d < 4294967296)
theorem InR.step {ws : List Int} {i : Nat} {s : W4} (h : InR s) : InR (stepI ws i s) := by
  obtain ⟨h1, h2, h3, h4⟩ := h
  refine ⟨h4, ?_, h2, h3⟩
  have := bitAnd_maskZ (s.b + Builtin.bitOr (Builtin.bitAnd (s.a + fI i s.b s.c s.d + cstL.getD i 0 + ws.getD (ixN i) 0) 4294967295 * 2 ^ (rotI i).toNat) (Builtin.bitAnd (s.a + fI i s.b s.c s.d + cstL.getD i 0 + ws.getD (ixN i) 0) 4294967295 / 2 ^ (32 - rotI i).toNat)) 32
  have h : (stepI ws i s).b = _ := this
  rw [h]
  omega
theorem InR.it {ws : List Int} {s : W4} (h : InR s) : ∀ i, InR (itI ws s i)
  | 0 => h
  | i + 1 => InR.step (InR.it h i)
theorem InR.blk {ws : List Int} {s : W4} : InR (blkI s ws) := by
  have e : ∀ x : Int, Builtin.bitAnd x 4294967295 = x % 2 ^ 32 := fun x => bitAnd_maskZ x 32
  unfold blkI
  refine ⟨?_, ?_, ?_, ?_⟩
  all_goals
    dsimp only
    rw [e]
    omega
theorem InR.blks {ds : List Nat} {s : W4} (h : InR s) : ∀ n, InR (blksI s ds n)
  | 0 => h
  | n + 1 => InR.blk
/-- the sum of a step as the law has it -/
theorem turn_eq {b m : Int} {i : Nat} (hi : i < 64) (h0 : 0 ≤ m) (h1 : m < 4294967296) : (b + (m * 2 ^ (rotI i).toNat % 4294967296 + m / 2 ^ (32 - rotI i).toNat)) % 4294967296 = Builtin.bitAnd (b + Builtin.bitOr (m * 2 ^ (rotI i).toNat) (m / 2 ^ (32 - rotI i).toNat)) 4294967295 := by
  have e : ∀ x : Int, Builtin.bitAnd x 4294967295 = x % 2 ^ 32 := fun x => bitAnd_maskZ x 32
  obtain ⟨r1, r2⟩ := rotI_le hi
  have hr : (rotI i).toNat + (32 - rotI i).toNat = 32 := by omega
  generalize (rotI i).toNat = r at *
  generalize (32 - rotI i).toNat = q at *
  have hp : (2 : Int) ^ r * 2 ^ q = 4294967296 := by rw [← Int.pow_add, hr]; rfl
  have hq0 : (0 : Int) < 2 ^ q := Int.pow_pos (by decide)
  have hlow : m / 2 ^ q < 2 ^ r := Int.ediv_lt_of_lt_mul hq0 (by rw [hp]; exact h1)
  have hnn : 0 ≤ m / 2 ^ q := Int.ediv_nonneg h0 (Int.le_of_lt hq0)
  rw [e, _root_.Bits.bitOr_join' hnn hlow h0]
  generalize m / 2 ^ q = y at *
  generalize m * 2 ^ r = x at *
  omega
def sp_lconst : Sp := fun vs H Q _ => vs = [] ∧ RetL (cstL.map V.int) H Q
theorem ok_law_constants (T : TX K mg) : FnOk P w K mg base CX0 1 T.a_law_constants T.d_law_constants [] sp_lconst := by
  refine T.F_law_constants.ok sc_law_constants (fun vs H Q E h => by obtain ⟨rfl, _⟩ := h; rfl) (fun cdv A outer s H vs Q E hr h => ?_)
  obtain ⟨rfl, k⟩ := h
  refine ⟨_, (pss_one (ps_ret (pe_lst (pa_cons pe_int (pa_cons pe_int (pa_cons pe_int (pa_cons pe_int (pa_cons pe_int (pa_cons pe_int (pa_cons pe_int (pa_cons pe_int (pa_cons pe_int (pa_cons pe_int (pa_cons pe_int (pa_cons pe_int (pa_cons pe_int (pa_cons pe_int (pa_cons pe_int (pa_cons pe_int (pa_cons pe_int (pa_cons pe_int (pa_cons pe_int (pa_cons pe_int (pa_cons pe_int (pa_cons pe_int (pa_cons pe_int (pa_cons pe_int (pa_cons pe_int (pa_cons pe_int (pa_cons pe_int (pa_cons pe_int (pa_cons pe_int (pa_cons pe_int (pa_cons pe_int (pa_cons pe_int (pa_cons pe_int (pa_cons pe_int (pa_cons pe_int (pa_cons pe_int (pa_cons pe_int (pa_cons pe_int (pa_cons pe_int (pa_cons pe_int (pa_cons pe_int (pa_cons pe_int (pa_cons pe_int (pa_cons pe_int (pa_cons pe_int (pa_cons pe_int (pa_cons pe_int (pa_cons pe_int (pa_cons pe_int (pa_cons pe_int (pa_cons pe_int (pa_cons pe_int (pa_cons pe_int (pa_cons pe_int (pa_cons pe_int (pa_cons pe_int (pa_cons pe_int (pa_cons pe_int (pa_cons pe_int (pa_cons pe_int (pa_cons pe_int (pa_cons pe_int (pa_cons pe_int (pa_cons pe_int pa_nil))))))))))))))))))))))))))))))))))))))))))))))))))))))))))))))))))), ?_⟩
  refine s_retL (xs := cstL.map V.int) (el_lst ?_ (by decide)) k
  repeat (first | exact ea_nil | refine ea_cons ev_c ?_)
def sp_lmix : Sp := fun vs H Q _ => ∃ (i : Nat) (b c d : Int), vs = [.int (i : Int), .int b, .int c, .int d] ∧ i < 64 ∧ 0 ≤ b ∧ b < 4294967296 ∧ 0 ≤ d ∧ d < 4294967296 ∧ RetV (.int (fI i b c d)) H Q
theorem ok_law_mixed (T : TX K mg) : FnOk P w K mg base CX0 1 T.a_law_mixed T.d_law_mixed ["step", "b", "c", "d"] sp_lmix := by
  refine T.F_law_mixed.ok sc_law_mixed (fun vs H Q E h => by obtain ⟨i, b, c, d, rfl, _⟩ := h; rfl) (fun cdv A outer s H vs Q E hr h => ?_)
  obtain ⟨i, b, c, d, rfl, hi, hb0, hb1, hd0, hd1, k⟩ := h
  refine ⟨_, (pss_cons (ps_if (pt_cmpR op_lt (pv 0) pe_int (nomark _)) (pss_one (ps_ret (pe_op op_or (pe_op op_and (pv 1) (pv 2)) (pe_op op_and (pe_op op_sub pe_int (pv 1)) (pv 3))))) pss_nil)
      (pss_cons (ps_if (pt_cmpR op_lt (pv 0) pe_int (nomark _)) (pss_one (ps_ret (pe_op op_or (pe_op op_and (pv 3) (pv 1)) (pe_op op_and (pe_op op_sub pe_int (pv 3)) (pv 2))))) pss_nil)
      (pss_cons (ps_if (pt_cmpR op_lt (pv 0) pe_int (nomark _)) (pss_one (ps_ret (pe_op op_xor (pe_op op_xor (pv 1) (pv 2)) (pv 3)))) pss_nil)
      (pss_one (ps_ret (pe_op op_xor (pv 2) (pe_op op_or (pv 1) (pe_op op_sub pe_int (pv 3))))))))), ?_⟩
  have hlt : ∀ {σ : L2.St} {H1 : Hp} (n : Nat), σ[0]? = some (some (.int (i : Int))) → EvT (tTest (tOp (rI0 fun i j => .bl (decide (i < j))) (tVar 0) (tC (.int (n : Int))))) σ H1 (decide (i < n)) := fun n hs => et_test (Ev.is (ev_I0 (ev_var hs) ev_c) (congrArg V.bl (decide_eq_decide.mpr (by show (i : Int) < (n : Int) ↔ _; omega))))
  refine q_when (hlt 16 rfl) (fun h1 H1 e1 => ?_) (fun h1 H1 e1 => ?_)
  · have h1 := of_decide_eq_true h1
    exact s_ret (Ev.is (ev_I0 (ev_I0 (ev_var rfl) (ev_var rfl)) (ev_I0 (ev_I0 ev_c (ev_var rfl)) (ev_var rfl))) (congrArg V.int (by unfold fI; rw [if_pos h1, xor_mask hb0 hb1]))) fun H2 e2 => k H2 (e1.trans e2)
  have h1 := of_decide_eq_false h1
  refine q_when (hlt 32 rfl) (fun h2 H2 e2 => ?_) (fun h2 H2 e2 => ?_)
  · have h2 := of_decide_eq_true h2
    exact s_ret (Ev.is (ev_I0 (ev_I0 (ev_var rfl) (ev_var rfl)) (ev_I0 (ev_I0 ev_c (ev_var rfl)) (ev_var rfl))) (congrArg V.int (by unfold fI; rw [if_neg h1, if_pos h2, xor_mask hd0 hd1]))) fun H3 e3 => k H3 ((e1.trans e2).trans e3)
  have h2 := of_decide_eq_false h2
  refine q_when (hlt 48 rfl) (fun h3 H3 e3 => ?_) (fun h3 H3 e3 => ?_)
  · have h3 := of_decide_eq_true h3
    exact s_ret (Ev.is (ev_I0 (ev_I0 (ev_var rfl) (ev_var rfl)) (ev_var rfl)) (congrArg V.int (by unfold fI; rw [if_neg h1, if_neg h2, if_pos h3]))) fun H4 e4 => k H4 (((e1.trans e2).trans e3).trans e4)
  have h3 := of_decide_eq_false h3
  exact s_ret (Ev.is (ev_I0 (ev_var rfl) (ev_I0 (ev_var rfl) (ev_I0 ev_c (ev_var rfl)))) (congrArg V.int (by unfold fI; rw [if_neg h1, if_neg h2, if_neg h3, xor_mask hd0 hd1]))) fun H4 e4 => k H4 (((e1.trans e2).trans e3).trans e4)
def sp_lidx : Sp := fun vs H Q _ => ∃ i : Nat, vs = [.int (i : Int)] ∧ i < 64 ∧ RetV (.int ((ixN i : Nat) : Int)) H Q
theorem ok_law_index (T : TX K mg) : FnOk P w K mg base CX0 1 T.a_law_index T.d_law_index ["step"] sp_lidx := by
  refine T.F_law_index.ok sc_law_index (fun vs H Q E h => by obtain ⟨i, rfl, _⟩ := h; rfl) (fun cdv A outer s H vs Q E hr h => ?_)
  obtain ⟨i, rfl, hi, k⟩ := h
  refine ⟨_, (pss_cons (ps_set (i := 1) sc_law_index.nd rfl (Or.inl rfl) (pe_lst (pa_cons pe_int (pa_cons pe_int (pa_cons pe_int (pa_cons pe_int pa_nil))))))
      (pss_cons (ps_set (i := 2) sc_law_index.nd rfl (Or.inl rfl) (pe_lst (pa_cons pe_int (pa_cons pe_int (pa_cons pe_int (pa_cons pe_int pa_nil))))))
      (pss_one (ps_ret (pe_op op_mod (pe_callTy call_int1 (by rfl) T.m_int PyProof.Rows.boot_int (pa_cons (pe_op op_add (pe_op op_mul (pe_ix (r := rIxL K) ix_list (pv 1) (pe_op op_fdiv (pv 0) pe_int) (fun _ _ => rfl)) (pv 0)) (pe_ix (r := rIxL K) ix_list (pv 2) (pe_op op_fdiv (pv 0) pe_int) (fun _ _ => rfl))) pa_nil)) pe_int))))), ?_⟩
  refine q_asgL (xs := [V.int 1, .int 5, .int 3, .int 7]) (el_lst (ea_cons ev_c (ea_cons ev_c (ea_cons ev_c (ea_cons ev_c ea_nil)))) (by decide)) fun p H1 hp e1 g1 => ?_
  refine q_asgL (xs := [V.int 0, .int 1, .int 5, .int 0]) (el_lst (ea_cons ev_c (ea_cons ev_c (ea_cons ev_c (ea_cons ev_c ea_nil)))) (by decide)) fun q H2 hq e2 g2 => ?_
  rcases (show i / 16 = 0 ∨ i / 16 = 1 ∨ i / 16 = 2 ∨ i / 16 = 3 by omega) with h | h | h | h
  · exact s_ret (Ev.is (ev_I (ev_int1 (ev_I0 (ev_I (i := 1) (ev_at (Ev.s (ev_var rfl) (sq_of (e2 _ _ g1))) (ev_I (ev_var rfl) ev_c ⟨by decide, by decide⟩) (at_of (j := 0) (by omega) rfl)) (ev_var rfl) (.inl (by decide))) (ev_at (v := .int 0) (Ev.s (ev_var rfl) (sq_of g2)) (ev_I (ev_var rfl) ev_c ⟨by decide, by decide⟩) (at_of (j := 0) (by omega) rfl)))) ev_c (by decide)) (congrArg V.int (by unfold ixN; rw [if_pos (by omega)]; omega))) fun H3 e3 => k H3 ((e1.trans e2).trans e3)
  · exact s_ret (Ev.is (ev_I (ev_int1 (ev_I0 (ev_I (i := 5) (ev_at (Ev.s (ev_var rfl) (sq_of (e2 _ _ g1))) (ev_I (ev_var rfl) ev_c ⟨by decide, by decide⟩) (at_of (j := 1) (by omega) rfl)) (ev_var rfl) (.inl (by decide))) (ev_at (v := .int 1) (Ev.s (ev_var rfl) (sq_of g2)) (ev_I (ev_var rfl) ev_c ⟨by decide, by decide⟩) (at_of (j := 1) (by omega) rfl)))) ev_c (by decide)) (congrArg V.int (by unfold ixN; rw [if_neg (by omega), if_pos (by omega)]; omega))) fun H3 e3 => k H3 ((e1.trans e2).trans e3)
  · exact s_ret (Ev.is (ev_I (ev_int1 (ev_I0 (ev_I (i := 3) (ev_at (Ev.s (ev_var rfl) (sq_of (e2 _ _ g1))) (ev_I (ev_var rfl) ev_c ⟨by decide, by decide⟩) (at_of (j := 2) (by omega) rfl)) (ev_var rfl) (.inl (by decide))) (ev_at (v := .int 5) (Ev.s (ev_var rfl) (sq_of g2)) (ev_I (ev_var rfl) ev_c ⟨by decide, by decide⟩) (at_of (j := 2) (by omega) rfl)))) ev_c (by decide)) (congrArg V.int (by unfold ixN; rw [if_neg (by omega), if_neg (by omega), if_pos (by omega)]; omega))) fun H3 e3 => k H3 ((e1.trans e2).trans e3)
  · exact s_ret (Ev.is (ev_I (ev_int1 (ev_I0 (ev_I (i := 7) (ev_at (Ev.s (ev_var rfl) (sq_of (e2 _ _ g1))) (ev_I (ev_var rfl) ev_c ⟨by decide, by decide⟩) (at_of (j := 3) (by omega) rfl)) (ev_var rfl) (.inl (by decide))) (ev_at (v := .int 0) (Ev.s (ev_var rfl) (sq_of g2)) (ev_I (ev_var rfl) ev_c ⟨by decide, by decide⟩) (at_of (j := 3) (by omega) rfl)))) ev_c (by decide)) (congrArg V.int (by unfold ixN; rw [if_neg (by omega), if_neg (by omega), if_neg (by omega)]; omega))) fun H3 e3 => k H3 ((e1.trans e2).trans e3)
def turnL : List Int := [7, 12, 17, 22, 5, 9, 14, 20, 4, 11, 16, 23, 6, 10, 15, 21]
theorem turn_all : (List.range 64).all (fun i => decide (turnL.getD (4 * (i / 16) + i % 4) 0 = rotI i)) = true := by decide +kernel
theorem turn_rot {i : Nat} (h : i < 64) : turnL.getD (4 * (i / 16) + i % 4) 0 = rotI i := of_decide_eq_true (List.all_eq_true.mp turn_all i (List.mem_range.mpr h))
def sp_lturn : Sp := fun vs H Q _ => ∃ i : Nat, vs = [.int (i : Int)] ∧ i < 64 ∧ RetV (.int (rotI i)) H Q
theorem ok_law_turn (T : TX K mg) : FnOk P w K mg base CX0 1 T.a_law_turn T.d_law_turn ["step"] sp_lturn := by
  refine T.F_law_turn.ok sc_law_turn (fun vs H Q E h => by obtain ⟨i, rfl, _⟩ := h; rfl) (fun cdv A outer s H vs Q E hr h => ?_)
  obtain ⟨i, rfl, hi, k⟩ := h
  refine ⟨_, (pss_cons (ps_set (i := 1) sc_law_turn.nd rfl (Or.inl rfl) (pe_lst (pa_cons pe_int (pa_cons pe_int (pa_cons pe_int (pa_cons pe_int (pa_cons pe_int (pa_cons pe_int (pa_cons pe_int (pa_cons pe_int (pa_cons pe_int (pa_cons pe_int (pa_cons pe_int (pa_cons pe_int (pa_cons pe_int (pa_cons pe_int (pa_cons pe_int (pa_cons pe_int pa_nil))))))))))))))))))
      (pss_one (ps_ret (pe_ix (r := rIxL K) ix_list (pv 1) (pe_op op_add (pe_op op_mul pe_int (pe_op op_fdiv (pv 0) pe_int)) (pe_op op_mod (pe_callTy call_int1 (by rfl) T.m_int PyProof.Rows.boot_int (pa_cons (pv 0) pa_nil)) pe_int)) (fun _ _ => rfl))))), ?_⟩
  refine q_asgL (xs := turnL.map V.int) (el_lst (by repeat (first | exact ea_nil | refine ea_cons ev_c ?_)) (by decide)) fun p H1 hp e1 g1 => ?_
  refine s_ret (v := .int (rotI i)) (ev_at (Ev.s (ev_var rfl) (sq_of g1)) (ev_I0 (ev_I ev_c (ev_I (ev_var rfl) ev_c ⟨by decide, by decide⟩) (.inl (by decide))) (ev_I (ev_int1 (ev_var rfl)) ev_c (by decide))) (at_of (j := 4 * (i / 16) + i % 4) (by omega) (at_int (by rw [← turn_rot hi]; exact gl_get (show 4 * (i / 16) + i % 4 < 16 by omega))))) fun H2 e2 => k H2 (e1.trans e2)
theorem q_asg4L {σ : L2.St} {H : Hp} {te : TE} {i j l m : Nat} {x y z u : V} {D : Ends} {tz : TS} (h : EvS K te σ H [x, y, z, u]) (k : ∀ H1, Ex H H1 → tz D ((((σ.set i (some x)).set j (some y)).set l (some z)).set m (some u)) H1) :
    tSeq (tAsg te (gLst K 4 (gCons (gName i) (gCons (gName j) (gCons (gName l) (gCons (gName m) gNil)))))) tz D σ H := h H (Ex.refl H) _ fun p H1 e1 g1 => ⟨p, [x, y, z, u], rfl, g1, rfl, x, [y, z, u], rfl, y, [z, u], rfl, z, [u], rfl, u, [], rfl, rfl, k H1 e1⟩
def sp_lblock : Sp := fun vs H Q _ => ∃ (st b : Addr) (s : W4) (bs : List Nat), vs = [.ref st, .ref b] ∧ H st = some (.lst (s.l.map V.int)) ∧ InR s ∧ H b = some (.lst ((cs bs).map V.int)) ∧ bs.length = 64 ∧ (∀ x ∈ bs, x < 256) ∧ RetL ((blkI s (wordsI bs)).l.map V.int) H Q
theorem ok_law_block (T : TX K mg) : FnOk P w K mg base CX0 2 T.a_law_block T.d_law_block ["state", "block"] sp_lblock := by
  refine T.F_law_block.ok sc_law_block (fun vs H Q E h => by obtain ⟨st, b, s, bs, rfl, _⟩ := h; rfl) (fun cdv A outer s0 H vs Q E hr h => ?_)
  obtain ⟨st, b, s, bs, rfl, hst, hR, hb, hl, hbs, k⟩ := h
  refine ⟨_, (pss_cons (ps_set (i := 2) sc_law_block.nd rfl (Or.inl rfl) (pe_call0 (ok_law_constants T) (hr.mono (by decide)) (by rfl) T.g_law_constants T.F_law_constants.kp T.b_law_constants .nil pass0))
      (pss_cons (ps_asg (pv 0) (pg_lst rfl (pgs_cons (pg_name (i := 3) sc_law_block.nd rfl (Or.inl rfl)) (pgs_cons (pg_name (i := 4) sc_law_block.nd rfl (Or.inl rfl)) (pgs_cons (pg_name (i := 5) sc_law_block.nd rfl (Or.inl rfl)) (pgs_cons (pg_name (i := 6) sc_law_block.nd rfl (Or.inl rfl)) pgs_nil))))))
      (pss_cons (ps_for PassesOwn.never rfl (pi_range1 (by rfl) T.m_range (pa_cons pe_int pa_nil)) (pg_name (i := 7) sc_law_block.nd rfl (Or.inl rfl)) (pss_cons (ps_set (i := 8) sc_law_block.nd rfl (Or.inl rfl) (pe_op op_mul pe_int (pe_call (ok_law_index T) (hr.mono (by decide)) (by rfl) T.g_law_index T.F_law_index.kp T.b_law_index .nil pass0 (pa_cons (pv 7) pa_nil))))
        (pss_cons (ps_set (i := 9) sc_law_block.nd rfl (Or.inl rfl) (pe_op op_add (pe_op op_add (pe_op op_add (pe_ix (r := rIxL K) ix_list (pv 1) (pv 8) (fun _ _ => rfl)) (pe_op op_shl (pe_ix (r := rIxL K) ix_list (pv 1) (pe_op op_add (pv 8) pe_int) (fun _ _ => rfl)) pe_int)) (pe_op op_shl (pe_ix (r := rIxL K) ix_list (pv 1) (pe_op op_add (pv 8) pe_int) (fun _ _ => rfl)) pe_int)) (pe_op op_shl (pe_ix (r := rIxL K) ix_list (pv 1) (pe_op op_add (pv 8) pe_int) (fun _ _ => rfl)) pe_int)))
        (pss_cons (ps_set (i := 10) sc_law_block.nd rfl (Or.inl rfl) (pe_op op_mod (pe_callTy call_int1 (by rfl) T.m_int PyProof.Rows.boot_int (pa_cons (pe_op op_add (pe_op op_add (pe_op op_add (pv 3) (pe_call (ok_law_mixed T) (hr.mono (by decide)) (by rfl) T.g_law_mixed T.F_law_mixed.kp T.b_law_mixed .nil pass0 (pa_cons (pv 7) (pa_cons (pv 4) (pa_cons (pv 5) (pa_cons (pv 6) pa_nil)))))) (pe_ix (r := rIxL K) ix_list (pv 2) (pv 7) (fun _ _ => rfl))) (pv 9)) pa_nil)) pe_int))
        (pss_cons (ps_set (i := 11) sc_law_block.nd rfl (Or.inl rfl) (pe_call (ok_law_turn T) (hr.mono (by decide)) (by rfl) T.g_law_turn T.F_law_turn.kp T.b_law_turn .nil pass0 (pa_cons (pv 7) pa_nil)))
        (pss_cons (ps_set (i := 10) sc_law_block.nd rfl (Or.inl rfl) (pe_op op_add (pe_op op_mod (pe_callTy call_int1 (by rfl) T.m_int PyProof.Rows.boot_int (pa_cons (pe_op op_shl (pv 10) (pv 11)) pa_nil)) pe_int) (pe_op op_shr (pv 10) (pe_op op_sub pe_int (pv 11)))))
        (pss_cons (ps_set (i := 3) sc_law_block.nd rfl (Or.inl rfl) (pv 6))
        (pss_cons (ps_set (i := 6) sc_law_block.nd rfl (Or.inl rfl) (pv 5))
        (pss_cons (ps_set (i := 5) sc_law_block.nd rfl (Or.inl rfl) (pv 4))
        (pss_one (ps_set (i := 4) sc_law_block.nd rfl (Or.inl rfl) (pe_op op_mod (pe_callTy call_int1 (by rfl) T.m_int PyProof.Rows.boot_int (pa_cons (pe_op op_add (pv 4) (pv 10)) pa_nil)) pe_int))))))))))))
      (pss_cons (ps_set (i := 12) sc_law_block.nd rfl (Or.inr rfl) (pe_lst (pa_cons (pv 3) (pa_cons (pv 4) (pa_cons (pv 5) (pa_cons (pv 6) pa_nil))))))
      (pss_one (ps_ret (pe_lc (own := [("k", 13)]) (g := gName 13) (tt := tYes) rfl sc_law_block.nd (pi_range1 (by rfl) T.m_range (pa_cons pe_int pa_nil)) (blkOk_by (N := ["state", "block", "constants", "a", "b", "c", "d", "step", "g", "word", "t", "turn", "new", "k"]) (sc := defScope s_law_block) (by decide +kernel)) (fun _ _ _ _ _ => pg_name (i := 13) sc_law_block.nd rfl (Or.inl rfl)) (fun _ _ _ _ _ => pts_nil) (fun _ _ _ _ _ => (pe_op op_mod (pe_callTy call_int1 (by rfl) T.m_int PyProof.Rows.boot_int (pa_cons (pe_op op_add (pe_ix (r := rIxL K) ix_list (pv 0) (pv 13) (fun _ _ => rfl)) (pe_ix (r := rIxL K) ix_list (pv 12) (pv 13) (fun _ _ => rfl))) pa_nil)) pe_int))))))))), ?_⟩
  refine q_asgL (xs := cstL.map V.int) (el_call (vs := []) ea_nil fun H1 e Q q _ => ⟨rfl, q⟩) fun pc H1 hpc e1 g1 => ?_
  refine q_asg4L (x := .int s.a) (y := .int s.b) (z := .int s.c) (u := .int s.d) (Ev.s (ev_var rfl) (sq_of (e1 _ _ hst))) fun H2 e2 => ?_
  have e12 := e1.trans e2
  obtain ⟨ws, hws⟩ : ∃ ws, wordsI bs = ws := ⟨_, rfl⟩
  rw [hws] at k
  refine q_forR1 (n := 64) (ea_cons ev_c ea_nil) (by decide) (fun i σ' H' => ∃ (z7 z8 z9 z10 z11 : Option V), σ' = [some (.ref st), some (.ref b), some (.ref pc), some (.int (itI ws s i).a), some (.int (itI ws s i).b), some (.int (itI ws s i).c), some (.int (itI ws s i).d), z7, z8, z9, z10, z11, none, none] ∧ Ex H2 H') (fun H3 e3 => ⟨none, none, none, none, none, rfl, e3⟩) ?_ ?_
  · rintro i σ' H' hi ⟨z7, z8, z9, z10, z11, rfl, ex⟩
    have hi : i < 64 := by omega
    have hix := ixN_lt hi
    have hrot := rotI_le hi
    have hstep : itI ws s (i + 1) = stepI ws i (itI ws s i) := rfl
    have hRu := InR.it (ws := ws) hR i
    rw [hstep]
    generalize itI ws s i = u at *
    obtain ⟨ra, rb, rc, rd⟩ := hRu
    obtain ⟨ix, hixe⟩ : ∃ ix, ixN i = ix := ⟨_, rfl⟩
    rw [hixe] at hix
    refine q_asg (v := .int ((4 * ix : Nat) : Int)) (Ev.is (ev_I (j := (ix : Int)) ev_c (Ev.is (ev_call (ea_cons (ev_var rfl) ea_nil) fun H1 e Q q _ => ⟨i, rfl, hi, q⟩) (congrArg V.int (by rw [hixe]))) (.inl (by decide))) (congrArg V.int (by omega))) fun H3 e3 => ?_
    have hbx := (e12.trans (ex.trans e3)) _ _ hb
    have hat : ∀ (j : Nat) {σ : L2.St} {ti : TE} {n : Int}, σ[1]? = some (some (.ref b)) → Ev ti σ H3 (.int n) → n = (j : Int) → j < 64 → Ev (tOp (rIxL K) (tVar 1) ti) σ H3 (.int ((bs.getD j 0 : Nat) : Int)) := fun j σ ti n hs ht hn hj => ev_at (Ev.s (ev_var hs) (sq_of hbx)) ht (at_of (j := j) hn (at_int (cs_at (by rw [List.getD_eq_getElem?_getD, List.getElem?_eq_getElem (by omega)]; rfl))))
    have hlt : ∀ j : Nat, j < 64 → bs.getD j 0 < 256 := fun j hj => by
      rw [List.getD_eq_getElem?_getD, List.getElem?_eq_getElem (by omega)]
      exact hbs _ (List.getElem_mem _)
    have h0 := hlt (4 * ix) (by omega)
    have h1 := hlt (4 * ix + 1) (by omega)
    have h2 := hlt (4 * ix + 2) (by omega)
    have h3 := hlt (4 * ix + 3) (by omega)
    have g0 := fun {σ : L2.St} {ti : TE} {n : Int} => hat (4 * ix) (σ := σ) (ti := ti) (n := n)
    have gg1 := fun {σ : L2.St} {ti : TE} {n : Int} => hat (4 * ix + 1) (σ := σ) (ti := ti) (n := n)
    have gg2 := fun {σ : L2.St} {ti : TE} {n : Int} => hat (4 * ix + 2) (σ := σ) (ti := ti) (n := n)
    have gg3 := fun {σ : L2.St} {ti : TE} {n : Int} => hat (4 * ix + 3) (σ := σ) (ti := ti) (n := n)
    have hw : ws.getD ix 0 = ((bs.getD (4 * ix) 0 + bs.getD (4 * ix + 1) 0 * 2 ^ 8 + bs.getD (4 * ix + 2) 0 * 2 ^ 16 + bs.getD (4 * ix + 3) 0 * 2 ^ 24 : Nat) : Int) := by
      rw [← hws]
      unfold wordsI
      rw [List.getD_eq_getElem?_getD, List.getElem?_map, List.getElem?_range hix]
      rfl
    have hm0 : stepI ws i u = ⟨u.d, Builtin.bitAnd (u.b + Builtin.bitOr (Builtin.bitAnd (u.a + fI i u.b u.c u.d + cstL.getD i 0 + ws.getD (ixN i) 0) 4294967295 * 2 ^ (rotI i).toNat) (Builtin.bitAnd (u.a + fI i u.b u.c u.d + cstL.getD i 0 + ws.getD (ixN i) 0) 4294967295 / 2 ^ (32 - rotI i).toNat)) 4294967295, u.b, u.c⟩ := rfl
    rw [hm0, hixe]
    generalize ws.getD ix 0 = wv at *
    generalize bs.getD (4 * ix) 0 = b0 at *
    generalize bs.getD (4 * ix + 1) 0 = b1 at *
    generalize bs.getD (4 * ix + 2) 0 = b2 at *
    generalize bs.getD (4 * ix + 3) 0 = b3 at *
    refine q_asg (v := .int wv) (Ev.is (ev_I0 (ev_I0 (ev_I0 (g0 rfl (ev_var rfl) rfl (by omega)) (ev_I (gg1 rfl (ev_I0 (ev_var rfl) ev_c) (by omega) (by omega)) ev_c (show CPow (b1 : Int) 8 from ⟨by decide, by decide, by omega⟩))) (ev_I (gg2 rfl (ev_I0 (ev_var rfl) ev_c) (by omega) (by omega)) ev_c (show CPow (b2 : Int) 16 from ⟨by decide, by decide, by omega⟩))) (ev_I (gg3 rfl (ev_I0 (ev_var rfl) ev_c) (by omega) (by omega)) ev_c (show CPow (b3 : Int) 24 from ⟨by decide, by decide, by omega⟩))) (congrArg V.int (by rw [hw]; show (b0 : Int) + (b1 : Int) * 2 ^ 8 + (b2 : Int) * 2 ^ 16 + (b3 : Int) * 2 ^ 24 = _; omega))) fun H4 e4 => ?_
    obtain ⟨m, hm⟩ : ∃ m, m = Builtin.bitAnd (u.a + fI i u.b u.c u.d + cstL.getD i 0 + wv) 4294967295 := ⟨_, rfl⟩
    have hm2 : m = (u.a + fI i u.b u.c u.d + cstL.getD i 0 + wv) % 2 ^ 32 := hm.trans (bitAnd_maskZ _ 32)
    have hmb : 0 ≤ m ∧ m < 4294967296 := by rw [hm2]; omega
    rw [← hm]
    have e34 := e3.trans e4
    refine q_asg (v := .int m) (Ev.is (ev_I (ev_int1 (ev_I0 (ev_I0 (ev_I0 (ev_var rfl) (ev_call (z := .int (fI i u.b u.c u.d)) (ea_cons (ev_var rfl) (ea_cons (ev_var rfl) (ea_cons (ev_var rfl) (ea_cons (ev_var rfl) ea_nil)))) fun H1 e Q q _ => ⟨i, _, _, _, rfl, hi, rb.1, rb.2, rd.1, rd.2, q⟩)) (ev_at (Ev.s (ev_var rfl) (sq_of ((e2.trans (ex.trans e34)) _ _ g1))) (ev_var rfl) (at_of (j := i) rfl (show _ = some (V.int (cstL.getD i 0)) from at_int (ns := cstL) (gl_get hi))))) (ev_var rfl))) ev_c (by decide)) (congrArg V.int hm2.symm)) fun H5 e5 => ?_
    refine q_asg (v := .int (rotI i)) (ev_call (ea_cons (ev_var rfl) ea_nil) fun H1 e Q q _ => ⟨i, rfl, hi, q⟩) fun H6 e6 => ?_
    have hte := turn_eq (b := u.b) hi hmb.1 hmb.2
    refine q_asg (v := .int (m * 2 ^ (rotI i).toNat % 4294967296 + m / 2 ^ (32 - rotI i).toNat)) (ev_I0 (ev_I (ev_int1 (ev_I (ev_var rfl) (ev_var rfl) (show CPow m (rotI i) from ⟨by omega, by omega, by omega⟩))) ev_c (by decide)) (ev_I (ev_var rfl) (ev_I0 ev_c (ev_var rfl)) (by show (0 : Int) ≤ _; omega))) fun H7 e7 => ?_
    refine q_asg (v := .int u.d) (ev_var rfl) fun H8 e8 => ?_
    refine q_asg (v := .int u.c) (ev_var rfl) fun H9 e9 => ?_
    refine q_asg (v := .int u.b) (ev_var rfl) fun H10 e10 => ?_
    refine s_asg (v := .int (Builtin.bitAnd (u.b + Builtin.bitOr (m * 2 ^ (rotI i).toNat) (m / 2 ^ (32 - rotI i).toNat)) 4294967295)) (Ev.is (ev_I (ev_int1 (ev_I0 (ev_var rfl) (ev_var rfl))) ev_c (by decide)) (congrArg V.int hte)) fun H11 e11 => ⟨_, _, _, _, _, rfl, (ex.trans e34).trans (((e5.trans e6).trans (e7.trans e8)).trans ((e9.trans e10).trans e11))⟩
  · rintro σ' H' ⟨z7, z8, z9, z10, z11, rfl, ex⟩
    rw [show (64 : Int).toNat = 64 from rfl]
    have hblk : blkI s ws = ⟨Builtin.bitAnd (s.a + (itI ws s 64).a) 4294967295, Builtin.bitAnd (s.b + (itI ws s 64).b) 4294967295, Builtin.bitAnd (s.c + (itI ws s 64).c) 4294967295, Builtin.bitAnd (s.d + (itI ws s 64).d) 4294967295⟩ := rfl
    rw [hblk] at k
    generalize itI ws s 64 = u at *
    refine q_asgL (xs := u.l.map V.int) (el_lst (ea_cons (ev_var rfl) (ea_cons (ev_var rfl) (ea_cons (ev_var rfl) (ea_cons (ev_var rfl) ea_nil)))) (Nat.le_of_ble_eq_true rfl)) fun pn H3 hpn e3 g3 => ?_
    have ex3 := e12.trans (ex.trans e3)
    have hgt : ∀ (j : Nat) (x y : Int) (H4 : Hp), Ex H3 H4 → (s.l.map V.int)[j]? = some (.int x) → (u.l.map V.int)[j]? = some (.int y) → ∀ {σ : L2.St}, σ[0]? = some (some (.ref st)) → σ[12]? = some (some (.ref pn)) → σ[13]? = some (some (.int (j : Int))) → Ev (tOp (rI (fun _ j => 0 < j) fun i j => .int (i % j)) (tCB (fun xs H Q => (∃ i, xs = [V.int i] ∧ Q (V.int i) H) ∨ ∃ k, xs = [V.bl k] ∧ Q (V.int (if k = true then 1 else 0)) H) (tCons (tOp (rI0 fun i j => .int (i + j)) (tOp (rIxL K) (tVar 0) (tVar 13)) (tOp (rIxL K) (tVar 12) (tVar 13))) tNil)) (tC (.int 4294967296))) σ H4 (.int (Builtin.bitAnd (x + y) 4294967295)) := fun j x y H4 e4 hx hy σ s0 s12 s13 =>
      Ev.is (ev_I (ev_int1 (ev_I0 (ev_at (Ev.s (ev_var s0) (sq_of ((ex3.trans e4) _ _ hst))) (ev_var s13) (at_of rfl hx)) (ev_at (Ev.s (ev_var s12) (sq_of (e4 _ _ g3))) (ev_var s13) (at_of rfl hy)))) ev_c (by decide)) (congrArg V.int (bitAnd_maskZ _ 32).symm)
    refine s_retL (xs := W4.l ⟨Builtin.bitAnd (s.a + u.a) 4294967295, Builtin.bitAnd (s.b + u.b) 4294967295, Builtin.bitAnd (s.c + u.c) 4294967295, Builtin.bitAnd (s.d + u.d) 4294967295⟩ |>.map V.int) (el_lcR (n := 4) _ (ea_cons ev_c ea_nil) (by decide) rfl (Nat.le_of_ble_eq_true rfl) (fun _ => rfl) fun i H4 e4 hi => ?_) fun p H4 hp e4 g4 => k p H4 (fresh_back ex3 hp) (ex3.trans e4) g4
    match i, hi with
    | 0, _ => exact ⟨_, rfl, hgt 0 s.a u.a H4 e4 rfl rfl rfl rfl rfl⟩
    | 1, _ => exact ⟨_, rfl, hgt 1 s.b u.b H4 e4 rfl rfl rfl rfl rfl⟩
    | 2, _ => exact ⟨_, rfl, hgt 2 s.c u.c H4 e4 rfl rfl rfl rfl rfl⟩
    | 3, _ => exact ⟨_, rfl, hgt 3 s.d u.d H4 e4 rfl rfl rfl rfl rfl⟩
    | n + 4, h => exact absurd h (by show ¬ n + 4 < 4; omega)
def sp_ldig : Sp := fun vs H Q _ => ∃ (d : Addr) (ds : List Nat), vs = [.ref d] ∧ H d = some (.lst ((cs ds).map V.int)) ∧ (∀ x ∈ ds, x < 256) ∧ ds.length ≤ 1000 ∧ RetL ((digI ds).map V.int) H Q
theorem ok_law_digest (T : TX K mg) : FnOk P w K mg base CX0 3 T.a_law_digest T.d_law_digest ["data"] sp_ldig := by
  refine T.F_law_digest.ok sc_law_digest (fun vs H Q E h => by obtain ⟨d, ds, rfl, _⟩ := h; rfl) (fun cdv A outer s0 H vs Q E hr h => ?_)
  obtain ⟨d, ds, rfl, hd, hds, hl, k⟩ := h
  refine ⟨_, (pss_cons (ps_set (i := 1) sc_law_digest.nd rfl (Or.inl rfl) (pe_op op_cat (pv 0) (pe_lst (pa_cons pe_int pa_nil))))
      (pss_cons (ps_set (i := 1) sc_law_digest.nd rfl (Or.inl rfl) (pe_op op_cat (pv 1) (pe_op op_rep (pe_lst (pa_cons pe_int pa_nil)) (pe_op op_mod (pe_callTy call_int1 (by rfl) T.m_int PyProof.Rows.boot_int (pa_cons (pe_op op_sub pe_int (pe_callB (r := rLenS K) call_len_seq (by rfl) T.m_len PySem.boot_len (pa_cons (pv 1) pa_nil))) pa_nil)) pe_int))))
      (pss_cons (ps_set (i := 1) sc_law_digest.nd rfl (Or.inl rfl) (pe_op op_cat (pv 1) (pe_lc (own := [("k", 2)]) (g := gName 2) (tt := tYes) rfl sc_law_digest.nd (pi_range1 (by rfl) T.m_range (pa_cons pe_int pa_nil)) (blkOk_by (N := ["data", "whole", "k", "state", "result", "word"]) (sc := defScope s_law_digest) (by decide +kernel)) (fun _ _ _ _ _ => pg_name (i := 2) sc_law_digest.nd rfl (Or.inl rfl)) (fun _ _ _ _ _ => pts_nil) (fun _ _ _ _ _ => (pe_op op_and (pe_op op_shr (pe_op op_mul pe_int (pe_callB (r := rLenS K) call_len_seq (by rfl) T.m_len PySem.boot_len (pa_cons (pv 0) pa_nil))) (pe_op op_mul pe_int (pv 2))) pe_int)))))
      (pss_cons (ps_set (i := 3) sc_law_digest.nd rfl (Or.inl rfl) (pe_lst (pa_cons pe_int (pa_cons pe_int (pa_cons pe_int (pa_cons pe_int pa_nil))))))
      (pss_cons (ps_for PassesOwn.never rfl (pi_range1 (by rfl) T.m_range (pa_cons (pe_op op_fdiv (pe_callB (r := rLenS K) call_len_seq (by rfl) T.m_len PySem.boot_len (pa_cons (pv 1) pa_nil)) pe_int) pa_nil)) (pg_name (i := 2) sc_law_digest.nd rfl (Or.inl rfl)) (pss_one (ps_set (i := 3) sc_law_digest.nd rfl (Or.inl rfl) (pe_call (ok_law_block T) (hr.mono (by decide)) (by rfl) T.g_law_block T.F_law_block.kp T.b_law_block .nil pass0 (pa_cons (pv 3) (pa_cons (pe_slice (r := rSlL K) sl_list (pv 1) (po_some (pe_op op_mul pe_int (pv 2))) (po_some (pe_op op_add (pe_op op_mul pe_int (pv 2)) pe_int))) pa_nil))))))
      (pss_cons (ps_set (i := 4) sc_law_digest.nd rfl (Or.inl rfl) (pe_lst pa_nil))
      (pss_cons (ps_for PassesOwn.never rfl (pi_list (pv 3)) (pg_name (i := 5) sc_law_digest.nd rfl (Or.inl rfl)) (pss_one (ps_for PassesOwn.never rfl (pi_range1 (by rfl) T.m_range (pa_cons pe_int pa_nil)) (pg_name (i := 2) sc_law_digest.nd rfl (Or.inl rfl)) (pss_one (ps_expr (pe_bm PySem.F.plainAttrs_list PySem.F.slot_list_append PySem.F.type_list_append mt_append (pv 4) (pa_cons (pe_op op_and (pe_op op_shr (pv 5) (pe_op op_mul pe_int (pv 2))) pe_int) pa_nil)))))))
      (pss_one (ps_ret (pv 4)))))))))), ?_⟩
  have hpl := padB_len ds.length
  have hlv : ∀ {xs : List Nat} {σ : L2.St} {H1 : Hp} {te : TE} {q : Addr}, Ev te σ H1 (.ref q) → H1 q = some (.lst ((cs xs).map V.int)) → Ev (tCB (rLenS K) (tCons te tNil)) σ H1 (.int (xs.length : Int)) := fun h g => Ev.is (ev_lenS (Ev.s h (sq_of g))) (by rw [List.length_map, cs_len])
  obtain ⟨zn, hzn⟩ : ∃ zn, (55 + 64 * ds.length - ds.length) % 64 = zn := ⟨_, rfl⟩
  have hzl : zn < 64 := by omega
  refine q_asgL (xs := (cs (ds ++ [128])).map V.int) (EvL.is (el_cat (Ev.r (ev_var rfl) hd) (EvL.r (el_lst (ea_cons ev_c ea_nil) (by decide))) (by rw [List.length_map, cs_len]; show _ + 1 ≤ _; omega)) (by rw [cs_append, List.map_append]; rfl)) fun p1 H1 hp1 e1 g1 => ?_
  refine q_asgL (xs := (cs (ds ++ [128] ++ List.replicate zn 0)).map V.int) (EvL.is (el_cat (ys := List.replicate zn (V.int 0)) (Ev.r (ev_var rfl) g1) (EvL.r (EvL.is (ys := List.replicate zn (V.int 0)) (el_rep (k := (zn : Int)) (EvL.r (el_lst (ea_cons ev_c ea_nil) (by decide))) (Ev.is (ev_I (ev_int1 (ev_I0 ev_c (hlv (ev_var rfl) g1))) ev_c (by decide)) (congrArg V.int (by rw [List.length_append]; show (56 - ((ds.length + 1 : Nat) : Int)) % 64 = _; omega))) (by omega) (by rw [Int.toNat_natCast]; show 1 * _ ≤ _; omega)) (by rw [Int.toNat_natCast]; exact rep_one _))) (by rw [List.length_map, cs_len, List.length_append, List.length_replicate]; show _ + 1 + _ ≤ _; omega)) (by rw [cs_append (ds ++ [128]), List.map_append]; congr 1; unfold cs; rw [List.map_replicate, List.map_replicate]; rfl)) fun p2 H2 hp2 e2 g2 => ?_
  have e12 := e1.trans e2
  have hwe : ds ++ [128] ++ List.replicate zn 0 ++ lowN (8 * ds.length) 8 = ds ++ padB ds.length := by
    unfold padB
    rw [hzn]
    simp only [List.append_assoc]
  refine q_asgL (xs := (cs (ds ++ padB ds.length)).map V.int) (EvL.is (ys := (cs (ds ++ padB ds.length)).map V.int) (el_cat (ys := (cs (lowN (8 * ds.length) 8)).map V.int) (Ev.r (ev_var rfl) g2) (EvL.r (el_lcR (n := 8) _ (ea_cons ev_c ea_nil) (by decide) (by rw [List.length_map, cs_len, lowN_len]; rfl) (by rw [List.length_map, cs_len, lowN_len]; decide) (fun _ => rfl) fun i H3 e3 hi => ?_)) ?_) ?_) fun p3 H3 hp3 e3 g3 => ?_
  · rw [List.length_map, cs_len, lowN_len] at hi
    refine ⟨_, at_int (cs_at (d := 8 * ds.length / 2 ^ (8 * i) % 256) (by unfold lowN; rw [List.getElem?_map, List.getElem?_range hi]; rfl)), Ev.is (ev_I0 (ev_I (i := ((8 * ds.length : Nat) : Int)) (j := ((8 * i : Nat) : Int)) (Ev.is (ev_I ev_c (hlv (ev_var rfl) ((e12.trans e3) _ _ hd)) (.inl (by decide))) (congrArg V.int (by omega))) (Ev.is (ev_I ev_c (ev_var rfl) (.inl (by decide))) (congrArg V.int (by omega))) (by show (0 : Int) ≤ _; omega)) ev_c) (congrArg V.int ?_)⟩
    rw [Int.toNat_natCast]
    refine (bitAnd_maskZ _ 8).trans ?_
    rw [Int.natCast_emod, Int.natCast_ediv, Int.natCast_pow]
    rfl
  · rw [List.length_map, List.length_map, cs_len, cs_len, lowN_len, List.length_append, List.length_append, List.length_replicate]
    show _ + 1 + _ + _ ≤ _
    omega
  · rw [← List.map_append, ← cs_append, hwe]
  have e13 := e12.trans e3
  have hwl : (ds ++ padB ds.length).length = 64 * ((ds ++ padB ds.length).length / 64) := by rw [List.length_append, hpl]; omega
  have hwl2 : (ds ++ padB ds.length).length ≤ 2000 := by rw [List.length_append, hpl]; omega
  have hwb : ∀ x ∈ ds ++ padB ds.length, x < 256 := fun x hx => by
    rcases List.mem_append.mp hx with h | h
    · exact hds x h
    · exact padB_lt _ x h
  have hdig : digI ds = (blksI w0 (ds ++ padB ds.length) ((ds ++ padB ds.length).length / 64)).l.flatMap fun w => lowB w 4 := by
    have h1 : 64 * whl ds ≤ ds.length := by unfold whl; omega
    have h2 : rest ds ++ padB ds.length = (ds ++ padB ds.length).drop (64 * whl ds) := by unfold rest; rw [List.drop_append_of_le_length h1]
    have h3 : stt ds = blksI w0 (ds ++ padB ds.length) (whl ds) := by unfold stt; rw [blks_ext _ _ _ _ h1]
    unfold digI
    rw [h3, h2, ← blks_add]
    congr 3
    unfold whl
    rw [List.length_drop, List.length_append]
    omega
  rw [hdig] at k
  generalize ds ++ padB ds.length = wt at *
  obtain ⟨nb, hnb⟩ : ∃ nb, wt.length / 64 = nb := ⟨_, rfl⟩
  rw [hnb] at hwl k
  have hR0 : InR w0 := ⟨by decide, by decide, by decide, by decide⟩
  refine q_asgL (xs := w0.l.map V.int) (el_lst (ea_cons ev_c (ea_cons ev_c (ea_cons ev_c (ea_cons ev_c ea_nil)))) (Nat.le_of_ble_eq_true rfl)) fun p4 H4 hp4 e4 g4 => ?_
  refine q_forR1 (n := (nb : Int)) (ea_cons (Ev.is (ev_I (hlv (ev_var rfl) (e4 _ _ g3)) ev_c ⟨by decide, by decide⟩) (congrArg V.int (by omega))) ea_nil) (by omega) (fun i σ' H' => ∃ (st : Addr) (z2 : Option V), σ' = [some (.ref d), some (.ref p3), z2, some (.ref st), none, none] ∧ Ex H3 H' ∧ H' st = some (.lst ((blksI w0 wt i).l.map V.int))) (fun H5 e5 => ⟨p4, none, rfl, e4.trans e5, e5 _ _ g4⟩) ?_ ?_
  · rintro i σ' H' hi ⟨st, z2, rfl, ex, gst⟩
    have hi : i < nb := by omega
    have hlen : ((wt.drop (64 * i)).take 64).length = 64 := by rw [List.length_take, List.length_drop]; omega
    refine s_asgC2L (x := .ref st) (xs := (cs ((wt.drop (64 * i)).take 64)).map V.int) (ev_var rfl) (EvL.is (el_mid (ns := cs wt) (i := 64 * i) (j := 64 * i + 64) (Ev.s (ev_var rfl) (sq_of (ex _ _ g3))) (Ev.is (ev_I ev_c (ev_var rfl) (.inl (by decide))) (congrArg V.int (by omega))) (Ev.is (ev_I0 (ev_I ev_c (ev_var rfl) (.inl (by decide))) ev_c) (congrArg V.int (by omega)))) (by rw [cs_drop, cs_take, show 64 * i + 64 - 64 * i = 64 by omega])) fun p H5 e5 g5 => ⟨st, p, blksI w0 wt i, (wt.drop (64 * i)).take 64, rfl, e5 _ _ gst, InR.blks hR0 i, g5, hlen, fun x hx => hwb x (List.mem_of_mem_drop (List.mem_of_mem_take hx)), fun r H6 hr e6 g6 => ⟨r, _, rfl, ex.trans (e5.trans e6), g6⟩⟩
  · rintro σ' H' ⟨st, z2, rfl, ex, gst⟩
    rw [Int.toNat_natCast] at gst
    generalize blksI w0 wt nb = u at *
    refine q_asgL (xs := []) (el_lst ea_nil (by decide)) fun pr H5 hpr e5 g5 => ?_
    have ex5 := e13.trans (ex.trans e5)
    have hpr0 : H pr = none := fresh_back (e13.trans ex) hpr
    have nst : st ≠ pr := fresh_ne hpr gst
    refine q_forLn (K := K) (a := st) (xs := u.l.map V.int) (ev_var rfl) (sq_of (e5 _ _ gst)) (fun i σ' H' => ∃ (z2 z5 : Option V), σ' = [some (.ref d), some (.ref p3), z2, some (.ref st), some (.ref pr), z5] ∧ Ex H H' ∧ H' st = some (.lst (u.l.map V.int)) ∧ H' pr = some (.lst (((u.l.take i).flatMap fun w => lowB w 4).map V.int))) (fun H6 e6 => ⟨z2, none, rfl, ex5.trans e6, e6 _ _ (e5 _ _ gst), e6 _ _ g5⟩) (fun i σ' H' _ h => by obtain ⟨_, _, _, _, h, _⟩ := h; exact sq_of h) ?_ ?_
    · rintro i x σ' H6 hx ⟨z2, z5, rfl, ex6, gst6, gr6⟩
      obtain ⟨wv, hwv, hi, rfl⟩ := int_at hx
      have hi4 : i < 4 := hi
      rw [show (u.l.take (i + 1)).flatMap (fun w => lowB w 4) = (u.l.take i).flatMap (fun w => lowB w 4) ++ lowB wv 4 from by rw [List.take_add_one, hwv]; show (u.l.take i ++ [wv]).flatMap _ = _; rw [List.flatMap_append, List.flatMap_cons, List.flatMap_nil, List.append_nil]]
      have hdl : ((u.l.take i).flatMap fun w => lowB w 4).length ≤ 16 := by
        rw [List.length_flatMap]
        have : ∀ (l : List Int), (l.map fun w => (lowB w 4).length).sum = 4 * l.length := fun l => by
          induction l with
          | nil => rfl
          | cons a r ih => rw [List.map_cons, List.sum_cons, ih, lowB_len, List.length_cons]; omega
        rw [this, List.length_take]
        omega
      generalize (u.l.take i).flatMap (fun w => lowB w 4) = dn at *
      refine s_forR1 (n := 4) (ea_cons ev_c ea_nil) (by decide) (fun j σ' H' => ∃ (z2 : Option V), σ' = [some (.ref d), some (.ref p3), z2, some (.ref st), some (.ref pr), some (.int wv)] ∧ Ex H H' ∧ H' st = some (.lst (u.l.map V.int)) ∧ H' pr = some (.lst ((dn ++ (lowB wv 4).take j).map V.int))) (fun H7 e7 => ⟨_, rfl, ex6.trans e7, e7 _ _ gst6, by rw [List.take_zero, List.append_nil]; exact e7 _ _ gr6⟩) ?_ ?_
      · rintro j σ' H7 hj ⟨z2, rfl, ex7, gst7, gr7⟩
        have hj : j < 4 := by omega
        refine s_app (v := .int (wv / 2 ^ (8 * j) % 256)) gr7 (ev_var rfl) (Ev.is (ev_I0 (ev_I (j := ((8 * j : Nat) : Int)) (ev_var rfl) (Ev.is (ev_I ev_c (ev_var rfl) (.inl (by decide))) (congrArg V.int (by omega))) (by show (0 : Int) ≤ _; omega)) ev_c) (congrArg V.int (by rw [Int.toNat_natCast]; exact bitAnd_maskZ _ 8))) (by rw [List.length_map, List.length_append, List.length_take]; omega) fun H8 e8 => ⟨_, rfl, Ex.mut (ex7.trans e8) hpr0, by rw [upd_ne nst]; exact e8 _ _ gst7, ?_⟩
        have hjx : (lowB wv 4)[j]? = some (wv / 2 ^ (8 * j) % 256) := by unfold lowB; rw [List.getElem?_map, List.getElem?_range hj]; rfl
        rw [upd_same, take_snocI hjx, ← List.append_assoc]
        exact congrArg (fun z => some (HO.lst z)) (List.map_append (f := V.int) (l₁ := dn ++ (lowB wv 4).take j) (l₂ := [wv / 2 ^ (8 * j) % 256])).symm
      · rintro σ' H7 ⟨z2, rfl, ex7, gst7, gr7⟩
        exact ⟨_, _, rfl, ex7, gst7, by rw [show (4 : Int).toNat = 4 from rfl, show (lowB wv 4).take 4 = lowB wv 4 from List.take_of_length_le (by rw [lowB_len]; exact Nat.le_refl _)] at gr7; exact gr7⟩
    · rintro σ' H6 ⟨z2, z5, rfl, ex6, gst6, gr6⟩
      rw [show (u.l.map V.int).length = 4 from rfl, show u.l.take 4 = u.l from rfl] at gr6
      exact s_ret (v := .ref pr) (ev_var rfl) fun H7 e7 => k pr H7 hpr0 (ex6.trans e7) (e7 _ _ gr6)
def sp_law (K : PySem.W.Frag) : Sp := fun vs H Q _ => ∃ (a : Addr) (ns : List Int), vs = [.ref a] ∧ SqL K H a (ns.map V.int) ∧ ns.length ≤ 63 ∧ ∀ H', Q (.bl true) H'
theorem ok_law (T : TX K mg) : FnOk P w K mg base CX0 6 T.a_law T.d_law ["script"] (sp_law K) := by
  refine T.F_law.ok sc_law (fun vs H Q E h => by obtain ⟨a, ns, rfl, _⟩ := h; rfl) (fun cdv A outer s H vs Q E hr h => ?_)
  obtain ⟨a, ns, rfl, hS, hlen, q⟩ := h
  refine ⟨_, (pss_cons (ps_set (i := 1) sc_law.nd rfl (Or.inl rfl) (pe_callTy call_int1 (by rfl) T.m_int PyProof.Rows.boot_int (pa_cons (pe_call (ok_law_cell T) (hr.mono (by decide)) (by rfl) T.g_law_cell T.F_law_cell.kp T.b_law_cell .nil pass0 (pa_cons (pv 0) (pa_cons pe_int pa_nil))) pa_nil)))
      (pss_cons (ps_set (i := 2) sc_law.nd rfl (Or.inl rfl) (pe_op op_mod (pe_op op_fdiv (pv 1) pe_int) pe_int))
      (pss_cons (ps_if (pt_cmpR op_eq (pe_op op_mod (pv 1) pe_int) pe_int (nomark _)) (pss_one (ps_set (i := 2) sc_law.nd rfl (Or.inl rfl) (pe_op op_add pe_int (pe_op op_mod (pe_op op_fdiv (pv 1) pe_int) pe_int)))) pss_nil)
      (pss_cons (ps_if (PW.pt (pw_and (pt_cmpR op_eq (pe_op op_mod (pv 1) pe_int) pe_int (nomark _)) (pw_and1 (pt_cmpR op_eq (pe_op op_mod (pe_op op_fdiv (pv 1) pe_int) pe_int) pe_int (nomark _))))) (pss_one (ps_set (i := 2) sc_law.nd rfl (Or.inl rfl) (pe_op op_mod (pe_op op_fdiv (pv 1) pe_int) pe_int))) pss_nil)
      (pss_cons (ps_set (i := 3) sc_law.nd rfl (Or.inl rfl) (pe_call (ok_law_draw T) (hr.mono (by decide)) (by rfl) T.g_law_draw T.F_law_draw.kp T.b_law_draw .nil pass0 (pa_cons (pe_call (ok_law_cell T) (hr.mono (by decide)) (by rfl) T.g_law_cell T.F_law_cell.kp T.b_law_cell .nil pass0 (pa_cons (pv 0) (pa_cons pe_int pa_nil))) (pa_cons (pv 2) (pa_cons pe_int pa_nil)))))
      (pss_cons (ps_set (i := 4) sc_law.nd rfl (Or.inl rfl) (pe_callTy (r := rListS K) call_list_of (by rfl) T.m_list PyProof.Rows.boot_list (pa_cons (pv 3) pa_nil)))
      (pss_cons (ps_set (i := 5) sc_law.nd rfl (Or.inl rfl) (pe_call (ok_law_digest T) (hr.mono (by decide)) (by rfl) T.g_law_digest T.F_law_digest.kp T.b_law_digest .nil pass0 (pa_cons (pv 3) pa_nil)))
      (pss_cons (ps_set (i := 6) sc_law.nd rfl (Or.inl rfl) (pe_call (ok_md5 T) (hr.mono (by decide)) (by rfl) T.g_md5 T.F_md5.kp T.b_md5 .nil pass0 (pa_cons (pv 4) pa_nil)))
      (pss_cons (ps_if (PW.pt (pw_or (pt_not (pt_val (pe_call (ok_law_same T) (hr.mono (by decide)) (by rfl) T.g_law_same T.F_law_same.kp T.b_law_same .nil pass0 (pa_cons (pv 6) (pa_cons (pv 5) pa_nil))))) (pw_or1 (pt_cmpR (op_neD (hu64 hr)) (pv 4) (pv 3) (nomark _))))) (pss_one (ps_ret pe_bl)) pss_nil)
      (pss_cons (ps_asg pe_int (pg_sub (pv 6) pe_int set_list))
      (pss_one (ps_ret (pe_call (ok_law_same T) (hr.mono (by decide)) (by rfl) T.g_law_same T.F_law_same.kp T.b_law_same .nil pass0 (pa_cons (pe_call (ok_md5 T) (hr.mono (by decide)) (by rfl) T.g_md5 T.F_md5.kp T.b_md5 .nil pass0 (pa_cons (pv 4) pa_nil)) (pa_cons (pv 5) pa_nil))))))))))))))), ?_⟩
  obtain ⟨c, hc⟩ : ∃ c, cellI ns 0 = c := ⟨_, rfl⟩
  refine q_asg (v := .int c) (Ev.is (ev_int1 (ev_cell (ev_var rfl) hS ev_c (by decide))) (congrArg V.int hc)) fun H1 e1 => ?_
  refine q_asg (v := .int (c / 3 % 76)) (ev_I (ev_I (ev_var rfl) ev_c ⟨by decide, by decide⟩) ev_c (by decide)) fun H2 e2 => ?_
  obtain ⟨m1, hm1⟩ : ∃ m : Nat, (if decide (V.int (c % 3) = V.int 0) = true then 54 + c / 3 % 13 else c / 3 % 76) = (m : Int) := ⟨(if decide (V.int (c % 3) = V.int 0) = true then 54 + c / 3 % 13 else c / 3 % 76).toNat, by split <;> omega⟩
  have hm1b : m1 ≤ 300 := by split at hm1 <;> omega
  refine q_ifAsg (b := decide (V.int (c % 3) = V.int 0)) (v := .int (m1 : Int)) (et_test (ev_eq (ev_I (ev_var rfl) ev_c (by decide)) ev_c rfl)) (fun hb => Ev.is (ev_I0 ev_c (ev_I (ev_I (ev_var rfl) ev_c ⟨by decide, by decide⟩) ev_c (by decide))) (by rw [← hm1, if_pos hb])) (fun hb => by rw [← hm1, if_neg (by rw [hb]; decide)]; rfl) fun H3 e3 => ?_
  obtain ⟨m2, hm2⟩ : ∃ m : Nat, (if (decide (V.int (c % 3) = V.int 1) && decide (V.int (c / 228 % 5) = V.int 0)) = true then c / 1140 % 260 else (m1 : Int)) = (m : Int) := ⟨(if (decide (V.int (c % 3) = V.int 1) && decide (V.int (c / 228 % 5) = V.int 0)) = true then c / 1140 % 260 else (m1 : Int)).toNat, by split <;> omega⟩
  have hm2b : m2 ≤ 300 := by split at hm2 <;> omega
  refine q_ifAsg (b := decide (V.int (c % 3) = V.int 1) && decide (V.int (c / 228 % 5) = V.int 0)) (v := .int (m2 : Int)) (et_and (et_test (ev_eq (ev_I (ev_var rfl) ev_c (by decide)) ev_c rfl)) fun _ => et_test (ev_eq (ev_I (ev_I (ev_var rfl) ev_c ⟨by decide, by decide⟩) ev_c (by decide)) ev_c rfl)) (fun hb => Ev.is (ev_I (ev_I (ev_var rfl) ev_c ⟨by decide, by decide⟩) ev_c (by decide)) (by rw [← hm2, if_pos hb])) (fun hb => by rw [← hm2, if_neg (by rw [hb]; decide)]; rfl) fun H4 e4 => ?_
  have ex4 := (e1.trans e2).trans (e3.trans e4)
  refine q_asgC (vs := [.int (cellI ns 1), .int (m2 : Int), .int 256]) (ea_cons (ev_cell (ev_var rfl) (ex_l ex4 hS) ev_c (by decide)) (ea_cons (ev_var rfl) (ea_cons ev_c ea_nil))) fun H5 e5 => ⟨_, m2, _, rfl, by omega, by omega, by decide, by decide, fun pd us H6 hpd e6 g6 hl6 hv6 => ?_⟩
  obtain ⟨ds, rfl, hdl, hdb⟩ := cs_of hv6
  rw [cs_len] at hl6
  have hb8 : ∀ x ∈ ds, x < 256 := fun x hx => by have := hdb x hx; omega
  refine q_asgL (xs := (cs ds).map V.int) (el_of (Ev.s (ev_var rfl) (sq_of g6))) fun ph H7 hph e7 g7 => ?_
  have hdg := digI_len ds
  refine q_asgL (xs := (digI ds).map V.int) (el_call (ea_cons (ev_var rfl) ea_nil) fun H8 e8 Q q2 _ => ⟨pd, ds, rfl, (e7.trans e8) _ _ g6, hb8, by omega, q2⟩) fun pe H8 hpe e8 g8 => ?_
  refine q_asgL (xs := (digI ds).map V.int) (el_call (ea_cons (ev_var rfl) ea_nil) fun H9 e9 Q q2 _ => ⟨ph, ds, rfl, (e8.trans e9) _ _ g7, hb8, by omega, q2⟩) fun pf H9 hpf e9 g9 => ?_
  refine q_when (b := false) (et_or (a := false) (b := false) (et_not (a := true) (et_B (ev_same (ns := digI ds) (Ev.r (ev_var rfl) g9) (Ev.r (ev_var rfl) (e9 _ _ g8)) (by omega)))) fun _ => et_test (Ev.is (ev_neI (Ev.s (ev_var rfl) (sq_of ((e8.trans e9) _ _ g7))) (Ev.s (ev_var rfl) (sq_of ((e7.trans (e8.trans e9)) _ _ g6)))) (by rw [decide_eq_true rfl]; rfl))) (fun hb => by cases hb) fun _ H10 e10 => ?_
  refine q_setL (v := .int 256) (j := 0) (e10 _ _ g9) ev_c (ev_var rfl) ev_c (by rw [List.length_map, hdg]; decide) fun H11 e11 => ?_
  have n1 : ph ≠ pf := fresh_ne hpf (e8 _ _ g7)
  have n2 : pe ≠ pf := fresh_ne hpf g8
  have gh : (upd H11 pf (.lst (((digI ds).map V.int).set 0 (.int 256)))) ph = some (.lst ((cs ds).map V.int)) := by rw [upd_ne n1]; exact e11 _ _ (e10 _ _ (e9 _ _ (e8 _ _ g7)))
  have ge : (upd H11 pf (.lst (((digI ds).map V.int).set 0 (.int 256)))) pe = some (.lst ((digI ds).map V.int)) := by rw [upd_ne n2]; exact e11 _ _ (e10 _ _ (e9 _ _ g8))
  generalize upd H11 pf (.lst (((digI ds).map V.int).set 0 (.int 256))) = H12 at *
  exact s_ret (v := .bl true) (ev_same (ns := digI ds) (EvL.r (el_call (ea_cons (ev_var rfl) ea_nil) fun H13 e13 Q q2 _ => ⟨ph, ds, rfl, e13 _ _ gh, hb8, by omega, q2⟩)) (Ev.r (ev_var rfl) ge) (by omega)) fun H13 e13 => q _

end
theorem all_mk {l : PySem.W.OpenLaw} {w : World} {K : PySem.W.Frag} {h : Heap} {mg : Str → Option Value} {fa : Addr} {f1 f2 f3 f4 f5 f6 f7 f8 f9 f10 f11 f12 f13 f14 f15 f16 f17 f18 f19 f20 f21 C_Md5 A_START A_ROTATIONS A_ROTATIONS_0 A_ROTATIONS_1 A_ROTATIONS_2 A_ROTATIONS_3 A_CONSTANTS : Addr} (X : K.In h) (G : h.Ns mainGlobals mg) (hfa : mg "law" = some (.ref fa))
    {od1 an1 : Option Addr} {sl1 : Array (Option Value)} {oc1 dc1 pm1 cd1 ct1 : Value} {kV1 : Value} {od2 an2 : Option Addr} {sl2 : Array (Option Value)} {oc2 dc2 pm2 cd2 ct2 : Value} {kV2 : Value} {od3 an3 : Option Addr} {sl3 : Array (Option Value)} {oc3 dc3 pm3 cd3 ct3 : Value} {kV3 : Value} {od4 an4 : Option Addr} {sl4 : Array (Option Value)} {oc4 dc4 pm4 cd4 ct4 : Value} {kV4 : Value} {od5 an5 : Option Addr} {sl5 : Array (Option Value)} {oc5 dc5 pm5 cd5 ct5 : Value} {kV5 : Value} {od6 an6 : Option Addr} {sl6 : Array (Option Value)} {oc6 dc6 pm6 cd6 ct6 : Value} {kV6 : Value} {od7 an7 : Option Addr} {sl7 : Array (Option Value)} {oc7 dc7 pm7 cd7 ct7 : Value} {kV7 : Value} {od8 an8 : Option Addr} {sl8 : Array (Option Value)} {oc8 dc8 pm8 cd8 ct8 : Value} {kV8 : Value} {od9 an9 : Option Addr} {sl9 : Array (Option Value)} {oc9 dc9 pm9 cd9 ct9 : Value} {kV9 : Value} {od10 an10 : Option Addr} {sl10 : Array (Option Value)} {oc10 dc10 pm10 cd10 ct10 : Value} {kV10 : Value} {od11 an11 : Option Addr} {sl11 : Array (Option Value)} {oc11 dc11 pm11 cd11 ct11 : Value} {kV11 : Value} {od12 an12 : Option Addr} {sl12 : Array (Option Value)} {oc12 dc12 pm12 cd12 ct12 : Value} {kV12 : Value} {od13 an13 : Option Addr} {sl13 : Array (Option Value)} {oc13 dc13 pm13 cd13 ct13 : Value} {kV13 : Value} {od14 an14 : Option Addr} {sl14 : Array (Option Value)} {oc14 dc14 pm14 cd14 ct14 : Value} {kV14 : Value} {od15 an15 : Option Addr} {sl15 : Array (Option Value)} {oc15 dc15 pm15 cd15 ct15 : Value} {kV15 : Value} {od16 an16 : Option Addr} {sl16 : Array (Option Value)} {oc16 dc16 pm16 cd16 ct16 : Value} {kV16 : Value} {od17 an17 : Option Addr} {sl17 : Array (Option Value)} {oc17 dc17 pm17 cd17 ct17 : Value} {kV17 : Value} {od18 an18 : Option Addr} {sl18 : Array (Option Value)} {oc18 dc18 pm18 cd18 ct18 : Value} {kV18 : Value} {od19 an19 : Option Addr} {sl19 : Array (Option Value)} {oc19 dc19 pm19 cd19 ct19 : Value} {kV19 : Value} {od20 an20 : Option Addr} {sl20 : Array (Option Value)} {oc20 dc20 pm20 cd20 ct20 : Value} {kV20 : Value} {od21 an21 : Option Addr} {sl21 : Array (Option Value)} {oc21 dc21 pm21 cd21 ct21 : Value} {kV21 : Value} {u_WORD : Value} {wSTART_0 wSTART_1 wSTART_2 wSTART_3 : Value} {dxSTART : Option Addr} {nxSTART : Nat} {sxSTART : Array (Option Value)} {wROTATIONS_0 wROTATIONS_1 wROTATIONS_2 wROTATIONS_3 : Value} {dxROTATIONS : Option Addr} {nxROTATIONS : Nat} {sxROTATIONS : Array (Option Value)} {wROTATIONS_0_0 wROTATIONS_0_1 wROTATIONS_0_2 wROTATIONS_0_3 : Value} {dxROTATIONS_0 : Option Addr} {nxROTATIONS_0 : Nat} {sxROTATIONS_0 : Array (Option Value)} {wROTATIONS_1_0 wROTATIONS_1_1 wROTATIONS_1_2 wROTATIONS_1_3 : Value} {dxROTATIONS_1 : Option Addr} {nxROTATIONS_1 : Nat} {sxROTATIONS_1 : Array (Option Value)} {wROTATIONS_2_0 wROTATIONS_2_1 wROTATIONS_2_2 wROTATIONS_2_3 : Value} {dxROTATIONS_2 : Option Addr} {nxROTATIONS_2 : Nat} {sxROTATIONS_2 : Array (Option Value)} {wROTATIONS_3_0 wROTATIONS_3_1 wROTATIONS_3_2 wROTATIONS_3_3 : Value} {dxROTATIONS_3 : Option Addr} {nxROTATIONS_3 : Nat} {sxROTATIONS_3 : Array (Option Value)} {wCONSTANTS_0 wCONSTANTS_1 wCONSTANTS_2 wCONSTANTS_3 wCONSTANTS_4 wCONSTANTS_5 wCONSTANTS_6 wCONSTANTS_7 wCONSTANTS_8 wCONSTANTS_9 wCONSTANTS_10 wCONSTANTS_11 wCONSTANTS_12 wCONSTANTS_13 wCONSTANTS_14 wCONSTANTS_15 wCONSTANTS_16 wCONSTANTS_17 wCONSTANTS_18 wCONSTANTS_19 wCONSTANTS_20 wCONSTANTS_21 wCONSTANTS_22 wCONSTANTS_23 wCONSTANTS_24 wCONSTANTS_25 wCONSTANTS_26 wCONSTANTS_27 wCONSTANTS_28 wCONSTANTS_29 wCONSTANTS_30 wCONSTANTS_31 wCONSTANTS_32 wCONSTANTS_33 wCONSTANTS_34 wCONSTANTS_35 wCONSTANTS_36 wCONSTANTS_37 wCONSTANTS_38 wCONSTANTS_39 wCONSTANTS_40 wCONSTANTS_41 wCONSTANTS_42 wCONSTANTS_43 wCONSTANTS_44 wCONSTANTS_45 wCONSTANTS_46 wCONSTANTS_47 wCONSTANTS_48 wCONSTANTS_49 wCONSTANTS_50 wCONSTANTS_51 wCONSTANTS_52 wCONSTANTS_53 wCONSTANTS_54 wCONSTANTS_55 wCONSTANTS_56 wCONSTANTS_57 wCONSTANTS_58 wCONSTANTS_59 wCONSTANTS_60 wCONSTANTS_61 wCONSTANTS_62 wCONSTANTS_63 : Value} {dxCONSTANTS : Option Addr} {nxCONSTANTS : Nat} {sxCONSTANTS : Array (Option Value)}
    (a1 : PySem.W.nsIn K mainGlobals "md5" = some (some (.ref f1)))
    (l1 : K.lookup f1 = some ⟨oc1, od1, .func (PySem.W.fnOf "md5" "md5" (defArgs s_md5) (defBody s_md5) (defScope s_md5) .none kV1 dc1 pm1 an1 cd1 ct1), sl1⟩) (c1 : PySem.W.codeIn K cd1 "md5" = true) (k1 : PySem.W.keepIn K (.ref f1) = true)
    (a2 : PySem.W.findIn K (.ref C_Md5) "__init__" = some (some (.ref f2))) (i2 : PySem.W.isFn K (.ref f2) = true)
    (l2 : K.lookup f2 = some ⟨oc2, od2, .func (PySem.W.fnOf "__init__" "Md5.__init__" (defArgs s_Md5_init) (defBody s_Md5_init) (defScope s_Md5_init) .none kV2 dc2 pm2 an2 cd2 ct2), sl2⟩) (c2 : PySem.W.codeIn K cd2 "Md5.__init__" = true) (k2 : PySem.W.keepIn K (.ref f2) = true)
    (a3 : PySem.W.findIn K (.ref C_Md5) "feed" = some (some (.ref f3))) (i3 : PySem.W.isFn K (.ref f3) = true)
    (l3 : K.lookup f3 = some ⟨oc3, od3, .func (PySem.W.fnOf "feed" "Md5.feed" (defArgs s_Md5_feed) (defBody s_Md5_feed) (defScope s_Md5_feed) .none kV3 dc3 pm3 an3 cd3 ct3), sl3⟩) (c3 : PySem.W.codeIn K cd3 "Md5.feed" = true) (k3 : PySem.W.keepIn K (.ref f3) = true)
    (a4 : PySem.W.findIn K (.ref C_Md5) "digest" = some (some (.ref f4))) (i4 : PySem.W.isFn K (.ref f4) = true)
    (l4 : K.lookup f4 = some ⟨oc4, od4, .func (PySem.W.fnOf "digest" "Md5.digest" (defArgs s_Md5_digest) (defBody s_Md5_digest) (defScope s_Md5_digest) .none kV4 dc4 pm4 an4 cd4 ct4), sl4⟩) (c4 : PySem.W.codeIn K cd4 "Md5.digest" = true) (k4 : PySem.W.keepIn K (.ref f4) = true)
    (a5 : PySem.W.nsIn K mainGlobals "_low_bytes" = some (some (.ref f5)))
    (l5 : K.lookup f5 = some ⟨oc5, od5, .func (PySem.W.fnOf "_low_bytes" "_low_bytes" (defArgs s_low_bytes) (defBody s_low_bytes) (defScope s_low_bytes) .none kV5 dc5 pm5 an5 cd5 ct5), sl5⟩) (c5 : PySem.W.codeIn K cd5 "_low_bytes" = true) (k5 : PySem.W.keepIn K (.ref f5) = true)
    (a6 : PySem.W.nsIn K mainGlobals "_padding" = some (some (.ref f6)))
    (l6 : K.lookup f6 = some ⟨oc6, od6, .func (PySem.W.fnOf "_padding" "_padding" (defArgs s_padding) (defBody s_padding) (defScope s_padding) .none kV6 dc6 pm6 an6 cd6 ct6), sl6⟩) (c6 : PySem.W.codeIn K cd6 "_padding" = true) (k6 : PySem.W.keepIn K (.ref f6) = true)
    (a7 : PySem.W.nsIn K mainGlobals "_after_blocks" = some (some (.ref f7)))
    (l7 : K.lookup f7 = some ⟨oc7, od7, .func (PySem.W.fnOf "_after_blocks" "_after_blocks" (defArgs s_after_blocks) (defBody s_after_blocks) (defScope s_after_blocks) .none kV7 dc7 pm7 an7 cd7 ct7), sl7⟩) (c7 : PySem.W.codeIn K cd7 "_after_blocks" = true) (k7 : PySem.W.keepIn K (.ref f7) = true)
    (a8 : PySem.W.nsIn K mainGlobals "_words" = some (some (.ref f8)))
    (l8 : K.lookup f8 = some ⟨oc8, od8, .func (PySem.W.fnOf "_words" "_words" (defArgs s_words) (defBody s_words) (defScope s_words) .none kV8 dc8 pm8 an8 cd8 ct8), sl8⟩) (c8 : PySem.W.codeIn K cd8 "_words" = true) (k8 : PySem.W.keepIn K (.ref f8) = true)
    (a9 : PySem.W.nsIn K mainGlobals "_after_block" = some (some (.ref f9)))
    (l9 : K.lookup f9 = some ⟨oc9, od9, .func (PySem.W.fnOf "_after_block" "_after_block" (defArgs s_after_block) (defBody s_after_block) (defScope s_after_block) .none kV9 dc9 pm9 an9 cd9 ct9), sl9⟩) (c9 : PySem.W.codeIn K cd9 "_after_block" = true) (k9 : PySem.W.keepIn K (.ref f9) = true)
    (a10 : PySem.W.nsIn K mainGlobals "_choice" = some (some (.ref f10)))
    (l10 : K.lookup f10 = some ⟨oc10, od10, .func (PySem.W.fnOf "_choice" "_choice" (defArgs s_choice) (defBody s_choice) (defScope s_choice) .none kV10 dc10 pm10 an10 cd10 ct10), sl10⟩) (c10 : PySem.W.codeIn K cd10 "_choice" = true) (k10 : PySem.W.keepIn K (.ref f10) = true)
    (a11 : PySem.W.nsIn K mainGlobals "_law_draw" = some (some (.ref f11)))
    (l11 : K.lookup f11 = some ⟨oc11, od11, .func (PySem.W.fnOf "_law_draw" "_law_draw" (defArgs s_law_draw) (defBody s_law_draw) (defScope s_law_draw) .none kV11 dc11 pm11 an11 cd11 ct11), sl11⟩) (c11 : PySem.W.codeIn K cd11 "_law_draw" = true) (k11 : PySem.W.keepIn K (.ref f11) = true)
    (a12 : PySem.W.nsIn K mainGlobals "_law_is_integer" = some (some (.ref f12)))
    (l12 : K.lookup f12 = some ⟨oc12, od12, .func (PySem.W.fnOf "_law_is_integer" "_law_is_integer" (defArgs s_law_is_integer) (defBody s_law_is_integer) (defScope s_law_is_integer) .none kV12 dc12 pm12 an12 cd12 ct12), sl12⟩) (c12 : PySem.W.codeIn K cd12 "_law_is_integer" = true) (k12 : PySem.W.keepIn K (.ref f12) = true)
    (a13 : PySem.W.nsIn K mainGlobals "_law_same" = some (some (.ref f13)))
    (l13 : K.lookup f13 = some ⟨oc13, od13, .func (PySem.W.fnOf "_law_same" "_law_same" (defArgs s_law_same) (defBody s_law_same) (defScope s_law_same) .none kV13 dc13 pm13 an13 cd13 ct13), sl13⟩) (c13 : PySem.W.codeIn K cd13 "_law_same" = true) (k13 : PySem.W.keepIn K (.ref f13) = true)
    (a14 : PySem.W.nsIn K mainGlobals "_law_cell" = some (some (.ref f14)))
    (l14 : K.lookup f14 = some ⟨oc14, od14, .func (PySem.W.fnOf "_law_cell" "_law_cell" (defArgs s_law_cell) (defBody s_law_cell) (defScope s_law_cell) .none kV14 dc14 pm14 an14 cd14 ct14), sl14⟩) (c14 : PySem.W.codeIn K cd14 "_law_cell" = true) (k14 : PySem.W.keepIn K (.ref f14) = true)
    (a15 : PySem.W.nsIn K mainGlobals "_law_constants" = some (some (.ref f15)))
    (l15 : K.lookup f15 = some ⟨oc15, od15, .func (PySem.W.fnOf "_law_constants" "_law_constants" (defArgs s_law_constants) (defBody s_law_constants) (defScope s_law_constants) .none kV15 dc15 pm15 an15 cd15 ct15), sl15⟩) (c15 : PySem.W.codeIn K cd15 "_law_constants" = true) (k15 : PySem.W.keepIn K (.ref f15) = true)
    (a16 : PySem.W.nsIn K mainGlobals "_law_mixed" = some (some (.ref f16)))
    (l16 : K.lookup f16 = some ⟨oc16, od16, .func (PySem.W.fnOf "_law_mixed" "_law_mixed" (defArgs s_law_mixed) (defBody s_law_mixed) (defScope s_law_mixed) .none kV16 dc16 pm16 an16 cd16 ct16), sl16⟩) (c16 : PySem.W.codeIn K cd16 "_law_mixed" = true) (k16 : PySem.W.keepIn K (.ref f16) = true)
    (a17 : PySem.W.nsIn K mainGlobals "_law_index" = some (some (.ref f17)))
    (l17 : K.lookup f17 = some ⟨oc17, od17, .func (PySem.W.fnOf "_law_index" "_law_index" (defArgs s_law_index) (defBody s_law_index) (defScope s_law_index) .none kV17 dc17 pm17 an17 cd17 ct17), sl17⟩) (c17 : PySem.W.codeIn K cd17 "_law_index" = true) (k17 : PySem.W.keepIn K (.ref f17) = true)
    (a18 : PySem.W.nsIn K mainGlobals "_law_turn" = some (some (.ref f18)))
    (l18 : K.lookup f18 = some ⟨oc18, od18, .func (PySem.W.fnOf "_law_turn" "_law_turn" (defArgs s_law_turn) (defBody s_law_turn) (defScope s_law_turn) .none kV18 dc18 pm18 an18 cd18 ct18), sl18⟩) (c18 : PySem.W.codeIn K cd18 "_law_turn" = true) (k18 : PySem.W.keepIn K (.ref f18) = true)
    (a19 : PySem.W.nsIn K mainGlobals "_law_block" = some (some (.ref f19)))
    (l19 : K.lookup f19 = some ⟨oc19, od19, .func (PySem.W.fnOf "_law_block" "_law_block" (defArgs s_law_block) (defBody s_law_block) (defScope s_law_block) .none kV19 dc19 pm19 an19 cd19 ct19), sl19⟩) (c19 : PySem.W.codeIn K cd19 "_law_block" = true) (k19 : PySem.W.keepIn K (.ref f19) = true)
    (a20 : PySem.W.nsIn K mainGlobals "_law_digest" = some (some (.ref f20)))
    (l20 : K.lookup f20 = some ⟨oc20, od20, .func (PySem.W.fnOf "_law_digest" "_law_digest" (defArgs s_law_digest) (defBody s_law_digest) (defScope s_law_digest) .none kV20 dc20 pm20 an20 cd20 ct20), sl20⟩) (c20 : PySem.W.codeIn K cd20 "_law_digest" = true) (k20 : PySem.W.keepIn K (.ref f20) = true)
    (a21 : PySem.W.nsIn K mainGlobals "law" = some (some (.ref f21)))
    (l21 : K.lookup f21 = some ⟨oc21, od21, .func (PySem.W.fnOf "law" "law" (defArgs s_law) (defBody s_law) (defScope s_law) .none kV21 dc21 pm21 an21 cd21 ct21), sl21⟩) (c21 : PySem.W.codeIn K cd21 "law" = true) (k21 : PySem.W.keepIn K (.ref f21) = true)
    (aC_Md5 : PySem.W.nsIn K mainGlobals "Md5" = some (some (.ref C_Md5)))
    (pg_Md5 : PySem.W.plainGet K C_Md5 Str.empty = true) (hd_Md5 : PySem.W.hasDictIn K C_Md5 = true) (po_Md5 : PySem.W.plainOver K C_Md5 = true) (sa_Md5 : PySem.W.findIn K (.ref C_Md5) "__setattr__" = some (some (.builtin "object.__setattr__"))) (mk_Md5 : PySem.W.makesIn K C_Md5 = true) (kc_Md5 : PySem.W.keepIn K (.ref C_Md5) = true)
    (n_Md5_state : PySem.W.findIn K (.ref C_Md5) "_state" = some none)
    (n_Md5_length : PySem.W.findIn K (.ref C_Md5) "_length" = some none)
    (n_Md5_rest : PySem.W.findIn K (.ref C_Md5) "_rest" = some none)
    (z_len : PySem.W.nsIn K mainGlobals "len" = some none)
    (z_range : PySem.W.nsIn K mainGlobals "range" = some none)
    (z_tuple : PySem.W.nsIn K mainGlobals "tuple" = some none)
    (z_zip : PySem.W.nsIn K mainGlobals "zip" = some none)
    (z_int : PySem.W.nsIn K mainGlobals "int" = some none)
    (z_isinstance : PySem.W.nsIn K mainGlobals "isinstance" = some none)
    (z_bool : PySem.W.nsIn K mainGlobals "bool" = some none)
    (z_list : PySem.W.nsIn K mainGlobals "list" = some none)
    (q_WORD : PySem.W.nsIn K mainGlobals "_WORD" = some (some u_WORD)) (r_WORD : RelV (.int (4294967295)) u_WORD)
    (q_START : PySem.W.nsIn K mainGlobals "_START" = some (some (.ref A_START))) (l_START : K.lookup A_START = some ⟨.type "tuple", dxSTART, .seq (List.toArray [wSTART_0, wSTART_1, wSTART_2, wSTART_3]) nxSTART, sxSTART⟩)
    (r_START_0 : RelV (.int 1732584193) wSTART_0)
    (r_START_1 : RelV (.int 4023233417) wSTART_1)
    (r_START_2 : RelV (.int 2562383102) wSTART_2)
    (r_START_3 : RelV (.int 271733878) wSTART_3)
    (q_ROTATIONS : PySem.W.nsIn K mainGlobals "_ROTATIONS" = some (some (.ref A_ROTATIONS)))
    (l_ROTATIONS : K.lookup A_ROTATIONS = some ⟨.type "tuple", dxROTATIONS, .seq (List.toArray [wROTATIONS_0, wROTATIONS_1, wROTATIONS_2, wROTATIONS_3]) nxROTATIONS, sxROTATIONS⟩)
    (r_ROTATIONS_0 : RelV (.ref A_ROTATIONS_0) wROTATIONS_0)
    (r_ROTATIONS_1 : RelV (.ref A_ROTATIONS_1) wROTATIONS_1)
    (r_ROTATIONS_2 : RelV (.ref A_ROTATIONS_2) wROTATIONS_2)
    (r_ROTATIONS_3 : RelV (.ref A_ROTATIONS_3) wROTATIONS_3)
    (l_ROTATIONS_0 : K.lookup A_ROTATIONS_0 = some ⟨.type "tuple", dxROTATIONS_0, .seq (List.toArray [wROTATIONS_0_0, wROTATIONS_0_1, wROTATIONS_0_2, wROTATIONS_0_3]) nxROTATIONS_0, sxROTATIONS_0⟩)
    (r_ROTATIONS_0_0 : RelV (.int 7) wROTATIONS_0_0)
    (r_ROTATIONS_0_1 : RelV (.int 12) wROTATIONS_0_1)
    (r_ROTATIONS_0_2 : RelV (.int 17) wROTATIONS_0_2)
    (r_ROTATIONS_0_3 : RelV (.int 22) wROTATIONS_0_3)
    (l_ROTATIONS_1 : K.lookup A_ROTATIONS_1 = some ⟨.type "tuple", dxROTATIONS_1, .seq (List.toArray [wROTATIONS_1_0, wROTATIONS_1_1, wROTATIONS_1_2, wROTATIONS_1_3]) nxROTATIONS_1, sxROTATIONS_1⟩)
    (r_ROTATIONS_1_0 : RelV (.int 5) wROTATIONS_1_0)
    (r_ROTATIONS_1_1 : RelV (.int 9) wROTATIONS_1_1)
    (r_ROTATIONS_1_2 : RelV (.int 14) wROTATIONS_1_2)
    (r_ROTATIONS_1_3 : RelV (.int 20) wROTATIONS_1_3)
    (l_ROTATIONS_2 : K.lookup A_ROTATIONS_2 = some ⟨.type "tuple", dxROTATIONS_2, .seq (List.toArray [wROTATIONS_2_0, wROTATIONS_2_1, wROTATIONS_2_2, wROTATIONS_2_3]) nxROTATIONS_2, sxROTATIONS_2⟩)
    (r_ROTATIONS_2_0 : RelV (.int 4) wROTATIONS_2_0)
    (r_ROTATIONS_2_1 : RelV (.int 11) wROTATIONS_2_1)
    (r_ROTATIONS_2_2 : RelV (.int 16) wROTATIONS_2_2)
    (r_ROTATIONS_2_3 : RelV (.int 23) wROTATIONS_2_3)
    (l_ROTATIONS_3 : K.lookup A_ROTATIONS_3 = some ⟨.type "tuple", dxROTATIONS_3, .seq (List.toArray [wROTATIONS_3_0, wROTATIONS_3_1, wROTATIONS_3_2, wROTATIONS_3_3]) nxROTATIONS_3, sxROTATIONS_3⟩)
    (r_ROTATIONS_3_0 : RelV (.int 6) wROTATIONS_3_0)
    (r_ROTATIONS_3_1 : RelV (.int 10) wROTATIONS_3_1)
    (r_ROTATIONS_3_2 : RelV (.int 15) wROTATIONS_3_2)
    (r_ROTATIONS_3_3 : RelV (.int 21) wROTATIONS_3_3)
    (q_CONSTANTS : PySem.W.nsIn K mainGlobals "_CONSTANTS" = some (some (.ref A_CONSTANTS))) (l_CONSTANTS : K.lookup A_CONSTANTS = some ⟨.type "tuple", dxCONSTANTS, .seq (List.toArray [wCONSTANTS_0, wCONSTANTS_1, wCONSTANTS_2, wCONSTANTS_3, wCONSTANTS_4, wCONSTANTS_5, wCONSTANTS_6, wCONSTANTS_7, wCONSTANTS_8, wCONSTANTS_9, wCONSTANTS_10, wCONSTANTS_11, wCONSTANTS_12, wCONSTANTS_13, wCONSTANTS_14, wCONSTANTS_15, wCONSTANTS_16, wCONSTANTS_17, wCONSTANTS_18, wCONSTANTS_19, wCONSTANTS_20, wCONSTANTS_21, wCONSTANTS_22, wCONSTANTS_23, wCONSTANTS_24, wCONSTANTS_25, wCONSTANTS_26, wCONSTANTS_27, wCONSTANTS_28, wCONSTANTS_29, wCONSTANTS_30, wCONSTANTS_31, wCONSTANTS_32, wCONSTANTS_33, wCONSTANTS_34, wCONSTANTS_35, wCONSTANTS_36, wCONSTANTS_37, wCONSTANTS_38, wCONSTANTS_39, wCONSTANTS_40, wCONSTANTS_41, wCONSTANTS_42, wCONSTANTS_43, wCONSTANTS_44, wCONSTANTS_45, wCONSTANTS_46, wCONSTANTS_47, wCONSTANTS_48, wCONSTANTS_49, wCONSTANTS_50, wCONSTANTS_51, wCONSTANTS_52, wCONSTANTS_53, wCONSTANTS_54, wCONSTANTS_55, wCONSTANTS_56, wCONSTANTS_57, wCONSTANTS_58, wCONSTANTS_59, wCONSTANTS_60, wCONSTANTS_61, wCONSTANTS_62, wCONSTANTS_63]) nxCONSTANTS, sxCONSTANTS⟩)
    (r_CONSTANTS_0 : RelV (.int 3614090360) wCONSTANTS_0)
    (r_CONSTANTS_1 : RelV (.int 3905402710) wCONSTANTS_1)
    (r_CONSTANTS_2 : RelV (.int 606105819) wCONSTANTS_2)
    (r_CONSTANTS_3 : RelV (.int 3250441966) wCONSTANTS_3)
    (r_CONSTANTS_4 : RelV (.int 4118548399) wCONSTANTS_4)
    (r_CONSTANTS_5 : RelV (.int 1200080426) wCONSTANTS_5)
    (r_CONSTANTS_6 : RelV (.int 2821735955) wCONSTANTS_6)
    (r_CONSTANTS_7 : RelV (.int 4249261313) wCONSTANTS_7)
    (r_CONSTANTS_8 : RelV (.int 1770035416) wCONSTANTS_8)
    (r_CONSTANTS_9 : RelV (.int 2336552879) wCONSTANTS_9)
    (r_CONSTANTS_10 : RelV (.int 4294925233) wCONSTANTS_10)
    (r_CONSTANTS_11 : RelV (.int 2304563134) wCONSTANTS_11)
    (r_CONSTANTS_12 : RelV (.int 1804603682) wCONSTANTS_12)
    (r_CONSTANTS_13 : RelV (.int 4254626195) wCONSTANTS_13)
    (r_CONSTANTS_14 : RelV (.int 2792965006) wCONSTANTS_14)
    (r_CONSTANTS_15 : RelV (.int 1236535329) wCONSTANTS_15)
    (r_CONSTANTS_16 : RelV (.int 4129170786) wCONSTANTS_16)
    (r_CONSTANTS_17 : RelV (.int 3225465664) wCONSTANTS_17)
    (r_CONSTANTS_18 : RelV (.int 643717713) wCONSTANTS_18)
    (r_CONSTANTS_19 : RelV (.int 3921069994) wCONSTANTS_19)
    (r_CONSTANTS_20 : RelV (.int 3593408605) wCONSTANTS_20)
    (r_CONSTANTS_21 : RelV (.int 38016083) wCONSTANTS_21)
    (r_CONSTANTS_22 : RelV (.int 3634488961) wCONSTANTS_22)
    (r_CONSTANTS_23 : RelV (.int 3889429448) wCONSTANTS_23)
    (r_CONSTANTS_24 : RelV (.int 568446438) wCONSTANTS_24)
    (r_CONSTANTS_25 : RelV (.int 3275163606) wCONSTANTS_25)
    (r_CONSTANTS_26 : RelV (.int 4107603335) wCONSTANTS_26)
    (r_CONSTANTS_27 : RelV (.int 1163531501) wCONSTANTS_27)
    (r_CONSTANTS_28 : RelV (.int 2850285829) wCONSTANTS_28)
    (r_CONSTANTS_29 : RelV (.int 4243563512) wCONSTANTS_29)
    (r_CONSTANTS_30 : RelV (.int 1735328473) wCONSTANTS_30)
    (r_CONSTANTS_31 : RelV (.int 2368359562) wCONSTANTS_31)
    (r_CONSTANTS_32 : RelV (.int 4294588738) wCONSTANTS_32)
    (r_CONSTANTS_33 : RelV (.int 2272392833) wCONSTANTS_33)
    (r_CONSTANTS_34 : RelV (.int 1839030562) wCONSTANTS_34)
    (r_CONSTANTS_35 : RelV (.int 4259657740) wCONSTANTS_35)
    (r_CONSTANTS_36 : RelV (.int 2763975236) wCONSTANTS_36)
    (r_CONSTANTS_37 : RelV (.int 1272893353) wCONSTANTS_37)
    (r_CONSTANTS_38 : RelV (.int 4139469664) wCONSTANTS_38)
    (r_CONSTANTS_39 : RelV (.int 3200236656) wCONSTANTS_39)
    (r_CONSTANTS_40 : RelV (.int 681279174) wCONSTANTS_40)
    (r_CONSTANTS_41 : RelV (.int 3936430074) wCONSTANTS_41)
    (r_CONSTANTS_42 : RelV (.int 3572445317) wCONSTANTS_42)
    (r_CONSTANTS_43 : RelV (.int 76029189) wCONSTANTS_43)
    (r_CONSTANTS_44 : RelV (.int 3654602809) wCONSTANTS_44)
    (r_CONSTANTS_45 : RelV (.int 3873151461) wCONSTANTS_45)
    (r_CONSTANTS_46 : RelV (.int 530742520) wCONSTANTS_46)
    (r_CONSTANTS_47 : RelV (.int 3299628645) wCONSTANTS_47)
    (r_CONSTANTS_48 : RelV (.int 4096336452) wCONSTANTS_48)
    (r_CONSTANTS_49 : RelV (.int 1126891415) wCONSTANTS_49)
    (r_CONSTANTS_50 : RelV (.int 2878612391) wCONSTANTS_50)
    (r_CONSTANTS_51 : RelV (.int 4237533241) wCONSTANTS_51)
    (r_CONSTANTS_52 : RelV (.int 1700485571) wCONSTANTS_52)
    (r_CONSTANTS_53 : RelV (.int 2399980690) wCONSTANTS_53)
    (r_CONSTANTS_54 : RelV (.int 4293915773) wCONSTANTS_54)
    (r_CONSTANTS_55 : RelV (.int 2240044497) wCONSTANTS_55)
    (r_CONSTANTS_56 : RelV (.int 1873313359) wCONSTANTS_56)
    (r_CONSTANTS_57 : RelV (.int 4264355552) wCONSTANTS_57)
    (r_CONSTANTS_58 : RelV (.int 2734768916) wCONSTANTS_58)
    (r_CONSTANTS_59 : RelV (.int 1309151649) wCONSTANTS_59)
    (r_CONSTANTS_60 : RelV (.int 4149444226) wCONSTANTS_60)
    (r_CONSTANTS_61 : RelV (.int 3174756917) wCONSTANTS_61)
    (r_CONSTANTS_62 : RelV (.int 718787259) wCONSTANTS_62)
    (r_CONSTANTS_63 : RelV (.int 3951481745) wCONSTANTS_63)
    : ∃ fd : FuncData, (∀ (s : Shared) (v : Value), BindsTo s fd ⟨[v], []⟩ [("script", v)]) ∧ ∀ base : Heap, K.In base → base.Ns mainGlobals mg → FnOk l.prog w K mg base CX0 6 fa fd ["script"] (sp_law K) := by
  have e := hfa.symm.trans (PySem.W.mg_of X G a21)
  cases e
  have F1 := fun_mk (st := s_md5) l1 c1 k1
  have b1 := F1.binds (ps := ["data"]) fun _ _ _ _ _ _ us hl => match us, hl with | [_], _ => rfl
  have F2 := fun_mk (st := s_Md5_init) l2 c2 k2
  have b2 := F2.binds (ps := ["self"]) fun _ _ _ _ _ _ us hl => match us, hl with | [_], _ => rfl
  have F3 := fun_mk (st := s_Md5_feed) l3 c3 k3
  have b3 := F3.binds (ps := ["self", "data"]) fun _ _ _ _ _ _ us hl => match us, hl with | [_, _], _ => rfl
  have F4 := fun_mk (st := s_Md5_digest) l4 c4 k4
  have b4 := F4.binds (ps := ["self"]) fun _ _ _ _ _ _ us hl => match us, hl with | [_], _ => rfl
  have F5 := fun_mk (st := s_low_bytes) l5 c5 k5
  have b5 := F5.binds (ps := ["number", "count"]) fun _ _ _ _ _ _ us hl => match us, hl with | [_, _], _ => rfl
  have F6 := fun_mk (st := s_padding) l6 c6 k6
  have b6 := F6.binds (ps := ["length"]) fun _ _ _ _ _ _ us hl => match us, hl with | [_], _ => rfl
  have F7 := fun_mk (st := s_after_blocks) l7 c7 k7
  have b7 := F7.binds (ps := ["state", "data", "stop"]) fun _ _ _ _ _ _ us hl => match us, hl with | [_, _, _], _ => rfl
  have F8 := fun_mk (st := s_words) l8 c8 k8
  have b8 := F8.binds (ps := ["block"]) fun _ _ _ _ _ _ us hl => match us, hl with | [_], _ => rfl
  have F9 := fun_mk (st := s_after_block) l9 c9 k9
  have b9 := F9.binds (ps := ["state", "words"]) fun _ _ _ _ _ _ us hl => match us, hl with | [_, _], _ => rfl
  have F10 := fun_mk (st := s_choice) l10 c10 k10
  have b10 := F10.binds (ps := ["step", "b", "c", "d"]) fun _ _ _ _ _ _ us hl => match us, hl with | [_, _, _, _], _ => rfl
  have F11 := fun_mk (st := s_law_draw) l11 c11 k11
  have b11 := F11.binds (ps := ["cell", "many", "bound"]) fun _ _ _ _ _ _ us hl => match us, hl with | [_, _, _], _ => rfl
  have F12 := fun_mk (st := s_law_is_integer) l12 c12 k12
  have b12 := F12.binds (ps := ["actual"]) fun _ _ _ _ _ _ us hl => match us, hl with | [_], _ => rfl
  have F13 := fun_mk (st := s_law_same) l13 c13 k13
  have b13 := F13.binds (ps := ["actual", "expected"]) fun _ _ _ _ _ _ us hl => match us, hl with | [_, _], _ => rfl
  have F14 := fun_mk (st := s_law_cell) l14 c14 k14
  have b14 := F14.binds (ps := ["script", "k"]) fun _ _ _ _ _ _ us hl => match us, hl with | [_, _], _ => rfl
  have F15 := fun_mk (st := s_law_constants) l15 c15 k15
  have b15 := F15.binds (ps := []) fun _ _ _ _ _ _ us hl => match us, hl with | [], _ => rfl
  have F16 := fun_mk (st := s_law_mixed) l16 c16 k16
  have b16 := F16.binds (ps := ["step", "b", "c", "d"]) fun _ _ _ _ _ _ us hl => match us, hl with | [_, _, _, _], _ => rfl
  have F17 := fun_mk (st := s_law_index) l17 c17 k17
  have b17 := F17.binds (ps := ["step"]) fun _ _ _ _ _ _ us hl => match us, hl with | [_], _ => rfl
  have F18 := fun_mk (st := s_law_turn) l18 c18 k18
  have b18 := F18.binds (ps := ["step"]) fun _ _ _ _ _ _ us hl => match us, hl with | [_], _ => rfl
  have F19 := fun_mk (st := s_law_block) l19 c19 k19
  have b19 := F19.binds (ps := ["state", "block"]) fun _ _ _ _ _ _ us hl => match us, hl with | [_, _], _ => rfl
  have F20 := fun_mk (st := s_law_digest) l20 c20 k20
  have b20 := F20.binds (ps := ["data"]) fun _ _ _ _ _ _ us hl => match us, hl with | [_], _ => rfl
  have F21 := fun_mk (st := s_law) l21 c21 k21
  have b21 := F21.binds (ps := ["script"]) fun _ _ _ _ _ _ us hl => match us, hl with | [_], _ => rfl
  let T : TX K mg := ⟨f1, _, F1, b1, (PySem.W.mg_of X G a1), f2, _, F2, b2, f3, _, F3, b3, f4, _, F4, b4, f5, _, F5, b5, (PySem.W.mg_of X G a5), f6, _, F6, b6, (PySem.W.mg_of X G a6), f7, _, F7, b7, (PySem.W.mg_of X G a7), f8, _, F8, b8, (PySem.W.mg_of X G a8), f9, _, F9, b9, (PySem.W.mg_of X G a9), f10, _, F10, b10, (PySem.W.mg_of X G a10), f11, _, F11, b11, (PySem.W.mg_of X G a11), f12, _, F12, b12, (PySem.W.mg_of X G a12), f13, _, F13, b13, (PySem.W.mg_of X G a13), f14, _, F14, b14, (PySem.W.mg_of X G a14), f15, _, F15, b15, (PySem.W.mg_of X G a15), f16, _, F16, b16, (PySem.W.mg_of X G a16), f17, _, F17, b17, (PySem.W.mg_of X G a17), f18, _, F18, b18, (PySem.W.mg_of X G a18), f19, _, F19, b19, (PySem.W.mg_of X G a19), f20, _, F20, b20, (PySem.W.mg_of X G a20), fa, _, F21, b21, (PySem.W.mg_of X G a21), C_Md5, ⟨pg_Md5, hd_Md5, po_Md5, sa_Md5⟩, (PySem.W.mg_of X G aC_Md5), ⟨mk_Md5, a2, i2, kc_Md5⟩, ⟨a3, i3, k3⟩, ⟨a4, i4, k4⟩, n_Md5_state, n_Md5_length, n_Md5_rest, (PySem.W.mg_none_of X G z_len), (PySem.W.mg_none_of X G z_range), (PySem.W.mg_none_of X G z_tuple), (PySem.W.mg_none_of X G z_zip), (PySem.W.mg_none_of X G z_int), (PySem.W.mg_none_of X G z_isinstance), (PySem.W.mg_none_of X G z_bool), (PySem.W.mg_none_of X G z_list), u_WORD, (PySem.W.mg_of X G q_WORD), r_WORD, A_START, (PySem.W.mg_of X G q_START), (fun H => .inr ⟨_, _, _, l_START, rfl, rfl, Nat.le_of_ble_eq_true rfl, (.cons r_START_0 (.cons r_START_1 (.cons r_START_2 (.cons r_START_3 .nil))))⟩), A_ROTATIONS_0, (fun H => .inr ⟨_, _, _, l_ROTATIONS_0, rfl, rfl, Nat.le_of_ble_eq_true rfl, (.cons r_ROTATIONS_0_0 (.cons r_ROTATIONS_0_1 (.cons r_ROTATIONS_0_2 (.cons r_ROTATIONS_0_3 .nil))))⟩), A_ROTATIONS_1, (fun H => .inr ⟨_, _, _, l_ROTATIONS_1, rfl, rfl, Nat.le_of_ble_eq_true rfl, (.cons r_ROTATIONS_1_0 (.cons r_ROTATIONS_1_1 (.cons r_ROTATIONS_1_2 (.cons r_ROTATIONS_1_3 .nil))))⟩), A_ROTATIONS_2, (fun H => .inr ⟨_, _, _, l_ROTATIONS_2, rfl, rfl, Nat.le_of_ble_eq_true rfl, (.cons r_ROTATIONS_2_0 (.cons r_ROTATIONS_2_1 (.cons r_ROTATIONS_2_2 (.cons r_ROTATIONS_2_3 .nil))))⟩), A_ROTATIONS_3, (fun H => .inr ⟨_, _, _, l_ROTATIONS_3, rfl, rfl, Nat.le_of_ble_eq_true rfl, (.cons r_ROTATIONS_3_0 (.cons r_ROTATIONS_3_1 (.cons r_ROTATIONS_3_2 (.cons r_ROTATIONS_3_3 .nil))))⟩), A_ROTATIONS, (PySem.W.mg_of X G q_ROTATIONS), (fun H => .inr ⟨_, _, _, l_ROTATIONS, rfl, rfl, Nat.le_of_ble_eq_true rfl, (.cons r_ROTATIONS_0 (.cons r_ROTATIONS_1 (.cons r_ROTATIONS_2 (.cons r_ROTATIONS_3 .nil))))⟩), A_CONSTANTS, (PySem.W.mg_of X G q_CONSTANTS), (fun H => .inr ⟨_, _, _, l_CONSTANTS, rfl, rfl, Nat.le_of_ble_eq_true rfl, (.cons r_CONSTANTS_0 (.cons r_CONSTANTS_1 (.cons r_CONSTANTS_2 (.cons r_CONSTANTS_3 (.cons r_CONSTANTS_4 (.cons r_CONSTANTS_5 (.cons r_CONSTANTS_6 (.cons r_CONSTANTS_7 (.cons r_CONSTANTS_8 (.cons r_CONSTANTS_9 (.cons r_CONSTANTS_10 (.cons r_CONSTANTS_11 (.cons r_CONSTANTS_12 (.cons r_CONSTANTS_13 (.cons r_CONSTANTS_14 (.cons r_CONSTANTS_15 (.cons r_CONSTANTS_16 (.cons r_CONSTANTS_17 (.cons r_CONSTANTS_18 (.cons r_CONSTANTS_19 (.cons r_CONSTANTS_20 (.cons r_CONSTANTS_21 (.cons r_CONSTANTS_22 (.cons r_CONSTANTS_23 (.cons r_CONSTANTS_24 (.cons r_CONSTANTS_25 (.cons r_CONSTANTS_26 (.cons r_CONSTANTS_27 (.cons r_CONSTANTS_28 (.cons r_CONSTANTS_29 (.cons r_CONSTANTS_30 (.cons r_CONSTANTS_31 (.cons r_CONSTANTS_32 (.cons r_CONSTANTS_33 (.cons r_CONSTANTS_34 (.cons r_CONSTANTS_35 (.cons r_CONSTANTS_36 (.cons r_CONSTANTS_37 (.cons r_CONSTANTS_38 (.cons r_CONSTANTS_39 (.cons r_CONSTANTS_40 (.cons r_CONSTANTS_41 (.cons r_CONSTANTS_42 (.cons r_CONSTANTS_43 (.cons r_CONSTANTS_44 (.cons r_CONSTANTS_45 (.cons r_CONSTANTS_46 (.cons r_CONSTANTS_47 (.cons r_CONSTANTS_48 (.cons r_CONSTANTS_49 (.cons r_CONSTANTS_50 (.cons r_CONSTANTS_51 (.cons r_CONSTANTS_52 (.cons r_CONSTANTS_53 (.cons r_CONSTANTS_54 (.cons r_CONSTANTS_55 (.cons r_CONSTANTS_56 (.cons r_CONSTANTS_57 (.cons r_CONSTANTS_58 (.cons r_CONSTANTS_59 (.cons r_CONSTANTS_60 (.cons r_CONSTANTS_61 (.cons r_CONSTANTS_62 (.cons r_CONSTANTS_63 .nil))))))))))))))))))))))))))))))))))))))))))))))))))))))))))))))))⟩)⟩
  exact ⟨_, fun s v => .of_eq rfl, fun base _ _ => ok_law T⟩
end K07
open PySem PySem.W PyProof.Rows
set_option maxRecDepth 100000 in
set_option maxHeartbeats 0 in
theorem PySem.Challenge.cw_monochord_k07_digests_of_short_data_holds : PySem.Challenge.rw_monochord_k07_digests_of_short_data.Holds := by
  w_on; o_law; k_head; (case hw => w_witness2)
  k_fill
  refine L2.walk_of (l := PySem.Challenge.rw_monochord_k07_digests_of_short_data) (n := 63) (k := 6) (x := "script") (CX := fun _ => L2.CX0) (sp := fun w => K07.sp_law _) rfl (by decide) rfl ⟨rfl, by decide, by decide⟩ (fun w h Y => PySem.W.kIn_of Y) ?F (fun _ _ a ns hl _ hS => ⟨a, ns, rfl, hS, hl, fun _ => rfl⟩) (fun _ _ _ _ _ h => h)
  case F =>
    intro w mg fa h KX G hmg
    refine' K07.all_mk KX G hmg ?a1 ?l1 ?c1 ?k1 ?a2 ?i2 ?l2 ?c2 ?k2 ?a3 ?i3 ?l3 ?c3 ?k3 ?a4 ?i4 ?l4 ?c4 ?k4 ?a5 ?l5 ?c5 ?k5 ?a6 ?l6 ?c6 ?k6 ?a7 ?l7 ?c7 ?k7 ?a8 ?l8 ?c8 ?k8 ?a9 ?l9 ?c9 ?k9 ?a10 ?l10 ?c10 ?k10 ?a11 ?l11 ?c11 ?k11 ?a12 ?l12 ?c12 ?k12 ?a13 ?l13 ?c13 ?k13 ?a14 ?l14 ?c14 ?k14 ?a15 ?l15 ?c15 ?k15 ?a16 ?l16 ?c16 ?k16 ?a17 ?l17 ?c17 ?k17 ?a18 ?l18 ?c18 ?k18 ?a19 ?l19 ?c19 ?k19 ?a20 ?l20 ?c20 ?k20 ?a21 ?l21 ?c21 ?k21 ?aC_Md5 ?pg_Md5 ?hd_Md5 ?po_Md5 ?sa_Md5 ?mk_Md5 ?kc_Md5 ?n_Md5_state ?n_Md5_length ?n_Md5_rest ?z_len ?z_range ?z_tuple ?z_zip ?z_int ?z_isinstance ?z_bool ?z_list ?q_WORD ?r_WORD ?q_START ?l_START ?r_START_0 ?r_START_1 ?r_START_2 ?r_START_3 ?q_ROTATIONS ?l_ROTATIONS ?r_ROTATIONS_0 ?r_ROTATIONS_1 ?r_ROTATIONS_2 ?r_ROTATIONS_3 ?l_ROTATIONS_0 ?r_ROTATIONS_0_0 ?r_ROTATIONS_0_1 ?r_ROTATIONS_0_2 ?r_ROTATIONS_0_3 ?l_ROTATIONS_1 ?r_ROTATIONS_1_0 ?r_ROTATIONS_1_1 ?r_ROTATIONS_1_2 ?r_ROTATIONS_1_3 ?l_ROTATIONS_2 ?r_ROTATIONS_2_0 ?r_ROTATIONS_2_1 ?r_ROTATIONS_2_2 ?r_ROTATIONS_2_3 ?l_ROTATIONS_3 ?r_ROTATIONS_3_0 ?r_ROTATIONS_3_1 ?r_ROTATIONS_3_2 ?r_ROTATIONS_3_3 ?q_CONSTANTS ?l_CONSTANTS ?r_CONSTANTS_0 ?r_CONSTANTS_1 ?r_CONSTANTS_2 ?r_CONSTANTS_3 ?r_CONSTANTS_4 ?r_CONSTANTS_5 ?r_CONSTANTS_6 ?r_CONSTANTS_7 ?r_CONSTANTS_8 ?r_CONSTANTS_9 ?r_CONSTANTS_10 ?r_CONSTANTS_11 ?r_CONSTANTS_12 ?r_CONSTANTS_13 ?r_CONSTANTS_14 ?r_CONSTANTS_15 ?r_CONSTANTS_16 ?r_CONSTANTS_17 ?r_CONSTANTS_18 ?r_CONSTANTS_19 ?r_CONSTANTS_20 ?r_CONSTANTS_21 ?r_CONSTANTS_22 ?r_CONSTANTS_23 ?r_CONSTANTS_24 ?r_CONSTANTS_25 ?r_CONSTANTS_26 ?r_CONSTANTS_27 ?r_CONSTANTS_28 ?r_CONSTANTS_29 ?r_CONSTANTS_30 ?r_CONSTANTS_31 ?r_CONSTANTS_32 ?r_CONSTANTS_33 ?r_CONSTANTS_34 ?r_CONSTANTS_35 ?r_CONSTANTS_36 ?r_CONSTANTS_37 ?r_CONSTANTS_38 ?r_CONSTANTS_39 ?r_CONSTANTS_40 ?r_CONSTANTS_41 ?r_CONSTANTS_42 ?r_CONSTANTS_43 ?r_CONSTANTS_44 ?r_CONSTANTS_45 ?r_CONSTANTS_46 ?r_CONSTANTS_47 ?r_CONSTANTS_48 ?r_CONSTANTS_49 ?r_CONSTANTS_50 ?r_CONSTANTS_51 ?r_CONSTANTS_52 ?r_CONSTANTS_53 ?r_CONSTANTS_54 ?r_CONSTANTS_55 ?r_CONSTANTS_56 ?r_CONSTANTS_57 ?r_CONSTANTS_58 ?r_CONSTANTS_59 ?r_CONSTANTS_60 ?r_CONSTANTS_61 ?r_CONSTANTS_62 ?r_CONSTANTS_63
    (case aC_Md5 => k_is)
    (case a1 => k_is)
    (case l1 => k_is)
    (case c1 => k_is)
    (case k1 => k_is)
    (case a2 => k_is)
    (case i2 => k_is)
    (case l2 => k_is)
    (case c2 => k_is)
    (case k2 => k_is)
    (case a3 => k_is)
    (case i3 => k_is)
    (case l3 => k_is)
    (case c3 => k_is)
    (case k3 => k_is)
    (case a4 => k_is)
    (case i4 => k_is)
    (case l4 => k_is)
    (case c4 => k_is)
    (case k4 => k_is)
    (case a5 => k_is)
    (case l5 => k_is)
    (case c5 => k_is)
    (case k5 => k_is)
    (case a6 => k_is)
    (case l6 => k_is)
    (case c6 => k_is)
    (case k6 => k_is)
    (case a7 => k_is)
    (case l7 => k_is)
    (case c7 => k_is)
    (case k7 => k_is)
    (case a8 => k_is)
    (case l8 => k_is)
    (case c8 => k_is)
    (case k8 => k_is)
    (case a9 => k_is)
    (case l9 => k_is)
    (case c9 => k_is)
    (case k9 => k_is)
    (case a10 => k_is)
    (case l10 => k_is)
    (case c10 => k_is)
    (case k10 => k_is)
    (case a11 => k_is)
    (case l11 => k_is)
    (case c11 => k_is)
    (case k11 => k_is)
    (case a12 => k_is)
    (case l12 => k_is)
    (case c12 => k_is)
    (case k12 => k_is)
    (case a13 => k_is)
    (case l13 => k_is)
    (case c13 => k_is)
    (case k13 => k_is)
    (case a14 => k_is)
    (case l14 => k_is)
    (case c14 => k_is)
    (case k14 => k_is)
    (case a15 => k_is)
    (case l15 => k_is)
    (case c15 => k_is)
    (case k15 => k_is)
    (case a16 => k_is)
    (case l16 => k_is)
    (case c16 => k_is)
    (case k16 => k_is)
    (case a17 => k_is)
    (case l17 => k_is)
    (case c17 => k_is)
    (case k17 => k_is)
    (case a18 => k_is)
    (case l18 => k_is)
    (case c18 => k_is)
    (case k18 => k_is)
    (case a19 => k_is)
    (case l19 => k_is)
    (case c19 => k_is)
    (case k19 => k_is)
    (case a20 => k_is)
    (case l20 => k_is)
    (case c20 => k_is)
    (case k20 => k_is)
    (case a21 => k_is)
    (case l21 => k_is)
    (case c21 => k_is)
    (case k21 => k_is)
    (case pg_Md5 => k_is)
    (case hd_Md5 => k_is)
    (case po_Md5 => k_is)
    (case sa_Md5 => k_is)
    (case mk_Md5 => k_is)
    (case kc_Md5 => k_is)
    (case n_Md5_state => k_is)
    (case n_Md5_length => k_is)
    (case n_Md5_rest => k_is)
    (case z_len => k_is)
    (case z_range => k_is)
    (case z_tuple => k_is)
    (case z_zip => k_is)
    (case z_int => k_is)
    (case z_isinstance => k_is)
    (case z_bool => k_is)
    (case z_list => k_is)
    (case q_WORD => k_is)
    (case r_WORD => first | rfl | exact ⟨_, rfl⟩)
    (case q_START => k_is)
    (case l_START => k_is)
    (case r_START_0 => first | rfl | exact ⟨_, rfl⟩)
    (case r_START_1 => first | rfl | exact ⟨_, rfl⟩)
    (case r_START_2 => first | rfl | exact ⟨_, rfl⟩)
    (case r_START_3 => first | rfl | exact ⟨_, rfl⟩)
    (case q_ROTATIONS => k_is)
    (case l_ROTATIONS => k_is)
    (case r_ROTATIONS_0 => first | rfl | exact ⟨_, rfl⟩)
    (case r_ROTATIONS_1 => first | rfl | exact ⟨_, rfl⟩)
    (case r_ROTATIONS_2 => first | rfl | exact ⟨_, rfl⟩)
    (case r_ROTATIONS_3 => first | rfl | exact ⟨_, rfl⟩)
    (case l_ROTATIONS_0 => k_is)
    (case r_ROTATIONS_0_0 => first | rfl | exact ⟨_, rfl⟩)
    (case r_ROTATIONS_0_1 => first | rfl | exact ⟨_, rfl⟩)
    (case r_ROTATIONS_0_2 => first | rfl | exact ⟨_, rfl⟩)
    (case r_ROTATIONS_0_3 => first | rfl | exact ⟨_, rfl⟩)
    (case l_ROTATIONS_1 => k_is)
    (case r_ROTATIONS_1_0 => first | rfl | exact ⟨_, rfl⟩)
    (case r_ROTATIONS_1_1 => first | rfl | exact ⟨_, rfl⟩)
    (case r_ROTATIONS_1_2 => first | rfl | exact ⟨_, rfl⟩)
    (case r_ROTATIONS_1_3 => first | rfl | exact ⟨_, rfl⟩)
    (case l_ROTATIONS_2 => k_is)
    (case r_ROTATIONS_2_0 => first | rfl | exact ⟨_, rfl⟩)
    (case r_ROTATIONS_2_1 => first | rfl | exact ⟨_, rfl⟩)
    (case r_ROTATIONS_2_2 => first | rfl | exact ⟨_, rfl⟩)
    (case r_ROTATIONS_2_3 => first | rfl | exact ⟨_, rfl⟩)
    (case l_ROTATIONS_3 => k_is)
    (case r_ROTATIONS_3_0 => first | rfl | exact ⟨_, rfl⟩)
    (case r_ROTATIONS_3_1 => first | rfl | exact ⟨_, rfl⟩)
    (case r_ROTATIONS_3_2 => first | rfl | exact ⟨_, rfl⟩)
    (case r_ROTATIONS_3_3 => first | rfl | exact ⟨_, rfl⟩)
    (case q_CONSTANTS => k_is)
    (case l_CONSTANTS => k_is)
    (case r_CONSTANTS_0 => first | rfl | exact ⟨_, rfl⟩)
    (case r_CONSTANTS_1 => first | rfl | exact ⟨_, rfl⟩)
    (case r_CONSTANTS_2 => first | rfl | exact ⟨_, rfl⟩)
    (case r_CONSTANTS_3 => first | rfl | exact ⟨_, rfl⟩)
    (case r_CONSTANTS_4 => first | rfl | exact ⟨_, rfl⟩)
    (case r_CONSTANTS_5 => first | rfl | exact ⟨_, rfl⟩)
    (case r_CONSTANTS_6 => first | rfl | exact ⟨_, rfl⟩)
    (case r_CONSTANTS_7 => first | rfl | exact ⟨_, rfl⟩)
    (case r_CONSTANTS_8 => first | rfl | exact ⟨_, rfl⟩)
    (case r_CONSTANTS_9 => first | rfl | exact ⟨_, rfl⟩)
    (case r_CONSTANTS_10 => first | rfl | exact ⟨_, rfl⟩)
    (case r_CONSTANTS_11 => first | rfl | exact ⟨_, rfl⟩)
    (case r_CONSTANTS_12 => first | rfl | exact ⟨_, rfl⟩)
    (case r_CONSTANTS_13 => first | rfl | exact ⟨_, rfl⟩)
    (case r_CONSTANTS_14 => first | rfl | exact ⟨_, rfl⟩)
    (case r_CONSTANTS_15 => first | rfl | exact ⟨_, rfl⟩)
    (case r_CONSTANTS_16 => first | rfl | exact ⟨_, rfl⟩)
    (case r_CONSTANTS_17 => first | rfl | exact ⟨_, rfl⟩)
    (case r_CONSTANTS_18 => first | rfl | exact ⟨_, rfl⟩)
    (case r_CONSTANTS_19 => first | rfl | exact ⟨_, rfl⟩)
    (case r_CONSTANTS_20 => first | rfl | exact ⟨_, rfl⟩)
    (case r_CONSTANTS_21 => first | rfl | exact ⟨_, rfl⟩)
    (case r_CONSTANTS_22 => first | rfl | exact ⟨_, rfl⟩)
    (case r_CONSTANTS_23 => first | rfl | exact ⟨_, rfl⟩)
    (case r_CONSTANTS_24 => first | rfl | exact ⟨_, rfl⟩)
    (case r_CONSTANTS_25 => first | rfl | exact ⟨_, rfl⟩)
    (case r_CONSTANTS_26 => first | rfl | exact ⟨_, rfl⟩)
    (case r_CONSTANTS_27 => first | rfl | exact ⟨_, rfl⟩)
    (case r_CONSTANTS_28 => first | rfl | exact ⟨_, rfl⟩)
    (case r_CONSTANTS_29 => first | rfl | exact ⟨_, rfl⟩)
    (case r_CONSTANTS_30 => first | rfl | exact ⟨_, rfl⟩)
    (case r_CONSTANTS_31 => first | rfl | exact ⟨_, rfl⟩)
    (case r_CONSTANTS_32 => first | rfl | exact ⟨_, rfl⟩)
    (case r_CONSTANTS_33 => first | rfl | exact ⟨_, rfl⟩)
    (case r_CONSTANTS_34 => first | rfl | exact ⟨_, rfl⟩)
    (case r_CONSTANTS_35 => first | rfl | exact ⟨_, rfl⟩)
    (case r_CONSTANTS_36 => first | rfl | exact ⟨_, rfl⟩)
    (case r_CONSTANTS_37 => first | rfl | exact ⟨_, rfl⟩)
    (case r_CONSTANTS_38 => first | rfl | exact ⟨_, rfl⟩)
    (case r_CONSTANTS_39 => first | rfl | exact ⟨_, rfl⟩)
    (case r_CONSTANTS_40 => first | rfl | exact ⟨_, rfl⟩)
    (case r_CONSTANTS_41 => first | rfl | exact ⟨_, rfl⟩)
    (case r_CONSTANTS_42 => first | rfl | exact ⟨_, rfl⟩)
    (case r_CONSTANTS_43 => first | rfl | exact ⟨_, rfl⟩)
    (case r_CONSTANTS_44 => first | rfl | exact ⟨_, rfl⟩)
    (case r_CONSTANTS_45 => first | rfl | exact ⟨_, rfl⟩)
    (case r_CONSTANTS_46 => first | rfl | exact ⟨_, rfl⟩)
    (case r_CONSTANTS_47 => first | rfl | exact ⟨_, rfl⟩)
    (case r_CONSTANTS_48 => first | rfl | exact ⟨_, rfl⟩)
    (case r_CONSTANTS_49 => first | rfl | exact ⟨_, rfl⟩)
    (case r_CONSTANTS_50 => first | rfl | exact ⟨_, rfl⟩)
    (case r_CONSTANTS_51 => first | rfl | exact ⟨_, rfl⟩)
    (case r_CONSTANTS_52 => first | rfl | exact ⟨_, rfl⟩)
    (case r_CONSTANTS_53 => first | rfl | exact ⟨_, rfl⟩)
    (case r_CONSTANTS_54 => first | rfl | exact ⟨_, rfl⟩)
    (case r_CONSTANTS_55 => first | rfl | exact ⟨_, rfl⟩)
    (case r_CONSTANTS_56 => first | rfl | exact ⟨_, rfl⟩)
    (case r_CONSTANTS_57 => first | rfl | exact ⟨_, rfl⟩)
    (case r_CONSTANTS_58 => first | rfl | exact ⟨_, rfl⟩)
    (case r_CONSTANTS_59 => first | rfl | exact ⟨_, rfl⟩)
    (case r_CONSTANTS_60 => first | rfl | exact ⟨_, rfl⟩)
    (case r_CONSTANTS_61 => first | rfl | exact ⟨_, rfl⟩)
    (case r_CONSTANTS_62 => first | rfl | exact ⟨_, rfl⟩)
    (case r_CONSTANTS_63 => first | rfl | exact ⟨_, rfl⟩)
